import PyProof.Rows.All
import KE.KDictOf
import KE.KIsAll
import KE.KFromBytes
import KE.KDictSum
import KE.KEqDict
import KE.LcSums
import KE.KItem
import Lean
import PyProof.EqAt
import PyProof.EqKinds
import PyProof.TupleCall
import PyProof.Rows.SortStr
import PyProof.StrLawsReplace
import PyProof.StrLawsIdx
import PyProof.StrLawsIn
import PyProof.StrBlockI
import PyProof.StrBlockL
import PyProof.SliceList
import PyProof.InstStoreFacts
import PyProof.NsDelKeeps
import PyProof.StationsW
import PyProof.ExcArgs
import PyProof.ExcBaseAll.ValueError
import PyProof.StrCalls
import PyProof.ListRange
import PyProof.EnumMake
import PyProof.Draws
import PyProof.FactsAll.dict
import PyProof.StrBlock2
import PyProof.Rows.SumAny
import PyProof.NeKinds
import PyProof.Rows.MinMaxN
import PyProof.Rows.Range3
import PyProof.StrLawsFirst
import PyProof.AttrMissHeap
import PyProof.Rows.CallKwBuiltin
import KE.KMinKey
import PyProof.FString2
import KE.KDictLaws
import KE.KRevIter
import PyProof.DictItems
import PyProof.ZipIter
import PySem.Challenge.RW_bandscribe_k54_rows_refused_by_readers
set_option genInjectivity false
set_option compiler.extract_closed false
set_option genSizeOf false
open PySem.Challenge renaming pw_bandscribe_k54_rows_refused_by_readers->ö,rw_bandscribe_k54_rows_refused_by_readers->Ğ
open List renaming length_map->À,getElem?_eq_getElem->Ã,getD_eq_getElem?_getD->Ë,getElem?_map->Ç,getElem?_eq_some_iff->Ñ,length_append->É,mem_of_getElem?->Ð,mem_map->Æ,mem_cons_of_mem->Ô,mem_cons_self->Ø,map_map->Î,length_take->Ú,map_cons->Ó,mem_singleton->Þ,map_append->Ü,replicate->Ý,mem_filter->ß,size_toArray->å,getElem?_append_right->ü,range->Ö,mem_append->ä,getElem?_append_left->ā,mem_cons->à,length_cons->ê,length_range->ì,take_length->ë,mem_append_right->ÿ,getElem_mem->ñ,append_assoc->ø,all_eq_true->õ,take_add_one->ý,length_replicate->č,append_nil->û,mem_append_left->ď,filter_cons_of_pos->ĥ,sum_cons->ú,lookup_cons->ĉ,mem_range->Ą,map_congr_left->ĕ,filter_cons_of_neg->Ľ,length_filter_le->Ħ,filter_eq_self->ĝ,filterMap_cons->Ĥ,nodup_cons->Đ,length_drop->ē,take_of_length_le->ŉ,take_sublist->Ĩ,eq_nil_of_length_eq_zero->Ŵ,filter_append->ń,count_pos_iff->ł,mem_of_mem_take->ő,drop_eq_nil_of_le->Ş,idxOf_lt_length_iff->ν,any_eq_true->ō,not_mem_nil->ŋ,flatten_cons->ŗ,replicate_succ->ű,getElem_of_mem->Ŭ,length_pos_iff->Š,take_append_drop->ſ,getElem_inj->Ř,getElem?_set_self->Λ,mem_flatMap->Ŧ,length_singleton->Ζ,getElem?_eq_none->Χ,mem_replicate->η,contains_cons->ž,foldl_cons->Ů,getElem?_set_ne->wcJ,length_set->ŧ,drop_append_of_le_length->wcP,length_reverse->ξ,getElem_idxOf->Ε,mem_or_eq_of_mem_set->wd5,getElem_map->Ρ,any_cons->δ,find?_cons->wdm,range_succ->Δ,map->Ķ,flatMap_cons->wdB,dropLast_concat_getLast->wdE,nodup_nil->΢,take_zero->Κ,getElem_toArray->wdN,map_take->π,length->γ,filter_sublist->wdW,nil_append->wdY,mem_filterMap->we3,map_nil->Β,getElem?_take_of_lt->we9,length_filterMap_le->wef,map_id'->Θ,prefix_append->wei,length_eq_zero_iff->wen,foldl_append->weo,drop_of_length_le->wev,map_drop->wex,singleton_append->weI,length_nil->weS,nodup_iff_count->weY,mem_iff_getElem->wf0,filter_map->wf2,flatMap_append->wf7,drop_zero->wfc,lookup->wfe,range'->wff,getElem_range->wfi,all_cons->wfl,nodup_append->wfz,getElem_take->wfB,extract_eq_take_drop->wfG,getElem?_eq_none_iff->wfH,drop_eq_getElem_cons->wfJ,all_map->wfM,any_map->wfN,range'_succ->wfP,nodup_range->wfT,take_prefix->wfU,ext_getElem->wfW,suffix_refl->wfX,of_mem_zip->wge,drop_left->wgG,take_left->wgH,getElem?_reverse->wgI,eq_nil_or_concat->wgK,concat_eq_append->wgL,filterMap_append->wgM,drop_take->wgN,range_eq_range'->wgS,idxOf_cons_self->wgV,mem_of_mem_drop->wh1,map_eq_nil_iff->whi,getElem?_range->whk,count_eq_zero->whA,any_eq_false->whF,mem_range'_1->whJ,map_dropLast->whK,ext_getElem?->whN,filter_congr->whO,drop_sublist->whQ,cons_append->wi1,drop_length->wi7,drop_append->wi9,append_inj'->wia,mem_flatten->wib,foldl->wid,idxOf_cons->wii,sum_append->wij
open PySem.W renaming Frag->Á,findIn->Ā,kia_one->Ļ,emptyDict->ŕ,recOk->ľ,xlAt->ĳ,callWith_K->ų,instObj->Ų,fnOf->Ņ,keepIn->ź,boot_heap->Ł,methodCall_KW->wdC,kitOne->ω,looks_findIn->ς,isFn->Φ,codeIn->wek,looks_clsIn->weq,kHook->wez,plainGet->weB,OpenLaw->Μ,plainGet_of->wf6,lookIn->wf9,hasDictIn->wfs,methodObj->wft,set_plain->wfy,takerIn->wgd,cellsFrom_some->wgl,looks_mroIn->wgw,SharedT->wgB,check_slot->whg,kdl_values->whv,specialIn->whC,plainOver->whE,kitx_list->whH,kitx_dict->whI,boot_o_0->whZ,handedIn->wi0,kdl_dict->wi3,kdl_call->wi4,WalkO->wic,KeqHits->wig,makesIn->wih
open PySem renaming wpAny_bind->Â,wpAny_pure->Ï,Program->Ê,bootBuiltins->ð,wpAny_loadPart_at->Č,wpAny_mono->í,mainGlobals->ó,wpAny_holding->þ,FuncData->ï,compareOp->ô,wpAny_isSubtype_exc->ŏ,excClassObj->ć,wpAny_Call_Name_kw->Ń,importedModules->Ĵ,wpAny_execs_nil->ĵ,codeAny_builtin->Ĺ,OsState->ù,strKind->ģ,sizeLine_eq->Ē,wpAny_tryCatch->Į,wpAny_truthy_bool->ř,swapsWith->Ċ,foldedSetIterable->Ś,codeAny_mono->Ī,sysModules->Ė,codeAny_call_builtin->ż,attributeBase->Ň,wpAny_call->ě,plainId_quiet->Ŏ,wpAny_execs_cons->ş,keywordEach->Ĭ,cLine->ò,lookup_relabel_local->Ξ,mem_of_lookup->wcR,wpAny_passesOwn->ŵ,wpAny_pyIter_list->υ,wpAny_pyIter_enum->Γ,Scope->Ă,wpAny_seqItems->Ž,plainObj_wpAny_Assign_Attribute->wdb,wpAny_getItem_str_slice->wdd,behindInMarks->ŷ,tupleKind_room_in1->wds,wpAny_updateSeq->Ο,GenState->Ŀ,wpAny_letGo->ũ,wpAny_Assign_Name->wdA,codeAny_handlers_test->wdG,assignEach->Ţ,wpAny_standAt->Η,wpAny_letOwnedTupleGo_enum->wdR,Builtin->ķ,wpAny_handleBy_cons->wdX,wpAny_loadPart'->we1,Result->ī,scanBound->ū,getMethod->ţ,onTheHeap->Ť,boot_len->wel,wpAny_field->Ι,checkBuiltinCall->weD,Keyword->Ŝ,seqItems?->ε,letOwnedTupleGo->weM,Within->weP,call_meets->ο,post_val_or_str->weW,excMatches->wf1,wpAny_setField->wfa,wpAny_loadPart->wfb,tupleKind->Ψ,wpAny_newObj_type->wfw,typeLookup->wfE,isInstance->wfI,call_meetsIn->wfO,wpAny_lookBehind->wfQ,pastItsLine_dict->wfR,wpAny_comprehension_free->wfS,wpAny_pyNext_enum_itemD->wg8,treeTable->wga,setFlight->wgh,codeAny_of_tree->wgj,subscripted->wgm,IsRangeIter->wgo,wpAny_pyNext_range_end->wgp,wpAny_pyIter_rangeiter->wgq,wpAny_pyNext_enum_endD->wgx,codeAny_handlers_suite->wgy,wpAny_isTrue_Compare1->wgE,weight_type_call_type->wgF,wpAny_loadName_local->wgR,PlainAttrs->wgT,wpAny_pyIter_revIter->wh0,rangeSize_one->wh7,wpAny_attempt->wha,wpAny_loadName_cell->whd,wpAt_of_wpAny->whh,seqIndex_neg->whs,wpAny_nsSet1->whx,updateSeq->whB,seqIndex_of->whS,intItems_at->whU,tc_notTuple->whW,wpAny_of_eq->whX,sliceBounds->whY,wpAt_bind->wil,call->wim
open PySem.Heap renaming get?_push_of_some->Õ,lt_size->Ì,get?_push_size->è,get?_update_other->đ,get?_update_self->Ū,size_push->Ĳ,SameBut->weR,get?_update_ne->whm
open Nat renaming le_refl->Ä,le_trans->Í,lt_of_lt_of_le->â,ne_of_lt->Ù,zero_le->Û,lt_irrefl->ă,lt_of_le_of_lt->ę,mul_le_mul->Ĕ,sub_self->Ď,lt_succ_self->ň,add_le_add->ĺ,mul_le_mul_left->Ũ,le_succ->Ġ,ne_of_gt->ı,mul_add->ĩ,not_lt_zero->ť,add_sub_cancel_left->wcQ,min_eq_left->wdZ,le_of_eq->Ν,lt_succ_of_lt->wep,lt_trichotomy->wer,le_of_lt->weQ,mul_le_mul_right->weZ,lt_or_eq_of_le->wfk,zero_add->wfY,le_of_not_lt->wfZ,le_antisymm->wgk,pow_le_pow_right->wgY,add_assoc->wh9,add_comm->wht,mul_comm->whw,lt_succ_of_le->whM,le_succ_of_le->whP,mul_one->whV,log2_le_self->wi6
open Option.some renaming inj->Ò
open PySem.Value renaming ref->È,none->Ĉ,builtin->Ŋ,type->weL,bool->wfD,int->wgb,str->wgc,isStrOf->wh4,isStrOf_shape->whc,float->whR
open Sum renaming inr->Å,inl->á
open Bool renaming false_ne_true->ã,false_eq_true->Ŗ,and_eq_true->ś,and_false->ů,false_and->ζ,false_or->Τ,true_and->wey,eq_iff_iff->weN,and_eq_true_iff->wh2,not_true->whb,or_eq_true->wie
open Int renaming toNat_natCast->ç,natCast_mul->ą,emod_nonneg->ċ,emod_lt_of_pos->Ę,natCast_add->Ō,zero_add->ŀ,mul_comm->Œ,le_refl->θ,natCast_pow->we0,le_trans->χ,le_ediv_iff_mul_le->weu,fdiv_eq_ediv_of_nonneg->wfo,add_mul_emod_self_left->wfp,le_of_mul_le_mul_right->wfq,mul_ediv_cancel_left->wfV,pow_succ->wg1,eq_ofNat_of_zero_le->wg6,add_mul->wgu,mul_ediv_add_emod->wgJ,toNat_of_nonneg->whf,mul_pos->whT,ediv_nonneg->wik
open PySem.F renaming plainAttrs_list->ė,slot_list_append->ħ,type_list_append->İ,plain_min_loop->Ż,called_set->ŭ,plain_max_loop->ŝ,excBase_ValueError->wcw,plainAttrs_dict->wde,slot_list_index->wdf,slot_dict_values->wea,entry_min_loop->wew,entry_max_loop->weE,slot_dict_get->weH,slot_dict_setdefault->wfd,called_enumerate->wfj,excAttr_ValueError->wfr,args_list_index_2->wfK,type_dict_values->wg0,entry_list_index->wg2,args_dict_get_3->wg7,type_list_index->wg9,entry_dict_get->wgt,plainAttrs_str->wgA,entry_bexc_ga->wgO,slot_str_join->wgP,type_str_join->wgQ,entry_type_call->wgU,args_bexc_ga->wgZ,slot_list_pop->why
open False renaming elim->é
open PySem.Txt renaming slice->î,mul->Ĝ,join->Ő,slice_le->weX
open PySem.W.OpenRow renaming toRowW->ĭ
open Ne renaming symm->æ
open PySem.W.RowW renaming records->į
open PySem.W.OpenLaw renaming row->ļ
open PyProof.Rows renaming callWith_type1->Ÿ,envOfC->wda,int_text_len_1921->wdt,kws_cons->weK,callWith_builtin1->weU,kws_nil->wf3,callWith_kw->wg4,sortedS->wg5,subscriptTail_builtinR->wgn,subscriptTail->wh6,kmk_tree->wio
open True renaming intro->Ć
open PySem.Around renaming under_plainId->Ŕ,under->whq,under_plain->whz
open PySem.Builtin.Str renaming strSliceIndices->Ω,occurrences->wem,subAt->whL
open PySem.NameKind renaming free->Ģ,cell->ι
open Array renaming getElem?_toList->Ź,length_toList->Ŷ,getD_eq_getD_getElem?->wcU,toArray_toList->wd4,toList_inj->weC,getElem?_eq_some_iff->wfn,getElem?_eq_none->wgs,toList_extract->wgX
open Sum.inr renaming inj->Ě
open Prod.mk renaming inj->ġ,injEq->wh3
open PySem.Str renaming ofString->ĸ,length->Ű
open Classical renaming byContradiction->wcE,choose->wi8
open PyProof.Rows.F renaming plain_set_update_loop->wcV,entry_set_update_loop->wed
open PySem.Builtin.Builtins renaming bindParams->wcY
open PySem.Obj renaming mapSeq->ņ,mapFields->μ,data_mapFields->wdq,isFreed_of_fields->weG
open PySem.Builtin.Range renaming rangeSize->wdc,small->whj
open PySem.Calls renaming spliced_cons->wdn,callWith_builtin->wdy,evalArgs_plain->weV,call_len_list->wf5,Name_function_global->wfm,spliced_nil->wfu,Constant_str->whu
open ForInStep renaming yield->Α
open PySem.PassesOwn renaming never->wdr,leaving->wfC
open Option renaming map_eq_some_iff->wdw,bind_some->wdM,map_some->weO,isSome_map->wfv,isSome_iff_exists->wfL,getD_some->wi2
open Or renaming inl->ğ
open Eq renaming trans->œ
open PySem.Builtin.List renaming listTooLong->we4
open PySem.Code renaming quiet_builtin->wee,isFrame->whr
open PySem.Data renaming fields->Υ,cell->wgg
open Prod renaming ext->š
open PySem.Heap.SameBut renaming update->wf8
open PySem.W.Looks renaming here->wfh
open List.Sublist renaming refl->wfx
open PySem.Walks renaming list->wfF
open PySem.SeqAt renaming list_indexAt->wg3,eq_listAt->wif
open PySem.SeqAt.EqAt renaming same->wgf,int_int->wgC,str_str->wgD,int_str->whn,str_int->whp
open PySem.Within renaming cons->wgi
open PyProof renaming noPylong_small->wgr
open PySem.StrLaws renaming sliceText_from->wgv,sliceText_to->wgW
open PySem.Builtin.Dict renaming samePairs->wgz
open PySem.Paired renaming length->wh5
open List.cons renaming inj->wh8
open PySem.EntryCells renaming newEntry->whe
open Std.Legacy.Range renaming forIn_eq_forIn_range'->whl
open PySem.Flt renaming mathRow->whD
open PySem.Heap.Ns1 renaming of_empty->whG
open PySem.P renaming add_list->wi5
open PySem.Builtin.Frozenset renaming updateFrom->wip
open PySem.Shared renaming TypeIs->wiq
open Nat.succ renaming inj->wir
open PySem.IsRange renaming new->wis
set_option Elab.async false
set_option linter.all false
set_option maxRecDepth 100000
set_option maxHeartbeats 4000000
namespace Tt
open PySem PySem.W PySem.Calls PyProof.Rows
noncomputable def HI(tb:String->Option ķ)(p:Ê)(w:World)(n₀:Nat)(ann:Option Value):Nat->wgB->Thread->Option wgB
 |0,_,_=>none
 |n+1,s,t=>match through t with
  |true=>some s
  |false=>match stepOk n₀ ann t with
   |false=>none
   |true=>match stepT (denote tb) p w s t with
    |some (s',t')=>HI tb p w n₀ ann n s' t'
    |none=>none
theorem HJ{tb:String->Option ķ}{p:Ê}{w:World}{n₀:Nat}{ann:Option Value}:∀{n:Nat} {s s':wgB} {t:Thread},HI tb p w n₀ ann n s t=some s'->topRun tb p w n₀ ann n s.abs t=some s'.abs
 |0,_,_,_,h=>by cases h
 |n+1,s,s',t,h=>by
  unfold HI at h;unfold topRun
  cases ht:through t with
  |true=>rw[ht]at h;cases h;rfl
  |false=>
   rw[ht]at h
   cases hk:stepOk n₀ ann t with
   |false=>rw[hk]at h;cases h
   |true=>
    rw[hk]at h
    cases hs:stepT (denote tb) p w s t with
    |none=>rw[hs]at h;cases h
    |some r=>obtain⟨s₂,t₂⟩:=r;rw[hs]at h;rw[stepT_spec hs];exact HJ h
noncomputable def sound(p:Ê)(h₀:Heap)(s:wgB):Bool:=staticsOk (Ĵ p.main.body) h₀ s.abs.heap&&namesBound p s.abs.heap&&gensDone s.abs&&laidKept h₀ s.abs.heap
theorem Lh{p q:Ê}{loose:List Str}{Xt:Shared->Bool}{α:Type}{Yf:Shared->α}{Ya:World->α}{N n m₀:Nat}{life:Params->Life}{g0:Bool}{H₀:Params->Heap}{T₀:Params->BT}{TK:Array Ŀ}{d₀:Drawn}{k₀:Nat}{ann:Option Value}
 (QN:∀w:World,(fencedOpening wga p w N).map (λs=>(s.heap,s.gens,s.drawn,s.toks))=some (H₀ w.params,TK,d₀,k₀))
 (size:∀P:Params,((H₀ P).isNs ó&&TK.size==0,(H₀ P).objs.size,(H₀ P).nsMap ó "__annotations__")=(true,m₀,ann))
 (tree:∀P:Params,absHeap (T₀ P) n (life P)=H₀ P)
 (run:∀(w:World) (os:ù),∃s,HI wga p w m₀ ann N ⟨T₀ w.params,n,life w.params,TK,d₀,k₀,os⟩ (topStub p)=some s/\sound p (H₀ w.params) s=true/\openSeen q loose (Ĵ p.main.body) Xt g0 s.abs=openGood q loose/\Yf s.abs=Ya w):LeftO p q loose Xt Yf Ya N g0:=λw=>by
 obtain⟨⟨h,gs,d,k,os⟩,e,e'⟩:=wdw.mp (QN w);obtain⟨rfl,rfl,rfl,rfl⟩:h=H₀ w.params/\gs=TK/\d=d₀/\k=k₀:=by simpa using e'
 obtain⟨z1,z2,z3⟩:_/\_/\_:=by simpa only[wh3] using size w.params
 obtain⟨s,r,l1,l2,l3⟩:=run w os;have r:=HJ r
 have ea:(SharedT.mk (T₀ w.params) n (life w.params) gs d k os).abs=⟨H₀ w.params,gs,d,k,os⟩:=by
  unfold SharedT.abs;rw[tree]
 rw[ea]at r
 have t:topFrom wga p w N ⟨H₀ w.params,gs,d,k,os⟩=some s.abs:=by
  unfold topFrom;dsimp only;rw[z1,z2,z3,r];show (match sound p (H₀ w.params) s with |true=>_ |false=>_)=_;rw[l1]
 unfold openEnds;rw[e];show (topFrom wga p w N _).map _=_;rw[t];exact congrArg some (š l2 l3)
theorem O5{S A B C:Type}{o:Option S}{f:S->A}{g:S->B}{h:S->C}{a:A}{b:B}{c:C}(x:o.map f=some a)(y:o.map g=some b)(z:o.map h=some c):∃s,o=some s/\f s=a/\g s=b/\h s=c:=by
 cases o with
 |none=>cases x
 |some s=>exact⟨s,rfl,Ò x,Ò y,Ò z⟩
theorem four{S A B C D E F G:Type}{o:Option S}{f:S->A×B×C×D×E×F×G}{a:A×B×C×D×E×F×G}(h1:o.map (λs=>(f s).1)=some a.1)(h2:o.map (λs=>((f s).2.1,(f s).2.2.1))=some (a.2.1,a.2.2.1))(h3:o.map (λs=>((f s).2.2.2.1,(f s).2.2.2.2.1))=some (a.2.2.2.1,a.2.2.2.2.1))(h5:o.map (λs=>(f s).2.2.2.2.2.1)=some a.2.2.2.2.2.1)(h4:o.map (λs=>(f s).2.2.2.2.2.2)=some a.2.2.2.2.2.2):o.map f=some a:=by
 cases o with
 |none=>cases h1
 |some s=>
  have e1:(f s).1=a.1:=Ò h1;have e2:((f s).2.1,(f s).2.2.1)=(a.2.1,a.2.2.1):=Ò h2;have e3:((f s).2.2.2.1,(f s).2.2.2.2.1)=(a.2.2.2.1,a.2.2.2.2.1):=Ò h3;have e5:(f s).2.2.2.2.2.1=a.2.2.2.2.2.1:=Ò h5;have e4:(f s).2.2.2.2.2.2=a.2.2.2.2.2.2:=Ò h4;exact congrArg some (š e1 (š (ġ e2).1 (š (ġ e2).2 (š (ġ e3).1 (š (ġ e3).2 (š e5 e4))))))
theorem cut(n:Nat){o:Option wgB}{as:List Addr}{v:List (Option Obj)}(h:o.map (λs=>(as.take n).map s.abs.heap.get?)=some (v.take n))(h':o.map (λs=>(as.drop n).map s.abs.heap.get?)=some (v.drop n)):o.map (λs=>as.map s.abs.heap.get?)=some v:=by
 cases o with
 |none=>cases h
 |some s=>
  have h1:(as.take n).map s.abs.heap.get?=v.take n:=Ò h;have h2:(as.drop n).map s.abs.heap.get?=v.drop n:=Ò h';show some (as.map s.abs.heap.get?)=some v;rw[<-ſ n as,Ü,h1,h2,ſ]
end Tt
namespace K54
open PySem PySem.W
noncomputable def tp(i:Nat):Stmt:=ö.main.body.getD i (.Pass ⟨0,0,0,0⟩)
noncomputable def view:Ê:={ö with main:={ö.main with body:=[tp 0,tp 2,tp 3,tp 4,tp 5,tp 6,tp 7,tp 8,tp 9,tp 10,tp 11,tp 12,tp 13,tp 14,tp 15,tp 16,tp 17,tp 18,tp 20,tp 22,tp 23,tp 24,tp 26,tp 27,tp 28,tp 29,tp 30,tp 31,tp 32,tp 33,tp 34,tp 35,tp 36,tp 37,tp 39,tp 40,tp 41,tp 42,tp 43,tp 45,tp 46,tp 47,tp 48,tp 49,tp 51,tp 52,tp 53,tp 54,tp 55,tp 57,tp 58,tp 59,tp 60,tp 61,tp 62,tp 63,tp 65,tp 66,tp 67,tp 68,tp 69,tp 70,tp 71,tp 72,tp 73,tp 74,tp 75,tp 76,tp 77,tp 78,tp 79,tp 81,tp 82,tp 83,tp 84,tp 85,tp 87,tp 88,tp 89,tp 90,tp 91,tp 92,tp 93,tp 94,tp 95]}}
noncomputable def tree0(P:Params):BT:=(.node (boot_o_0 P) (.node (boot_o_1 P) (.node (boot_o_3 P) (.node (boot_o_7 P) .nil .nil) .nil) (.node (boot_o_5 P) (.node (boot_o_9 P) .nil .nil) .nil)) (.node (boot_o_2 P) (.node (boot_o_4 P) (.node (boot_o_8 P) .nil .nil) .nil) (.node (boot_o_6 P) (.node (boot_o_10 P) .nil .nil) .nil)))
noncomputable def run(w:World)(os:ù):Option wgB:=(Tt.HI wga ö w 11 (some (È 6)) 8100 ⟨tree0 w.params,11,(Ł w.params).life,Array.mk [],boot_drawn,boot_toks,os⟩ (topStub ö))
noncomputable def lhsS(w:World)(os:ù):=(run w os).map (λs=>Tt.sound ö (Ł w.params) s)
noncomputable def lhsA1(w:World)(os:ù):=(run w os).map (λs=>(openSeen view [] (Ĵ ö.main.body) (λs=>ĳ view [] s&&ľ (į (ĭ (ļ Ğ))) s) true s.abs).1)
noncomputable def lhsA2(w:World)(os:ù):=(run w os).map (λs=>((openSeen view [] (Ĵ ö.main.body) (λs=>ĳ view [] s&&ľ (į (ĭ (ļ Ğ))) s) true s.abs).2.1,(openSeen view [] (Ĵ ö.main.body) (λs=>ĳ view [] s&&ľ (į (ĭ (ļ Ğ))) s) true s.abs).2.2.1))
noncomputable def lhsA3(w:World)(os:ù):=(run w os).map (λs=>((openSeen view [] (Ĵ ö.main.body) (λs=>ĳ view [] s&&ľ (į (ĭ (ļ Ğ))) s) true s.abs).2.2.2.1,(openSeen view [] (Ĵ ö.main.body) (λs=>ĳ view [] s&&ľ (į (ĭ (ļ Ğ))) s) true s.abs).2.2.2.2.1))
noncomputable def lhsA5(w:World)(os:ù):=(run w os).map (λs=>(openSeen view [] (Ĵ ö.main.body) (λs=>ĳ view [] s&&ľ (į (ĭ (ļ Ğ))) s) true s.abs).2.2.2.2.2.1)
noncomputable def lhsA4(w:World)(os:ù):=(run w os).map (λs=>(openSeen view [] (Ĵ ö.main.body) (λs=>ĳ view [] s&&ľ (į (ĭ (ļ Ğ))) s) true s.abs).2.2.2.2.2.2)
noncomputable def lhsB(as:List Addr)(w:World)(os:ù):=(run w os).map (λs=>as.map s.abs.heap.get?)
end K54
noncomputable def PySem.W.Fast.tw14598715356260435866:=whZ
theorem PySem.W.Fast.te14598715356260435866:whZ=PySem.W.Fast.tw14598715356260435866:=rfl
noncomputable def PySem.W.Fast.tw13236079865623261424:=ö
theorem PySem.W.Fast.te13236079865623261424:ö=PySem.W.Fast.tw13236079865623261424:=rfl
noncomputable def PySem.W.Fast.tw13899100880601395773:=whD
theorem PySem.W.Fast.te13899100880601395773:whD=PySem.W.Fast.tw13899100880601395773:=rfl
lay_quick K54.lhsS K54.lhsA1 K54.lhsA2 K54.lhsA3 K54.lhsA4 K54.lhsA5 K54.lhsB
section
open PySem PySem.W PyProof.Rows
local macro_rules |`(tactic|o_head $H)=>`(tactic|(refine PySem.W.holds_open (q:=K54.view) (loose:=[]) (Xt:=λs=>PySem.W.xlAt K54.view [] s&&PySem.W.recOk (PySem.W.RowW.records (PySem.W.OpenRow.toRowW (PySem.W.OpenLaw.row PySem.Challenge.rw_bandscribe_k54_rows_refused_by_readers))) s) (XP:=PySem.W.XL K54.view []) (Yf:=PySem.W.Hook.obs $H) (Ya:=PySem.W.Hook.val $H) (YP:=PySem.W.Hook.says $H) (N:=8100) ?hl (PySem.W.Hook.of $H) (PySem.W.Hook.keeps $H) (λs e=>PySem.W.xl_of s (Bool.and_eq_true_iff.mp e).1) PySem.W.XL.keeps (by rfl) (by rfl) (by rfl) (λs e=>PySem.W.recFacts_of (Bool.and_eq_true_iff.mp e).2) (by rfl) (by first |assumption |decide+kernel) (by decide+kernel) ⟨rfl,rfl,rfl,rfl,rfl,by decide+kernel⟩ ?hw ?hc;(case hl=>(intro w;contradiction))))
theorem K54.pre(h:False):(Ğ).Holds:=by
 w_on;o_law;k_head
 all_goals contradiction
end
namespace K54
open PySem PySem.W
noncomputable def addrs:List Addr:=[2,3,15,17,18,20,21,22,29,30,31,32,35,42,43,44,47,54,56,57,59,60,61,62,63,66,73,75,76,78,79,80,81,82,85,92,94,95,97,98,99,100,101,104,111,113,114,116,117,118,119,120,123,130,132,133,135,136,137,138,139,142,149,150,151,154,161,162,163,166,173,174,175,178,185,187,188,190,191,192,193,194,197,204,206,207,209,210,211,212,213,216,223,224,225,228,235,237,238,240,241,242,243,244,247,254,255,256,259,266,267,268,271,278,279,280,283,285,286,288,289,290,292,293,295,296,297,299,300,302,303,311,313,314,316,317,318,320,321,323,324,325,328,329,330,332,333,335,336,337,339,340,342,343,344,346,347,349,350,351,354,355,356,358,359,361,362,363,364,365,366,367,370,373,374,375,377,378,380,381,382,384,385,387,388,389,391,392,394,395,396,399,400,401,403,404,406,407,408,410,411,413,414,415,417,418,420,421,422,425,426,427,430,431,439,441,442,444,445,446,448,449,451,452,453,455,456,458,459,460,462,463,465,466,467,469,470,472,473,474,476,477,479,480,481,483,484,486,487,488,490,491,493,494,495,497,498,500,501,502,505,506,507,508,509,510,511,514,516,517,519,520,521,523,524,526,527,528,530,531,533,534,535,537,538,540,541,542,545,546,547,550,551,552,554,555,557,558,559,562,563,564,566,567,569,570,571,573,574,576,577,578,581,582,583,586,587,588,590,591,593,594,595,597,598,600,601,602,604,605,607,608,609,612,613,621,624,625,626,627,628,629,630,633,636,637,638,640,641,643,644,645,648,649,650,652,653,655,656,657,660,661,662,664,665,667,668,676,679,680,681,683,684,686,687,688,689,690,691,692,695,697,698,700,701,702,704,705,707,708,709,711,712,714,715,716,719,720,721,724,725,726,729,730,731,733,734,736,737,738,740,741,743,744,745,748,749,750,752,753,755,756,757,759,760,762,763,764,767,768,769,771,772,774,775,776,778,779,781,782,790,793,794,795,797,798,800,801,802,804,805,807,808,809,811,812,814,815,816,818,819,821,822,823,825,826,828,829,830,832,833,835,836,837,840,841,842,844,845,847,848,849,851,852,854,855,856,857,858,859,860,863,865,866,868,869,870,872,873,875,876,877,880,881,882,884,885,887,888,889,891,892,894,895,896,898,899,901,902,903,906,907,908,910,911,913,914,915,918,919]
open PyProof.Rows in
theorem pS(w:World)(os:ù):lhsS w os=some true:=œ (congrFun (congrFun PySem.W.Fast.te3737583053838728445 w) os) (by kernel_rfl)
open PyProof.Rows in
theorem ZS(w:World)(os:ù):lhsA5 w os=some (plainGoodE view (looseW view [])):=œ (congrFun (congrFun PySem.W.Fast.te1068962722003516320 w) os) (by kernel_rfl)
open PyProof.Rows in
theorem ZT(w:World)(os:ù):lhsA3 w os=some (true,pinGoodD (drecsOf view)):=œ (congrFun (congrFun PySem.W.Fast.te9057330700052833026 w) os) (by kernel_rfl)
open PyProof.Rows in
theorem ZU(w:World)(os:ù):lhsA4 w os=some (plainGoodD view [],wideGood view,clsGoodW view []):=œ (congrFun (congrFun PySem.W.Fast.te880811002741107775 w) os) (by kernel_rfl)
open PyProof.Rows in
theorem ZV(w:World)(os:ù):lhsA1 w os=some (expectedOf view):=œ (congrFun (congrFun PySem.W.Fast.te5262810755215436444 w) os) (by kernel_rfl)
open PyProof.Rows in
theorem ZW(w:World)(os:ù):lhsA2 w os=some (bltViewBooted,true):=œ (congrFun (congrFun PySem.W.Fast.te15470546234047923136 w) os) (by kernel_rfl)
theorem ZX(w:World)(os:ù):lhsB (K54.addrs.take 160) w os=some (((K54.pre.heap_39 w.params).map λp=>some p.2).take 160):=œ (congrFun (congrFun (congrFun PySem.W.Fast.te333278721355925382 _) w) os) (by kernel_rfl)
theorem ZY(w:World)(os:ù):lhsB (K54.addrs.drop 160) w os=some (((K54.pre.heap_39 w.params).map λp=>some p.2).drop 160):=œ (congrFun (congrFun (congrFun PySem.W.Fast.te333278721355925382 _) w) os) (by kernel_rfl)
theorem op:opening ö=plainProg ö.main.scope.names:=by kernel_rfl
theorem fe(s:Shared):fenceModules? ö s=some s:=by kernel_rfl
theorem tr(P:Params):absHeap (tree0 P) 11 (Ł P).life=Ł P:=by kernel_rfl
theorem sz(P:Params):((Ł P).isNs ó&&(Array.mk []:Array Ŀ).size==0,(Ł P).objs.size,(Ł P).nsMap ó "__annotations__")=(true,11,(some (È 6))):=by kernel_rfl
theorem whole:LeftO ö view [] (λs=>ĳ view [] s&&ľ (į (ĭ (ļ Ğ))) s) (λs=>K54.addrs.map s.heap.get?) (λw=>((K54.pre.heap_39 w.params).map λp=>some p.2)) 8100:=Tt.Lh (H₀:=Ł) (T₀:=tree0) (life:=λP=>(Ł P).life) (boot_open op (by decide+kernel) fe) sz tr λw os=>Tt.O5 (o:=run w os) (f:=λs=>Tt.sound ö (Ł w.params) s) (g:=λs=>openSeen view [] (Ĵ ö.main.body) (λs=>ĳ view [] s&&ľ (į (ĭ (ļ Ğ))) s) true s.abs) (h:=λs=>K54.addrs.map s.abs.heap.get?) (pS w os) (Tt.four (o:=run w os) (f:=λs=>openSeen view [] (Ĵ ö.main.body) (λs=>ĳ view [] s&&ľ (į (ĭ (ļ Ğ))) s) true s.abs) (a:=openGood view []) (ZV w os) (ZW w os) (ZT w os) (ZS w os) (ZU w os)) (Tt.cut (o:=run w os) 160 (ZX w os) (ZY w os))
end K54
open PySem
open AutoSeq1 (wpAny_loadPart')
open PySem.W (Looks looks_findIn looks_typeIn InitBack bind_fn findIn clsIn specialIn readsIn findCls keepIn isFn typeIn InstAt looks_find looks_hook looks_mroIn takesIn mroIn subIn KitX kitOne kitCls kia_one findObj findObj_data class_get handed_on handedOut_of)
open _root_.Option renaming some->ρ,none->τ
section
def fqq(x:Array Lean.Syntax)(a b:Lean.MacroM Lean.Syntax)(f:Lean.Syntax->Lean.MacroM Lean.Syntax):Lean.MacroM (Array Lean.Syntax):=do
 let mut y:=#[]
 for e in x do
  match e.isNatLit? with
  |some n=>for _ in [0:n] do y:=(y.push (←a)).push (←b)
  |none=>y:=y.push (←f e)
 return y
local macro_rules|`(tactic|lia)=>`(tactic|lia-abstractProof)
local macro_rules(kind:=«term{_}»)|`({$x,*})=>do
 let y:=(←fqq x.getElems (`(_)) (`(rfl)) pure).map λe=>(⟨e⟩:Lean.Term)
 `(⟨$y,*⟩)
def fpp:Nat->Lean.Syntax->Lean.MacroM Lean.Syntax
 |0,_=>Lean.Macro.throwUnsupported
 |k+1,s=>do
  let s:=if s.getKind==Lean.choiceKind then (s.getArgs.find? (·.getKind==`«term{_}»)).getD s else s
  if s.isIdent then `(rcasesPat|$(⟨s⟩):ident)
  else if s.getKind==`«term{_}» then
   let y:=(←fqq s[1].getSepArgs (`(rcasesPat|_)) (`(rcasesPat|$(Lean.mkIdent `rfl):ident)) (fpp k)).map λe=>(⟨e⟩:Lean.TSyntax `rcasesPat)
   `(rcasesPat|⟨$[$y:rcasesPat],*⟩)
  else if s.isOfKind `Lean.Parser.Term.hole then `(rcasesPat|_) else Lean.Macro.throwUnsupported
local macro_rules|`(tactic|let $p:term:=$e)=>do
 let q:Lean.TSyntax `rcasesPat:=⟨←fpp 9 p⟩
 `(tactic|obtain $q:rcasesPat:=$e)
local macro_rules|`(($n:num))=>`($(Lean.mkIdent `_L.pv) $n)
local macro_rules|`($x.$i:fieldIdx)=>match i.raw.isFieldIdx? with
 |some 8=>`($(x).heap.objs.size)
 |some 7=>`($(x).objs.size)
 |some 9=>`($(x).length)
 |some 6=>`($(x).toArray)
 |some 5=>`($(x).env)
 |_=>Lean.Macro.throwUnsupported
local macro_rules|`(())=>`(by lia)
local macro_rules|`($x:scientific)=>`(by omega)
local macro_rules|`(∅)=>`(by decide+kernel)
local macro_rules|`(⋯)=>`(by decide)
namespace _L
open PySem.Spec PyProof.Rows
noncomputable abbrev Key:=Sum Int Str
noncomputable def ye:Key->Value->Bool
 |.inl k,v=>Value.isInt k v
 |.inr x,v=>wh4 x v
noncomputable def UC(w:World):Key->Int
 |.inl k=>hashInt k
 |.inr x=>hashStr w x
theorem cq:∀{k:Key} {v:Value},ye k v=true->(∃i t,k=á i/\v=wgb i t)\/(∃x t,k=Å x/\v=wgc x t)
 |.inl i,v,h=>by
  let{t,e}:=Value.isInt_shape (k:=i) (v:=v) h
  exact .inl ⟨i,t,rfl,e⟩
 |.inr x,v,h=>by
  let{t,e}:=whc (x:=x) (v:=v) h
  exact .inr ⟨x,t,rfl,e⟩
theorem Fs(i:Int)(t:Tok):ye (.inl i) (.int i t)=true:=by simp[ye,Value.isInt]
theorem Ft(x:Str)(t:Tok):ye (.inr x) (.str x t)=true:=by simp[ye,wh4]
theorem O6(a b:Int):decide ((á a:Key)=á b)=(a==b):=by
 grind
theorem O7(a b:Str):decide ((Å a:Key)=Å b)=decide (a=b):=by simp_all [Key,Ě,decide_eq_false]
theorem O8(a:Int)(b:Str):decide ((á a:Key)=Å b)=false:=decide_eq_false (λq=>nomatch q)
theorem O9(a:Str)(b:Int):decide ((Å a:Key)=á b)=false:=decide_eq_false (λq=>nomatch q)
noncomputable def bA(prog:Ê)(w:World):PySem.KeyKind prog w Key where
 is:=ye
 hash:=UC w
 inj:=λv a b ha hb=>by
  rcases cq ha with⟨i,t,rfl,rfl⟩ |⟨x,t,rfl,rfl⟩
  .rcases cq hb with⟨j,u,rfl,e⟩ |⟨y,u,rfl,e⟩
   .injection e with e1 _;rw[e1]
   .exact nomatch e
  .rcases cq hb with⟨j,u,rfl,e⟩ |⟨y,u,rfl,e⟩
   .exact nomatch e
   .injection e with e1 _;rw[e1]
 byValue:=λk v h=>by
   rcases cq h with⟨i,t,rfl,rfl⟩ |⟨x,t,rfl,rfl⟩<;>rfl
 pyHash:=λhv h=>by
  rcases cq hv with⟨i,t,rfl,rfl⟩ |⟨x,t,rfl,rfl⟩
  .exact wpAny_pyHash_int h
  .exact wpAny_pyHash_str h
 eqBool:=λhu hv h=>by
  rcases cq hu with⟨i,t,rfl,rfl⟩ |⟨x,t,rfl,rfl⟩
  .rcases cq hv with⟨j,u,rfl,rfl⟩ |⟨y,u,rfl,rfl⟩
   .rw[O6]at h;exact wpAny_eqBool_int h
   .rw[O8]at h;exact whn i t y u _ _ _ _ h
  .rcases cq hv with⟨j,u,rfl,rfl⟩ |⟨y,u,rfl,rfl⟩
   .rw[O9]at h;exact whp x t j u _ _ _ _ h
   .rw[O7]at h;exact wpAny_eqBool_str h
 «strs»:=λk x t v h=>by
  rcases cq h with⟨i,u,rfl,e⟩ |⟨y,u,rfl,e⟩
  .exact nomatch e
  .injection e with e1 _
   subst e1;cases v<;>rfl
theorem AB(prog:Ê)(w:World)(i:Int)(t:Tok):(bA prog w).is (.inl i) (.int i t)=true:=Fs i t
theorem AD(prog:Ê)(w:World)(x:Str)(t:Tok):(bA prog w).is (.inr x) (.str x t)=true:=Ft x t
set_option genInjectivity true in
inductive V where
 |non |bl (b:Bool) |int (i:Int) |str (x:Str) |byt (b:Array UInt8) |flt (b:UInt64) |ref (a:Addr) |ty (n:String)
 deriving DecidableEq
def RelV:V->Value->Prop
 |.non,u=>u=Ĉ
 |.bl b,u=>u=wfD b
 |.int i,u=>∃t,u=wgb i t
 |.str x,u=>∃t,u=wgc x t
 |.byt b,u=>∃t,u=Value.bytes b t
 |.flt b,u=>∃t,u=whR b t
 |.ref a,u=>u=È a
 |.ty n,u=>u=weL n
abbrev Vals:List V->List Value->Prop:=Paired RelV
theorem Vals.length{xs:List V}{us:List Value}(r:Vals xs us):xs.9=us.9:=wh5 r
theorem Vals.get:∀{xs:List V} {us:List Value} {i:Nat} {x:V},Vals xs us->xs[i]?=ρ x->∃u,us[i]?=ρ u/\RelV x u
 |_,_,_,_,.nil,e=>by simp at e
 |_,_,0,_,.cons r _,e=>by simp at e;subst e;exact{_,rfl,r}
 |_,_,i+1,x,.cons _ t,e=>by
  let{u,a,b}:=Vals.get (i:=i) (x:=x) t (by simpa using e)
  exact{u,by simpa using a,b}
theorem Vals.set(r:RelV x u):∀{xs:List V} {us:List Value} (i:Nat),Vals xs us->Vals (xs.set i x) (us.set i u)
 |_,_,_,.nil=>.nil
 |_,_,0,.cons _ t=>.cons r t
 |_,_,i+1,.cons q t=>.cons q (Vals.set r i t)
theorem Vals.append:∀{xs ys:List V} {us ws:List Value},Vals xs us->Vals ys ws->Vals (xs++ys) (us++ws)
 |_,_,_,_,.nil,s=>s
 |_,_,_,_,.cons r t,s=>.cons r (Vals.append t s)
theorem Vals.take:∀{xs:List V} {us:List Value} (n:Nat),Vals xs us->Vals (xs.take n) (us.take n)
 |_,_,0,_=>.nil
 |_,_,_+1,.nil=>.nil
 |_,_,n+1,.cons r t=>.cons r (Vals.take n t)
theorem Vals.drop:∀{xs:List V} {us:List Value} (n:Nat),Vals xs us->Vals (xs.drop n) (us.drop n)
 |_,_,0,r=>r
 |_,_,_+1,.nil=>.nil
 |_,_,n+1,.cons _ t=>Vals.drop n t
def jw:Option V->Option Value->Prop
 |some v,ρ u=>RelV v u
 |none,τ=>True
 |_,_=>False
def KV{κ:Type}:List (κ×V)->List (κ×Value)->Prop:=Paired λ(p:κ×V) (q:κ×Value)=>p.1=q.1/\RelV p.2 q.2
noncomputable def kV:Key->V
 |.inl i=>.int i
 |.inr x=>.str x
set_option genInjectivity true in
inductive HO where
 |lst (xs:List V)
 |tup (xs:List V)
 |dK (kvs:List (Key×V)) |dT (kvs:List (List Key×V))
 |set (S:Int->Bool) (n:Nat)
 |ins (C dx:Addr) (fs:List (Str×V))
 |own (x:Addr)
 |xd (fs:List (Str×V))
 |met (f x:Addr)
 |rng (lo hi:Int)
 |frz (o:Obj) (u:HO)
 |tbl (ps:Array Value)
 |ext (φ:Heap->Prop)
noncomputable abbrev Hp:=Addr->Option HO
noncomputable def upd(H:Hp)(a:Addr)(o:HO):Hp:=λb=>if b=a then ρ o else H b
theorem a6:upd H a o a=ρ o:=by delta upd;rw[if_pos rfl]
theorem ae(h:b≠a):upd H a o b=H b:=by delta upd;rw[if_neg h]
theorem Eg:upd (upd H a o) a u=upd H a u:=by
 funext b;delta upd;split<;>rfl
theorem QO{H:Hp}{a b:Addr}{o u:HO}(h:H a=ρ o)(h':H b=ρ u)(d:o≠u):a≠b:=by grind [Ò]
theorem af{H:Hp}{a b:Addr}{o:HO}(h:H a=ρ o)(h':H b=τ):a≠b:=by
 grind
def Rd(H:Hp)(a:Addr)(u:HO):Prop:=H a=ρ u\/∃o,H a=ρ (.frz o u)
def QP:Option HO->Prop
 |some (.lst _)=>True
 |some (.dK _)=>True
 |some (.dT _)=>True
 |some (.set _ _)=>True
 |some (.ins _ _ _)=>True
 |some (.ext _)=>True
 |_=>False
structure Un(fs ex:List Addr)(H H':Hp)(h h':Heap):Prop where
 keep:∀b o,h.get? b=ρ o->H b=τ->b∉fs->b∉ex->h'.get? b=ρ o
 slot:∀b o,h.get? b=ρ o->H b=τ->b∈fs->b∉ex->∃sl,h'.get? b=ρ {o with slots:=sl}
 free:∀b o,h.get? b=ρ o->H b=τ->b∉ex->H' b=τ
 there:∀b o,h.get? b=ρ o->b∉ex->∃o',h'.get? b=ρ o'
 rD:∀b xs,H b=ρ (.tup xs)->H' b=ρ (.tup xs)
 pD:∀b o u,H b=ρ (.frz o u)->H' b=ρ (.frz o u)
 rE:∀b ps,H b=ρ (.tbl ps)->∃more,H' b=ρ (.tbl (ps++more))
noncomputable def UD(h:Heap)(H:Hp):List Addr:=(Ö h.7).filter λa=>(H a).isSome
noncomputable def zt(h:Heap)(H:Hp):Heap:=PySem.W.hideAll h (UD h H)
theorem Fu(h:Heap)(H:Hp):(zt h H).objs.size=h.7:=PySem.W.hideAll_size _ _
theorem HK(e:h.get? b=ρ o)(n:H b=τ):(zt h H).get? b=ρ o:=
 PySem.W.hideAll_get _ e λa=>by
  have q:(H b).isSome=true:=(ß.mp a).2;rw[n]at q;simp at q
theorem Li(e:(zt h H).get? b=ρ o):h.get? b=ρ o/\H b=τ:=by
 have a:h.get? b=ρ o:=PySem.W.of_hideAll (UD h H) e;refine{a,?_}
 cases q:H b with
 |none=>rfl
 |some x=>
  grind [UD,Ì,zt,PySem.W.hideAll_none]
noncomputable def Lj(g h:Heap)(L:Addr):List (Addr×Obj):=(Ö h.7).filterMap λa=>if a=L\/(g.get? a).isSome=true then τ else(h.get? a).map λo=>(a,o)
noncomputable def rest(g h:Heap)(L d:Addr):List (Addr×Obj):=(Lj g h L).filter λp=>decide (p.1≠d)
structure Mod(K:Á)(mg:Str->Option Value)(base:Heap):Prop where
 Ln:K.In base
 glob:base.Ns ó mg
 blt:∃mb,base.Ns builtinsNs mb/\∀x:Str,x≠"__name__"->mb x=ð x
 nolimit:base.NoLimit
structure Cx where
 prog:Ê
 w:World
 K:Á
 mg:Str->Option Value
 base:Heap
 A:Around
 N:List Str
 s₀:Shared
 H₀:Hp
 env:Env
 outer:List Env
 stack:List Env
 ex:List Addr
 fn:Str->Bool
 calm:Bool
 pn:List (Addr×Obj)
 xe:Value->Shared->Prop
noncomputable def rA(l:List Env):List Addr:=l.filterMap (·.frame)
noncomputable abbrev Cx.fs(X:Cx):List Addr:=rA X.outer
def Qm(sc:Ă)(x:Str):Prop:=sc.names.lookup x=ρ .local\/sc.names.lookup x=ρ .cell\/sc.names.lookup x=ρ .free
def Loc(sc:Ă)(x:Str):Prop:=sc.names.lookup x=ρ .local\/sc.names.lookup x=ρ .cell
def Look(env:Env)(h:Heap)(m:Str->Option Value)(x:Str)(u:Value):Prop:=
 (env.kindOf x=ρ .local/\m x=ρ u)\/((env.kindOf x=ρ .cell\/env.kindOf x=ρ .free)/\∃c,env.cells.lookup x=ρ c/\h.IsCell c (ρ u))
structure Cx.Ok(X:Cx):Prop where
 mod:Mod X.K X.mg X.base
 kind:X.env.scope.kind=.function
 glob:X.env.globals=ó
 blt:X.env.builtins=builtinsNs
 above:X.s₀.8<=X.env.locals
 inj:∀x y c,X.env.cells.lookup x=ρ c->X.env.cells.lookup y=ρ c->x=y
 has:∀x,(X.env.kindOf x=ρ .cell\/X.env.kindOf x=ρ .free)->∃c,X.env.cells.lookup x=ρ c
 Oa:∀x c,X.fn x=true->X.env.cells.lookup x=ρ c->X.s₀.8<=c
 hd:X.calm=true->X.A.handled=τ
 frames:X.A.frames=ρ X.stack
 Qn:X.stack=X.outer\/(X.stack=X.5::X.outer/\X.env.frame=ρ X.env.locals)
 TL:∀b∈X.ex,b≠X.env.locals/\∀x c,X.env.cells.lookup x=ρ c->c≠b
 bs:∀b o,X.base.get? b=ρ o->X.s₀.heap.get? b=ρ o/\X.H₀ b=τ
 HL:X.base.7<=X.s₀.8
 Ck:∀b o,X.base.get? b=ρ o->b∉X.ex
 Fv:∀b∈X.ex,b∉X.fs
 pE:X.s₀.heap.FunFrames X.base X.outer
 Lp:∀b∈X.fs,X.H₀ b=τ
theorem uX{N:List Str}(g:N.Nodup){i j:Nat}{x:Str}(a:N[i]?=ρ x)(b:N[j]?=ρ x):i=j:=by
 let{e,c}:=Ñ.mp a
 let{f,d}:=Ñ.mp b
 exact(Ř g).mp (c.trans d.symm)
noncomputable abbrev XK:=Value->Option Addr->Hp->Prop
noncomputable abbrev St:=List (Option V)
noncomputable abbrev VK:=V->Hp->Prop
noncomputable abbrev TE:=St->Hp->VK->Prop
noncomputable abbrev TT:=St->Hp->(Bool->Hp->Prop)->Prop
noncomputable abbrev TA:=St->Hp->(List V->Hp->Prop)->Prop
structure Bx(p:Prop):Prop where
 go:p
instance {p:Prop}:CoeFun (Bx p) λ_=>p:=⟨Bx.go⟩
theorem bQ{α:Type}{t:Sem α}{Q g:α->Shared->Prop}{M:Model}{A:Around}{E:Value->Shared->Prop}{s:Shared}(h:wpAny M A t Q E s)(j:∀a s,Q a s->g a s):wpAny M A t g E s:=í h j λ_ _ x=>x
inductive Lq(i:Nat)(σ:St)(H:Hp)(Q:VK):Prop
 |mk (v) (_:σ[i]?=ρ (ρ v)) (_:Q v H)
def tC(v:V):TE:=λ_ H Q=>Q v H
inductive Xx(x:V)(H:Hp)(Q:Bool->Hp->Prop):Prop
 |mk (c) (_:x=.bl c) (_:Q c H)
def tB(t:TE):TT:=λσ H Q=>t σ H λx H1=>Xx x H1 Q
def UE(t u:TT):TT:=λσ H Q=>t σ H λc H1=>if c=true then u σ H1 Q else Q false H1
def ZZ(t u:TT):TT:=λσ H Q=>t σ H λc H1=>if c=true then Q true H1 else u σ H1 Q
def UG(t:TT):TT:=λσ H Q=>t σ H λc H1=>Q (!c) H1
def aO(K:Á)(H:Hp)(a:Addr)(xs:List V):Prop:=
 Rd H a (.lst xs) \/
  ∃(o:Obj) (its:Array Value) (n:Nat),K.lookup a=ρ o/\o.cls=.type "list"/\o.dict=τ/\o.data=.seq its n/\its.size<=sizeLine/\Vals xs its.toList
def gM(K:Á)(H:Hp)(a:Addr)(xs:List V):Prop:=
 Rd H a (.tup xs) \/
  ∃(o:Obj) (its:Array Value) (n:Nat),K.lookup a=ρ o/\o.cls=.type "tuple"/\o.data=.seq its n/\its.size<=sizeLine/\Vals xs its.toList
noncomputable def UH:Value->Option V
 |.none=>ρ .non
 |.bool b=>ρ (.bl b)
 |.int i _=>ρ (.int i)
 |.str x _=>ρ (.str x)
 |.bytes b _=>ρ (.byt b)
 |.float b _=>ρ (.flt b)
 |.ref a=>ρ (.ref a)
 |.type n=>ρ (.ty n)
 |_=>τ
theorem RelV.abs{x:V}{u:Value}(r:RelV x u):UH u=ρ x:=by
 cases x with
 |non=>cases r;rfl
 |bl _=>cases r;rfl
 |int _=>let{t,rfl}:=r;rfl
 |str _=>let{t,rfl}:=r;rfl
 |byt _=>let{t,rfl}:=r;rfl
 |flt _=>let{t,rfl}:=r;rfl
 |ref _=>cases r;rfl
 |ty _=>cases r;rfl
theorem RelV.inj{x y:V}{u:Value}(r:RelV x u)(q:RelV y u):x=y:=Ò (r.abs.symm.trans q.abs)
theorem Vals.inj:∀{xs ys:List V} {us:List Value},Vals xs us->Vals ys us->xs=ys
 |_,_,_,.nil,.nil=>rfl
 |_,_,_,.cons r t,.cons a b=>by rw[r.inj a,Vals.inj t b]
noncomputable abbrev Cx.kl(X:Cx)(E:Value->Shared->Prop):Cx:={X with xe:=E}
noncomputable abbrev Cx.HC(X:Cx):Cx:=X.kl λ_ _=>False
noncomputable abbrev TG:=V->St->Hp->(St->Hp->Prop)->Prop
noncomputable abbrev TN:=List V->St->Hp->(St->Hp->Prop)->Prop
noncomputable abbrev Ob:=V->V->V->Hp->(Hp->Prop)->Prop
noncomputable abbrev QQ:=V->V->Hp->VK->Prop
def bR(i:Nat):TG:=λv σ H Q=>Q (σ.set i (ρ v)) H
inductive HM(vs:List V)(σ:St)(H:Hp)(Q:St->Hp->Prop):Prop
 |mk (_:vs=[]) (_:Q σ H)
inductive ml(t:TG)(u:TN)(vs:List V)(σ:St)(H:Hp)(Q:St->Hp->Prop):Prop
 |mk (v r) (_:vs=v::r) (_:t v σ H λσ' H'=>u r σ' H' Q)
inductive HN(K:Á)(n:Nat)(t:TN)(v:V)(σ:St)(H:Hp)(Q:St->Hp->Prop):Prop
 |mk (a xs) (_:v=.ref a) (_:gM K H a xs) (_:xs.9=n) (_:t xs σ H Q)
def UI(to ti:TE)(t:Ob):TG:=λv σ H Q=>to σ H λo H1=>ti σ H1 λi H2=>t o i v H2 λH3=>Q σ H3
noncomputable def ipI(f:Int->Int->Int):QQ:=λx y H Q=>∃i j,x=.int i/\y=.int j/\Q (.int (f i j)) H
structure It where
 go:Nat->Hp->Prop
 uY:Nat->Hp->V->Hp->Prop
 stop:Nat->Hp->Prop
def uZ(X:Cx)(pins:List (Addr×Obj))(H:Hp)(b:Addr):Prop:=
 H b=τ/\b≠X.env.locals/\b∉X.fs/\(b∈X.ex\/X.s₀.8<=b)/\(∀x c,X.env.cells.lookup x=ρ c->c≠b)/\∀p∈X.pn++pins,p.1≠b
noncomputable abbrev TI:=St->Hp->(It->Hp->Prop)->Prop
theorem yf{E:Value->Shared->Prop}{Q:Unit->Shared->Prop}(j:s.heap.get? it=ρ o)(hc:o.cls=.type n)(hd:o.data=.fields vs)
 (hn:["enumerate","zip","dict_itemiterator","dict_reverseitemiterator","odict_iterator","itertools.zip_longest","itertools.pairwise"].contains n=false) (g:Q .unit s):wpAny M A (weM l (.ref it) u) Q E s:=by
 unfold weM
 cases l<;>first
  |exact Ï g
  |(cases u<;>first
     |exact Ï g
     |(refine Â (wpAny_load j ?_)
       rw[hc,hd];show wpAny M A (if (["enumerate","zip","dict_itemiterator","dict_reverseitemiterator","odict_iterator","itertools.zip_longest","itertools.pairwise"].contains n&&vs[0]?==ρ (rawInt _))=true then _ else _) Q E s;rw[if_neg (by grind)]
       exact Ï g))
noncomputable def Qo(K:Á)(a:Addr):It:=
 {λi H=>∃xs x,aO K H a xs/\xs[i]?=ρ x,λi H x H'=>H'=H/\∀xs,aO K H a xs->xs[i]?=ρ x,λi H=>∃xs,aO K H a xs/\xs.9<=i}
noncomputable def Nh(lo:Int)(n:Nat):It:={λi _=>i<n,λi H x H'=>H'=H/\x=.int (lo+i),λi _=>n<=i}
def QR(K:Á)(tl:TE):TI:=λσ H R=>tl σ H λx H1=>∃a,x=.ref a/\(∃xs,aO K H1 a xs)/\R (Qo K a) H1
def QS(ta:TA):TI:=λσ H R=>ta σ H λvs H1=>∃j:Int,vs=[.int j]/\-(2^62)<=j/\j<2^62/\R (Nh 0 j.toNat) H1
def QT(ta:TA):TI:=λσ H R=>ta σ H λvs H1=>∃i j:Int,vs=[.int i,.int j]/\(-(2^62)<=i/\i<2^62/\-(2^62)<=j/\j<2^62)/\R (Nh i (j-i).toNat) H1
noncomputable def va(fp:List Addr)(h:Heap):List (Addr×Obj):=fp.filterMap λb=>(h.get? b).map λo=>(b,o)
theorem km(g:b∈j)(e:h.get? b=ρ o):(b,o)∈va j h:=we3.mpr {b,g,by rw[e];rfl}
theorem Fw(g:p∈va j h):p.1∈j/\h.get? p.1=ρ p.2:=by
 let{b,a,e}:=we3.mp g
 cases q:h.get? b with
 |none=>grind
 |some o=>
  grind
noncomputable abbrev R2:=V->V->Hp->VK->Prop
def QU(r:R2)(ta tb:TE):TE:=λσ H Q=>ta σ H λx H1=>tb σ H1 λy H2=>r x y H2 Q
def tUn(r:V->Hp->VK->Prop)(ta:TE):TE:=λσ H Q=>ta σ H λx H1=>r x H1 Q
inductive rI(C:Int->Int->Prop)(g:Int->Int->V)(x y:V)(H:Hp)(Q:VK):Prop
 |mk (i j) (_:x=.int i) (_:y=.int j) (_:C i j) (_:Q (g i j) H)
inductive Ni(g:Int->Int->V)(x y:V)(H:Hp)(Q:VK):Prop
 |mk (i j) (_:x=.int i) (_:y=.int j) (_:Q (g i j) H)
inductive rU(g:Int->V)(x:V)(H:Hp)(Q:VK):Prop
 |mk (i) (_:x=.int i) (_:Q (g i) H)
def UJ(i j:Int):Prop:=0<j/\j<1073741824
def Lr(i j:Int):Prop:=(-(2^64)<i/\i<2^64)\/(-(2^64)<j/\j<2^64)
noncomputable def QV:V->V->Bool
 |.non,.non=>true |.non,.int _=>true |.int _,.non=>true |.non,.bl _=>true |.bl _,.non=>true |.non,.str _=>true |.str _,.non=>true
 |.int _,.int _=>true |.bl _,.bl _=>true |.str _,.str _=>true |.byt _,.byt _=>true
 |.int _,.str _=>true |.str _,.int _=>true |.bl _,.str _=>true |.str _,.bl _=>true
 |_,_=>false
inductive rEq(x y:V)(H:Hp)(Q:VK):Prop
 |mk (_:QV x y=true) (_:Q (.bl (decide (x=y))) H)
inductive rNe(x y:V)(H:Hp)(Q:VK):Prop
 |mk (_:QV x y=true) (_:Q (.bl (!decide (x=y))) H)
theorem Eh:decide (V.int i=V.int j)=(i==j):=by
 rw[weN];simp
theorem HP:decide (V.bl i=V.bl j)=(i==j):=by
 rw[weN];simp
theorem Ei:decide (V.str i=V.str j)=(i==j):=by
 rw[weN];simp
theorem Ej:decide (V.byt i=V.byt j)=(i.toList==j.toList):=by
 rw[weN];cases i;cases j;simp
def Nj(t:TE):TT:=λσ H Q=>t σ H λx H'=>Xx x H' Q
theorem oN:(sizeLine:Nat)<2^63:=by rw[Ē];decide
theorem vals1(r:Vals [x] us):∃u,us=[u]/\RelV x u:=by
 cases r with
 |cons a b=>cases b;exact{_,rfl,a}
theorem vals2(r:Vals [x,y] us):∃u g,us=[u,g]/\RelV x u/\RelV y g:=by
 cases r with
 |cons a b=>
  cases b with
  |cons c d=>cases d;exact{_,1,a,c}
structure Cm(h:Heap)(x dx C:Addr)(mA:Str->Option Value):Prop where
 obj:h.get? x=ρ (Ų C dx)
 ns:h.Ns1 dx mA
 ne:dx≠x
noncomputable def cT(f:Str)(v:V):List (Str×V)->List (Str×V)
 |[]=>[(f,v)]
 |(g,x)::r=>if g=f then(g,v)::r else(g,x)::cT f v r
theorem aG(f g:Str)(v:V):∀fs:List (Str×V),(cT f v fs).lookup g=if g=f then ρ v else fs.lookup g
 |[]=>by
  show wfe g [(f,v)]=_
  by_cases h:g=f
  .grind
  .grind
 |(k,x)::r=>by
  have a:=aG f g v r;rw[show cT f v ((k,x)::r)=(if k=f then(k,v)::r else(k,x)::cT f v r) from rfl]
  by_cases hk:k=f
  .grind
  .grind
theorem rF(f:Str)(v:V):∀fs:List (Str×V),f∈(cT f v fs).map (·.1)/\∀g,g∈fs.map (·.1)->g∈(cT f v fs).map (·.1)
 |[]=>{by simp[cT],λg h=>by simp at h}
 |(k,x)::r=>by
  let{a,b}:=rF f v r
  rw[show cT f v ((k,x)::r)=(if k=f then(k,v)::r else(k,x)::cT f v r) from rfl]
  by_cases hk:k=f
  .grind
  .grind
theorem sP(f:Str)(v:V):∀fs:List (Str×V),(cT f v fs).9<=fs.9+1
 |[]=>by simp[cT]
 |(k,x)::r=>by
  have a:=sP f v r;rw[show cT f v ((k,x)::r)=(if k=f then(k,v)::r else(k,x)::cT f v r) from rfl]
  by_cases hk:k=f
  .grind
  .grind
theorem jw.uI(r:jw (ρ v) o):∃u,o=ρ u/\RelV v u:=by
 cases o with
 |none=>exact(show False from r).elim
 |some u=>exact⟨u,rfl,r⟩
theorem jw.none_of(r:jw τ o):o=τ:=by grind [jw,cases False]
theorem yg(r:RelV v u):wi0 u=true:=by
 cases v with
 |non=>cases(show u=Ĉ from r);rfl
 |bl b=>cases(show u=wfD b from r);rfl
 |int i=>let{t,e}:=(show ∃t,u=wgb i t from r);cases e;rfl
 |str x=>let{t,e}:=(show ∃t,u=wgc x t from r);cases e;rfl
 |byt b=>let{t,e}:=(show ∃t,u=Value.bytes b t from r);cases e;rfl
 |flt b=>let{t,e}:=(show ∃t,u=whR b t from r);cases e;rfl
 |ref a=>cases(show u=È a from r);rfl
 |ty n=>cases(show u=weL n from r);rfl
structure AA(K:Á)(C:Addr):Prop where
 pg:weB K C Str.empty=true
 hd:wfs K C=true
 po:whE K C=true
 sa:Ā K (.ref C) "__setattr__"=ρ (ρ (.builtin "object.__setattr__"))
theorem AA.get{K:Á}{C:Addr}(c:AA K C)(f:Str):weB K C f=true:=c.pg
def bY(K:Á)(C:Addr)(f:Str):Prop:=Ā K (.ref C) f=ρ τ
theorem bY.QW{K:Á}{C:Addr}{f:Str}(n:bY K C f):wgd K C f=ρ τ:=by
 unfold wgd;rw[show Ā K (.ref C) f=ρ τ from n];rfl
inductive IxF(K:Á)(f:Str)(x:V)(H:Hp)(Q:VK):Prop
 |mk (a C dx fs v) (_:x=.ref a) (_:H a=ρ (.ins C dx fs)) (_:AA K C) (_:bY K C f) (_:fs.lookup f=ρ v) (_:Q v H)
def QX(K:Á)(ta:TE)(f:Str):TE:=λσ H Q=>ta σ H λx H1=>IxF K f x H1 Q
theorem Cp{A:Around}{C:Addr}{us:List Value}{g:List (Str×Value)}:(A.under (.builtin "type.__call__" {.ref C::us,g})).depth=A.depth+1:=by
 first |rfl |simp[whq,Code.weight,Code.isCreation,Code.isGuard,Code.isCaller,Code.frames,whr,guardIds]
theorem Cq{A:Around}{C:Addr}{us:List Value}{g:List (Str×Value)}:(A.under (.builtin "type.__call__" {.ref C::us,g})).units=A.units+1:=by
 first |rfl |simp[whq,Code.cUnits,Code.frames,whr]
def zu:TA:=λ_ H Q=>Q [] H
def sQ(ta:TE)(tr:TA):TA:=λσ H Q=>ta σ H λx H1=>tr σ H1 λxs H2=>Q (x::xs) H2
inductive IxT(xs:List V)(H:Hp)(Q:VK):Prop
 |mk (_:xs.9<=sizeLine) (_:∀p,H p=τ->Q (.ref p) (upd H p (.tup xs)))
inductive IxL(xs:List V)(H:Hp)(Q:VK):Prop
 |mk (_:xs.9<=sizeLine) (_:∀p,H p=τ->Q (.ref p) (upd H p (.lst xs)))
noncomputable abbrev Sp:=List V->Hp->VK->XK->Prop
noncomputable abbrev Fx:=List Env->Hp->Shared->XK->Value->Shared->Prop
def Nk(sp:Sp)(vc:List V)(E:XK)(t:TA):TE:=λσ H Q=>t σ H λvs H1=>sp (vs++vc) H1 Q E
inductive Xy(C:Addr)(m:Str)(x:V)(H:Hp)(k:Prop):Prop
 |mk (a dx fs) (_:x=.ref a) (_:H a=ρ (.ins C dx fs)) (_:fs.lookup m=τ) (_:k)
def Ek(C:Addr)(m:Str)(sp:Sp)(vc:List V)(E:XK)(ta:TE)(t:TA):TE:=λσ H Q=>ta σ H λx H1=>Xy C m x H1 (t σ H1 λvs H2=>sp (x::(vs++vc)) H2 Q E)
def QY(C:Addr)(sp:Sp)(vc:List V)(E:XK)(t:TA):TE:=λσ H Q=>t σ H λvs H1=>∀x dx,H1 x=τ->H1 dx=τ->dx≠x ->
 sp (.ref x::(vs++vc)) (upd (upd H1 dx (.own x)) x (.ins C dx [])) (λv H2=>v=.non/\Q (.ref x) H2) E
def Binds(K:Á)(fd:ï)(ps:List Str)(ds:List Value):Prop:=
 ∀(s:Shared) (us:List Value),K.In s.heap->(us++ds).9=ps.9->BindsTo s fd {us,[]} (ps.zip (us++ds))
theorem Binds.all{K:Á}{fd:ï}{ps:List Str}(h:∀us:List Value,us.9=ps.9->bindArgs fd {us,[]}=pure (ps.zip us)):Binds K fd ps []:=λs us _ hl=>by
 rw[û]at hl ⊢;exact .of_eq (h us hl)
structure uJ(N P:List Str)(sc:Ă):Prop where
 kind:sc.kind=.function
 co:sc.isCoroutine=false
 gen:sc.isGenerator=false
 nd:N.Nodup
 pre:N.take P.9=P
 par:∀x∈P,sc.names.lookup x=ρ .local\/sc.names.lookup x=ρ .cell
 Oc:∀y∈sc.names,y.2≠.free
theorem yh{kindOf:Str->Option NameKind}:∀{binds:List (Str×Value)} {m:Str->Option Value},(∀v,(x,v)∉binds)->bindL kindOf binds m x=m x
 |[],_,_=>rfl
 |(n,v)::r,m,h=>by
  unfold bindL;rw[yh λw hw=>h w (Ô _ hw)];split
  .grind
  .rfl
theorem yi{kindOf:Str->Option NameKind}:∀{binds:List (Str×Value)} {m:Str->Option Value},(∀v,(x,v)∉binds)->bindC kindOf binds m x=m x
 |[],_,_=>rfl
 |(n,v)::r,m,h=>by
  unfold bindC;rw[yi λw hw=>h w (Ô _ hw)];split
  .rfl
  .grind
theorem yj{kindOf:Str->Option NameKind}:∀{P:List Str} {vs:List Value} {i:Nat} {m:Str->Option Value},P.Nodup->P[i]?=ρ x->vs[i]?=ρ v->kindOf x=ρ .local ->
 bindL kindOf (P.zip vs) m x=ρ v
 |[],_,_,_,_,h,_,_=>by simp at h
 |_::_,[],_,_,_,_,h,_=>by simp at h
 |p::P,w::vs,0,m,nd,a,b,hk=>by
  simp at a b;subst a;subst b;show bindL kindOf ((p,w)::P.zip vs) m p=_;unfold bindL;rw[yh λv c=>(Đ.mp nd).1 (wge c).1,if_pos hk];simp
 |p::P,w::vs,i+1,m,nd,a,b,hk=>by
  show bindL kindOf ((p,w)::P.zip vs) m x=_;unfold bindL;exact yj (i:=i) (Đ.mp nd).2 (by simpa using a) (by simpa using b) hk
theorem yk{kindOf:Str->Option NameKind}:∀{P:List Str} {vs:List Value} {i:Nat} {m:Str->Option Value},P.Nodup->P[i]?=ρ x->vs[i]?=ρ v->kindOf x≠ρ .local ->
 bindC kindOf (P.zip vs) m x=ρ v
 |[],_,_,_,_,h,_,_=>by simp at h
 |_::_,[],_,_,_,_,h,_=>by simp at h
 |p::P,w::vs,0,m,nd,a,b,hk=>by
  simp at a b;subst a;subst b;show bindC kindOf ((p,w)::P.zip vs) m p=_;unfold bindC;rw[yi λv c=>(Đ.mp nd).1 (wge c).1,if_neg hk];simp
 |p::P,w::vs,i+1,m,nd,a,b,hk=>by
  show bindC kindOf ((p,w)::P.zip vs) m x=_;unfold bindC;exact yk (i:=i) (Đ.mp nd).2 (by grind) (by grind) hk
noncomputable def start(N:List Str)(vs:List V):St:=vs.map ρ++Ý (N.9-vs.9) τ
theorem AF{g:Ă}{n:Nat}{x:Str}(h:g.names.lookup x=ρ .cell):∃c,(cellsFrom n g.names []).lookup x=ρ c:=by
 have q:=wgl g.names n [] (.inl h);exact wfL.mp q
noncomputable abbrev TO:=St->Hp->(Option Int->Hp->Prop)->Prop
noncomputable def Ls:TO:=λ_ H Q=>Q τ H
inductive IxP(x:V)(H:Hp)(Q:Option Int->Hp->Prop):Prop
 |mk (i) (_:x=.int i) (_:Q (ρ i) H)
noncomputable def QZ(t:TE):TO:=λσ H Q=>t σ H λx H1=>IxP x H1 Q
noncomputable def Fy(n:Nat)(i:Int):Option Nat:=if 0<=i then(if i<n then ρ i.toNat else τ) else if -(n:Int)<=i then ρ (i+n).toNat else τ
noncomputable def zv{α:Type}(xs:List α)(i:Int):Option α:=(Fy xs.length i).bind λj=>xs[j]?
theorem El(h:Fy n i=ρ j):seqIndex? i n=ρ j/\j<n/\-(n:Int)<=i/\i<n:=by
 unfold Fy at h
 by_cases h0:0<=i
 .rw[if_pos h0]at h
  by_cases a:i<n
  .rw[if_pos a]at h;have e:i.toNat=j:=Ò h;exact{by rw[whS h0 a,e],(),(),a}
  .rw[if_neg a]at h;cases h
 .rw[if_neg h0]at h
  by_cases a:-(n:Int)<=i
  .rw[if_pos a]at h;have e:(i+n).toNat=j:=Ò h;exact{by rw[whs () a,e],(),a,()}
  .rw[if_neg a]at h;cases h
theorem zx{α:Type}{xs:List α}{i:Int}{v:α}(h:zv xs i=ρ v):∃j,seqIndex? i xs.9=ρ j/\xs[j]?=ρ v/\j<xs.9/\-(xs.9:Int)<=i/\i<xs.9:=by
 unfold zv at h
 cases e:Fy xs.length i with
 |none=>rw[e]at h;cases h
 |some j=>
  rw[e]at h
  let{a,b,c,d}:=El e
  exact⟨j,a,h,b,c,d⟩
theorem bL{α:Type}{xs:List α}{j:Nat}{v:α}(h:xs[j]?=ρ v):zv xs (j:Int)=ρ v:=by
 have a:j<xs.9:=(Ñ.mp h).1
 have e:Fy xs.length (j:Int)=ρ j:=by
  unfold Fy;rw[if_pos (),if_pos ()];simp
 unfold zv;rw[e];exact h
theorem HQ{α:Type}(xs:List α)(v:α):zv (xs++[v]) (-1)=ρ v:=by
 have hl:(xs++[v]).9=xs.9+1:=by simp
 have e:Fy (xs++[v]).length (-1)=ρ xs.9:=by
  unfold Fy;rw[hl,if_neg ⋯,if_pos ()];congr 1
  lia
 unfold zv;rw[e];show (xs++[v])[xs.9]?=ρ v;simp
def Lv(b:Expr):Prop:=∀o i,wgm b false o i=operate [o,i] (getItem o i)
inductive Ra(K:Á)(x y:V)(H:Hp)(Q:VK):Prop
 |mk (p xs i v) (_:x=.ref p) (_:y=.int i) (_:aO K H p xs) (_:zv xs i=ρ v) (_:Q v H)
inductive Rb(K:Á)(x y:V)(H:Hp)(Q:VK):Prop
 |mk (p xs i v) (_:x=.ref p) (_:y=.int i) (_:gM K H p xs) (_:zv xs i=ρ v) (_:Q v H)
inductive UK(x y:V)(H:Hp)(Q:VK):Prop
 |mk (z i c) (_:x=.str z) (_:y=.int i) (_:z.9<=sizeLine) (_:zv z.cps.toList i=ρ c) (_:Q (.str ⟨#[c]⟩) H)
noncomputable def eh:V->Bool
 |.non=>true
 |.bl _=>true
 |.int _=>true
 |.str _=>true
 |_=>false
theorem Vals.one:∀{x:V} {us:List Value},Vals [x] us->∃u,us=[u]/\RelV x u
 |_,_,.cons r .nil=>{_,rfl,r}
theorem Vals.zero:∀{us:List Value},Vals [] us->us=[]
 |_,.nil=>rfl
theorem Vals.dropLast(h:Vals xs us):Vals xs.dropLast us.dropLast:=by
 induction h with
 |nil=>exact .nil
 |cons r t a=>
  cases t with
  |nil=>exact .nil
  |cons q b=>exact .cons r a
theorem Vals.rep(h:Vals xs us):∀k:Nat,Vals (Ý k xs).flatten (Ý k us).flatten
 |0=>.nil
 |k+1=>by
  rw[ű,ű,ŗ,ŗ];exact Vals.append h (Vals.rep h k)
theorem foldl_rep(g:List Value):∀(k:Nat) (j:List Value),
 wid (λl p=>l++p) j.toArray (Ý k g.6)=(j++(Ý k g).flatten).6
 |0,j=>by simp
 |k+1,j=>by
  have e:j.6++g.6=(j++g).6:=by simp
  have a:(j++g)++(Ý k g).flatten=j++(Ý (k+1) g).flatten:=by
   grind
  rw[<-a,<-foldl_rep g k (j++g),<-e,ű,Ů]
theorem HR(h:n<=sizeLine):we4 n=false:=by grind [we4,decide_eq_false]
theorem Lw{α:Type}(xs:List α)(k:Nat):(Ý k xs).flatten.9=k*xs.9:=by simp_all [ű,ŗ,É,Nat.succ_mul,wht]
theorem sR(r:RelV (kV k) u):(bA P w).is k u=true:=by grind [RelV,kV,bA,AB,AD]
theorem ym:∀{g:List Key} {us:List Value},Vals (g.map kV) us->ItemsAre (bA P w) g us
 |[],_,r=>by rw[Β]at r;cases r;exact .nil
 |k::g,_,r=>by
  rw[Ó]at r
  cases r with
  |cons h t=>exact .cons (sR h) (ym t)
abbrev KT(H:Hp):List (List Key×V)->List (List Key×Addr×Value)->Prop:=Paired λp q=>p.1=q.1/\H q.2.1=ρ (.tup (p.1.map kV))/\RelV p.2 q.2.2
def Rc(i:Expr):Prop:=∀ov iv,wgm i false ov iv=operate [ov,iv] (getItem ov iv)
theorem Lx{prog:Ê}{w:World}{A:Around}{E:Value->Shared->Prop}{s:Shared}{env:Env}{value slice:Expr}{pos:Pos}{T id:String}{Q:Value->Shared->Prop}
 (hl:wfE (.type T) "__getitem__"=pure (ρ (.builtin id))) (hs:Rc slice)
 (h:wpAny (model prog w) A (eval value env) (λo j=>wpAny (model prog w) A (eval slice env) (λi g=>g.TypeIs o T/\wpAny (model prog w) A (getItem o i) Q E g) E j) E s) :
 wpAny (model prog w) A (eval (.Subscript value slice pos) env) Q E s:=by
 refine Subscript_ (í h (λo j c=>í c (λi g a=>?_) λ_ _ x=>x) λ_ _ x=>x)
 let{e,a}:=a
 unfold wh6;refine Â ?_;rw[getitemInPython_of_ne e.not_modules];refine Â (wpAny_specialOf e hl ?_)
 have fin:wpAny (model prog w) A (wgm slice false o i) (λr b=>wpAny (model prog w) A (letTemporaryGo value o r >>= λ_=>pure r) Q E b) E g:=by
  rw[hs o i];exact wpAny_operating (í a (λr b d=>Â (wpAny_letTemporaryGo (Ï d))) λ_ _ x=>x)
 first
  |exact Ï (Â fin)
  |exact Â (Ï (Â fin))
  |exact Â fin
def Od:TE:=λ_ H Q=>∀p,H p=τ->Q (.ref p) (upd H p (.dK []))
def Cr:List (TE×TE)->St->Hp->(List (V×V)->Hp->Prop)->Prop
 |[],_,H,Q=>Q [] H
 |(tk,tv)::r,σ,H,Q=>tk σ H λx H1=>tv σ H1 λy H2=>Cr r σ H2 λps H3=>Q ((x,y)::ps) H3
abbrev VV:List (V×V)->List (Value×Value)->Prop:=Paired λp q=>RelV p.1 q.1/\RelV p.2 q.2
def UL(H:Hp)(a:Addr):Prop:=(∃kvs,Rd H a (.dK kvs))\/∃kvs,Rd H a (.dT kvs)
theorem yn:∀{vs:List Value} {ns:List Int},IntsAre vs ns->Vals (ns.map V.int) vs
 |_,_,.nil=>.nil
 |_,_,.cons n t h=>.cons ⟨t,rfl⟩ (yn h)
noncomputable abbrev KOf{K:Á}{h:Heap}(_:K.In h):Á:=K
noncomputable def dP(s:Stmt):Arguments:=match s with
 |.FunctionDef _ a _ _ _ _ _ _ _ _=>a
 |_=>{posonlyargs:=[],args:=[],vararg:=τ,kwonlyargs:=[],kw_defaults:=[],kwarg:=τ,defaults:=[]}
noncomputable def cn(s:Stmt):List Stmt:=match s with
 |.FunctionDef _ _ b _ _ _ _ _ _ _=>b
 |_=>[]
noncomputable def aL(s:Stmt):Ă:=match s with
 |.FunctionDef _ _ _ _ _ _ sc _ _ _=>sc
 |_=>{kind:=.function,names:=[],isGenerator:=false,isCoroutine:=false}
noncomputable abbrev d4:Fx:=λ_ _ _ _ _ _=>False
abbrev E0:XK:=λ_ _ _=>False
structure zy(K:Á)(x qual:Str)(st:Stmt)(f:Addr)(fd:ï):Prop where
 ex:∃(oc:Value) (od:Option Addr) (kV doc pm:Value) (an:Option Addr) (hU ct:Value) (HS:Array (Option Value)),
  fd=Ņ x qual (dP st) (cn st) (aL st) .none kV doc pm an hU ct/\K.lookup f=ρ {oc,od,.func fd,HS}/\wek K hU qual=true
 kp:ź K (.ref f)=true
theorem bB(h:n<=1000):n<sizeLine:=ę h ⋯
theorem bo{A B:Prop}(h:B):if false=true then A else B:=by
 grind
theorem cU{A B:Prop}(h:A):if true=true then A else B:=by
 grind
theorem uo{c A B:Prop}[Decidable c](g:c->A)(j:¬c->B):if c then A else B:=by
 by_cases h:c
 .rw[if_pos h];exact g h
 .rw[if_neg h];exact j h
def a8(H H':Hp):Prop:=∀b o,H b=ρ o->H' b=ρ o
theorem a8.trans(a:a8 H g)(b:a8 g j):a8 H j:=λc o h=>b c o (a c o h)
theorem a8.free(e:a8 H g)(h:g l=Option.none):H l=Option.none:=by
 cases q:H l with
 |none=>rfl
 |some o=>
  rw[e l o q]at h;cases h
theorem a8.seq{K:Á}{H g:Hp}{a:Addr}{xs:List V}(e:a8 H g)(h:aO K H a xs):aO K g a xs:=by
 rcases h with(h |⟨o,h⟩) |h
 .exact .inl (.inl (e _ _ h))
 .exact .inl (.inr {o,e _ _ h})
 .exact .inr h
theorem a8.upd(h:H a=τ):a8 H (upd H a o):=λb u e=>by rw[ae (af e h)];exact e
abbrev Nm(nm:String):Prop:=["enumerate","zip","dict_itemiterator","dict_reverseitemiterator","odict_iterator","itertools.zip_longest","itertools.pairwise"].contains nm=false
noncomputable def fm(z:Str):List V:=z.cps.toList.map λc=>V.str {#[c]}
def Oe(scope:Ă)(env:Env):Prop:=∀y∈scope.names,y.2=.free->env.kindOf y.1=ρ .cell\/env.kindOf y.1=ρ .free
def xI:TT:=λ_ H Q=>Q true H
def Rf{α:Type}:Nat->(List α->Prop)->Prop
 |0,P=>P []
 |n+1,P=>∀a,Rf n λus=>P (a::us)
noncomputable def pick(σ:St)(ix:List Nat):St:=ix.map λi=>(σ[i]?).join
theorem Ct:∀{us:List Value},Vals (ns.map V.str) us->StrsAre us ns:=by
 induction ns with
 |nil=>intro us r;rw[Β]at r;cases r;exact .nil
 |cons n ns a=>
  intro us r;rw[Ó]at r
  cases r with
  |cons b c=>
   let{t,e}:=b
   subst e;exact .cons n t (a c)
theorem yo:∀{vs:List Value} {ns:List Str},StrsAre vs ns->Vals (ns.map V.str) vs
 |_,_,.nil=>.nil
 |_,_,.cons n t h=>.cons ⟨t,rfl⟩ (yo h)
noncomputable def pF(v d:Addr):HO:=.ext λh=>h.IsValuesView v d
theorem zz{b e i:Addr}(h:b∉[e,i]):b≠e/\b≠i:=by simpa using h
theorem Of{e i n:Nat}(h:e<n)(h':i<n):∀b∈[e,i],b<n:=by simp[h,h']
theorem ic:ð "enumerate"=ρ (.type "enumerate"):=∅
theorem sub_str_set:isSubtype (.type "str") (.type "set")=pure false:=by rw[isSubtype_type];kernel_rfl
theorem sub_str_frozenset:isSubtype (.type "str") (.type "frozenset")=pure false:=by rw[isSubtype_type];kernel_rfl
theorem Nn(P:Ê)(w:World)(x:Str)(t:Tok):(ģ P w).is x (.str x t)=true:=by simp[ģ,wh4]
noncomputable def Ly(P:Ê)(w:World)(a:Addr)(n:Nat):HO:=.ext λh=>∃S,h.SetOf (ģ P w) a S n
structure FnAt(K:Á)(mg:Str->Option Value)(nm:Str)(st:Stmt)(ps:List Str)(f:Addr)(fd:ï):Prop where
 F:zy K nm nm st f fd
 b:Binds K fd ps []
 g:mg nm=ρ (.ref f)
theorem HU{c A B:Prop}[Decidable c](h:¬c)(b:B):if c then A else B:=by
 rw[if_neg h];exact b
theorem UM{c A B:Prop}[Decidable c](h:c)(a:A):if c then A else B:=by
 rw[if_pos h];exact a
theorem ak(h:n<=1000000):n<=sizeLine:=Í h (by rw[Ē];decide)
theorem fL(ps:List Str):(ps.map V.str).all eh=true:=by
 rw[wfM];exact õ.mpr λ_ _=>rfl
noncomputable def cN(mv:List (Str×Addr)):List (Key×V):=mv.map λm=>((Å m.1:Key),V.ref m.2)
theorem iJ(mv:List (Str×Addr)):((cN mv).map λg=>kV g.1)=(mv.map (·.1)).map V.str:=by
 unfold cN;rw[Î,Î];rfl
theorem Em{R:Str->Prop}:∀{ys:List V},(∀y∈ys,∃t,y=.str t/\R t)->∃ts:List Str,ys=ts.map V.str/\∀t∈ts,R t
 |[],_=>{[],rfl,λ_ h=>nomatch h}
 |y::ys,h=>by
  let{t,rfl,c}:=h y (Ø ..)
  let{ts,rfl,a}:=Em (R:=R) (ys:=ys) λy d=>h y (Ô _ d)
  refine{t::ts,rfl,λu b=>?_};rcases à.mp b with rfl |b
  .exact c
  .exact a u b
structure L6(lo:Nat)(H:Hp)(h:Heap)(e C:Addr)(od:Option Addr):Prop where
 ge:lo<=e
 nt:H e=τ
 ob:∃vs sl,h.get? e=ρ {.ref C,od,.fields vs,sl}/\1<vs.size /\
  (vs[1]?=ρ .none\/∃T oT ts,vs[1]?=ρ (.ref T)/\lo<=T/\H T=τ/\T≠e/\h.get? T=ρ oT/\oT.data=.fields ts/\ts[3]?=ρ .none)
noncomputable abbrev uK(C d t:Addr):Obj:={cls:=.ref C,dict:=ρ d,data:=.fields #[.ref t,.none,.none,.none,.bool false,.none]}
noncomputable def XD(x C d:Addr):HO:=.ext λh=>∃t,h.get? x=ρ (uK C d t)
theorem Og(h:H x=ρ o):upd H x o=H:=by
 funext b;delta upd;split
 .rename_i e;rw[e,h]
 .rfl
noncomputable def del(H:Hp)(x:Addr):Hp:=λb=>if b=x then τ else H b
theorem fX:del H x x=τ:=if_pos rfl
theorem ie(h:b≠x):del H x b=H b:=if_neg h
theorem En(h:H x=τ):del (upd H x o) x=H:=by
 funext b
 by_cases e:b=x
 .rw[e,fX,h]
 .rw[ie e,ae e]
theorem Cu(h:d≠x):del (upd H d o) x=upd (del H x) d o:=by
 funext b
 by_cases e:b=x
 .subst e;rw[fX,ae (æ h),fX]
 .rw[ie e]
  by_cases a:b=d
  .subst a;rw[a6,a6]
  .rw[ae a,ae a,ie e]
theorem zA:del (upd H x o) x=del H x:=by
 funext b
 by_cases e:b=x
 .rw[e,fX,fX]
 .rw[ie e,ie e,ae e]
noncomputable abbrev TJ:=Str->St->Hp->(Str->Hp->Prop)->Prop
noncomputable abbrev Np:=XK->TE
noncomputable abbrev Cx.marked(X:Cx)(e:Addr):Cx:={X with A:=X.A.mark (ρ (.ref e)),calm:=false}
noncomputable def XC(x C:Addr)(od:Option Addr):HO:=.ext λh=>∃vs sl,h.get? x=ρ ⟨.ref C,od,.fields vs,sl⟩
theorem HV(v:V):V.bl (decide (v=v))=V.bl true:=by simp
theorem kn:∀{ns:List Int} {g:List Value},Vals (ns.map V.int) g->∃xs:List (Int×Tok),g=xs.map (λp=>wgb p.1 p.2)/\xs.map (·.1)=ns
 |[],g,r=>by cases r;exact{[],rfl,rfl}
 |n::ns,g,r=>by
  cases r with
  |cons h t=>
   let{a,rfl}:=h
   let{xs,rfl,e}:=kn t
   exact{(n,a)::xs,rfl,by rw[Ó,e]}
theorem HW{κ:Type}:∀{kvs:List (κ×V)} {vs:List (κ×Value)},KV kvs vs->∀{i:Nat} {p:κ×V},kvs[i]?=ρ p->∃q,vs[i]?=ρ q/\p.1=q.1/\RelV p.2 q.2
 |_,_,.nil,i,p,h=>by simp at h
 |_,_,.cons r t,i,p,h=>by
  cases i with
  |zero=>exact{1,by have:=Ò h;subst this;exact r}
  |succ i=>exact HW t h
noncomputable def Cv(v:V):Bool:=!decide (v=.non)
noncomputable def ipM:QQ:=λx y H Q=>∃i j,x=.int i/\y=.int j/\Lr i j/\Q (.int (i*j)) H
noncomputable def jG(q:V×V):List V:=[q.1,q.2]
noncomputable def vd(kvs:List (Key×V)):Bool:=kvs.all λkv=>eh kv.2
def Rg(i j:Int):Prop:=0<j/\j.natAbs.log2<9000
noncomputable def Lz(lo c:Int)(n:Nat):It:={λi _=>i<n,λi H x H'=>H'=H/\x=.int (lo+(i:Nat)*c),λi _=>n<=i}
noncomputable def uL:List Expr->Option (List Int)
 |[]=>ρ []
 |.Constant (.int i) _ _::es=>(uL es).map (i :: ·)
 |_::_=>τ
def Nq:List Int->TA
 |[]=>zu
 |i::is=>sQ (tC (.int i)) (Nq is)
noncomputable def Oh:V->Bool
 |.non=>true
 |.bl _=>true
 |.int _=>true
 |.str _=>true
 |_=>false
theorem pG(s:a8 H g)(h:Rd H a o):Rd g a o:=by
 rcases h with e |⟨z,e⟩
 .exact .inl (s _ _ e)
 .exact .inr {z,s _ _ e}
theorem a8.LA{K:Á}{H g:Hp}{a:Addr}{xs:List V}(s:a8 H g)(h:gM K H a xs):gM K g a xs:=by
 rcases h with e |e
 .exact .inl (pG s e)
 .exact .inr e
noncomputable def aM(H H':Hp):Hp:=λa=>match H a with
 |none=>H' a
 |some _=>τ
theorem ck(H g:Hp):a8 (aM H g) g:=λa o e=>by
 grind [aM]
theorem cg(h:H a=τ)(e:g a=ρ o):aM H g a=ρ o:=by
 unfold aM;rw[h];exact e
noncomputable def gG(H:Hp)(x:Addr):Hp:=λd=>if d=x then τ else H d
theorem fY(h:H d=ρ o)(hd:d≠x):gG H x d=ρ o:=by
 unfold gG;rw[if_neg hd];exact h
theorem zB{K:Á}{H:Hp}{x C g:Addr}{fs:List (Str×V)}(j:H x=ρ (.ins C g fs)){d:Addr}{ys:List V}(h:aO K H d ys):aO K (gG H x) d ys:=by
 rcases h with(e |⟨o,e⟩) |e
 .exact .inl (.inl (fY e λz=>by grind))
 .exact .inl (.inr {o,fY e λz=>by grind})
 .exact .inr e
noncomputable def bj{α:Type}(p:Nat->Bool):Nat->List α->List α
 |_,[]=>[]
 |i,x::xs=>if p i then x::bj p (i+1) xs else bj p (i+1) xs
theorem fM(ns:List Int):(ns.map V.int).all eh=true:=õ.mpr λv a=>by
 let{i,1}:=Æ.mp a
 rfl
theorem Eo{c:Int}(hc:0<c)(m:Nat):wdc 0 (c*(m:Int)) c=(m:Int):=by
 unfold wdc;rw[if_pos hc]
 cases m with
 |zero=>rw[if_neg (by simp)];rfl
 |succ m=>
  have a:0<c*((m+1:Nat):Int):=whT hc ();rw[if_pos a,show c*((m+1:Nat):Int)-0-1=(c-1)+c*(m:Int) by rw[Ō,Int.mul_add];lia,Int.add_mul_ediv_left _ _ (),Int.ediv_eq_zero_of_lt () ()]
  lia
inductive UN(vs:List V)(H:Hp)(R:It->Hp->Prop):Prop
 |mk (c:Int) (m:Nat) (_:vs=[.int 0,.int (c*(m:Int)),.int c]) (_:1<=c) (_:c<=1000) (_:c*(m:Int)<=1000000) (_:m<=1000000) (_:R (Lz 0 c m) H)
def Rh(ta:TA):TI:=λσ H R=>ta σ H λvs H1=>UN vs H1 R
noncomputable def Ep(a:Addr):List (Str×V):=[("writer",.ref a)]
noncomputable def Fz(a b:Addr):List (Str×V):=[("writer",.ref a),("pairs",.ref b)]
theorem Nr(a:Addr):cT "writer" (.ref a) []=Ep a:=rfl
theorem HX(a b:Addr):cT "pairs" (.ref b) (Ep a)=Fz a b:=by
 show (if ("writer":Str)="pairs" then _ else(("writer":Str),V.ref a)::cT "pairs" (.ref b) [])=_;rw[if_neg ∅];rfl
set_option genInjectivity true in
inductive Lt where
 |fl (v:V)
 |ls (vs:List V)
 |tp (vs:List V)
 deriving DecidableEq
section
variable{κ:Type}[DecidableEq κ]
noncomputable def bD(kvs:List (κ×V))(k:κ):Option V:=(kvs.find? λkv=>decide (kv.1=k)).map (·.2)
theorem HY:bD ([]:List (κ×V)) k=τ:=rfl
theorem cu{p:κ×V}{r:List (κ×V)}{k:κ}(e:p.1=k):bD (p::r) k=ρ p.2:=by simp[bD,wdm,e]
theorem cw{p:κ×V}{r:List (κ×V)}{k:κ}(e:¬p.1=k):bD (p::r) k=bD r k:=by simp[bD,wdm,e]
theorem AG(k j:κ)(y:V):∀kvs:List (κ×V),bD (kvs.map λg=>if g.1=k then(g.1,y) else g) j=(bD kvs j).map λx=>if j=k then y else x
 |[]=>rfl
 |p::r=>by
  have a:=AG k j y r;rw[Ó]
  by_cases h:p.1=k
  .rw[if_pos h]
   by_cases e:p.1=j
   .rw[cu (p:=(p.1,y)) e,cu e,weO,if_pos (e.symm.trans h)]
   .rw[cw (p:=(p.1,y)) e,cw e,a]
  .rw[if_neg h]
   by_cases e:p.1=j
   .rw[cu (p:=p) e,cu e,weO,if_neg (λz=>h (e.trans z))]
   .rw[cw (p:=p) e,cw e,a]
theorem yp(k j:κ)(y:V):∀kvs:List (κ×V),bD kvs k=τ->bD (kvs++[(k,y)]) j=if j=k then ρ y else bD kvs j
 |[],_=>by
  by_cases e:k=j
  .rw[if_pos e.symm];exact cu (p:=(k,y)) e
  .rw[if_neg (λz=>e z.symm)];exact cw (p:=(k,y)) e
 |p::r,hn=>by
  rw[wi1];have hk:¬p.1=k:=λz=>by rw[cu z]at hn;cases hn
  rw[cw hk]at hn;have a:=yp k j y r hn
  by_cases e:p.1=j
  .rw[cu e,cu e,if_neg (λz=>hk (e.trans z))]
  .rw[cw e,cw e,a]
theorem jw.jH(r:jw o u):o.isSome=u.isSome:=by
 cases o with
 |none=>cases u with
  |none=>rfl
  |some _=>exact(show False from r).elim
 |some _=>cases u with
  |none=>exact(show False from r).elim
  |some _=>rfl
theorem jw.getD(r:jw o u)(rd:RelV d d'):RelV (o.getD d) (u.getD d'):=by
 cases o with
 |none=>cases u with
  |none=>exact rd
  |some _=>exact(show False from r).elim
 |some _=>cases u with
  |none=>exact(show False from r).elim
  |some _=>exact r
theorem KV.val{kvs:List (κ×V)}{vs:List (κ×Value)}(r:KV kvs vs)(k:κ):jw (bD kvs k) (valueAt vs k):=by
 unfold KV at r
 induction r with
 |nil=>exact Ć
 |@cons p q ps a h t f=>
  let{d,g}:=h
  by_cases e:p.1=k
  .have c:q.1=k:=d.symm.trans e;have b:valueAt (q::a) k=ρ q.2:=by simp[valueAt,wdm,c]
   rw[cu e,b];exact g
  .have c:¬q.1=k:=λz=>e (d.trans z);have b:valueAt (q::a) k=valueAt a k:=by simp[valueAt,wdm,c]
   rw[cw e,b];exact f
theorem KV.repl(r:KV kvs vs)(k:κ)(j:RelV y u) :
 KV (kvs.map λg=>if g.1=k then(g.1,y) else g) (vs.map λg=>if g.1=k then(g.1,u) else g):=by
 unfold KV at r ⊢
 induction r with
 |nil=>exact .nil
 |@cons p q ps d h t b=>
  rw[Ó,Ó];refine .cons ?_ b
  let{a,c}:=h
  by_cases e:p.1=k
  .rw[if_pos e,if_pos (a.symm.trans e)];exact⟨a,j⟩
  .rw[if_neg e,if_neg (λz=>e (a.trans z))];exact⟨a,c⟩
theorem KV.keys{kvs:List (κ×V)}{vs:List (κ×Value)}(r:KV kvs vs):kvs.map (·.1)=vs.map (·.1):=by
 unfold KV at r
 induction r with
 |nil=>rfl
 |cons h t a=>grind
theorem KV.length{kvs:List (κ×V)}{vs:List (κ×Value)}(r:KV kvs vs):kvs.9=vs.9:=wh5 r
end
section
variable{t:TA}{t2:TE}
def Ri(t:TA):TE:=λσ H Q=>t σ H λxs H1=>IxT xs H1 Q
def Rj(t:TA):TE:=λσ H Q=>t σ H λxs H1=>IxL xs H1 Q
theorem KT.val{H:Hp}{kvs:List (List Key×V)}{xs:List (List Key×Addr×Value)}(r:KT H kvs xs)(k:List Key):jw (bD kvs k) ((atKey xs k).map (·.2)):=by
 induction r with
 |nil=>exact Ć
 |@cons p q ps a h t f=>
  let{d,_,g}:=h
  by_cases e:p.1=k
  .have c:q.1=k:=d.symm.trans e;have b:atKey (q::a) k=ρ q.2:=by simp[atKey,wdm,c]
   rw[cu e,b];exact g
  .have c:¬q.1=k:=λz=>e (d.trans z);have b:atKey (q::a) k=atKey a k:=by simp[atKey,wdm,c]
   rw[cw e,b];exact f
theorem KT.repl(r:KT H kvs xs)(k:List Key)(j:RelV y u) :
 KT H (kvs.map λg=>if g.1=k then(g.1,y) else g) (xs.map (putAt k u)):=by
 induction r with
 |nil=>exact .nil
 |@cons p q ps f h t c=>
  rw[Ó,Ó];refine .cons ?_ c
  let{a,b,d}:=h
  unfold putAt
  by_cases e:p.1=k
  .rw[if_pos e,if_pos (a.symm.trans e)];exact⟨a,b,j⟩
  .rw[if_neg e,if_neg (λz=>e (a.trans z))];exact⟨a,b,d⟩
def eN(H:Hp)(a:Addr)(y:V)(r:Option V):Prop:=
 (∃kvs k,Rd H a (.dK kvs)/\y=kV k/\r=bD kvs k)\/∃kvs k b,Rd H a (.dT kvs)/\y=.ref b/\H b=ρ (.tup (k.map kV))/\r=bD kvs k
theorem eN.k{H:Hp}{a:Addr}{kvs:List (Key×V)}{k:Key}(e:H a=ρ (.dK kvs)):eN H a (kV k) (bD kvs k):=.inl {kvs,k,.inl e,rfl,rfl}
def Rk(td ty:TE):TE:=λσ H Q=>td σ H λx H1=>ty σ H1 λy H2=>∃a v,x=.ref a/\eN H2 a y (ρ v)/\Q v H2
def UO(ty td:TE):TE:=λσ H Q=>ty σ H λy H1=>td σ H1 λx H2=>∃a o,x=.ref a/\eN H2 a y o/\Q (.bl o.isSome) H2
def LC(ty td:TE):TE:=λσ H Q=>ty σ H λy H1=>td σ H1 λx H2=>∃a o,x=.ref a/\eN H2 a y o/\Q (.bl (!o.isSome)) H2
structure M1(X:Cx)(o:Expr)(m:Str)(apos:Pos)(e:Expr)(eX:Pos):Prop where
 base:Ň o m X.env (eval o X.5)=eval o X.5
 few:((backTo eX (starEach [e] X.5)).all (λx=>!x.1)&&(backToKw eX (Ĭ [] X.5)).all (λx=>x.1.isSome)
  && decide (([e]:List Expr).length+([]:List Ŝ).9+(if ([]:List Ŝ).isEmpty then 0 else 1)<30))=true
 line:(apos.endLine==eX.line)=true
 trees:backTo eX (starEach [e] X.5)=[(false,eval e X.5)]
structure M2(X:Cx)(o:Expr)(m:Str)(apos:Pos)(e f:Expr)(eX:Pos):Prop where
 base:Ň o m X.env (eval o X.5)=eval o X.5
 few:((backTo eX (starEach [e,f] X.5)).all (λx=>!x.1)&&(backToKw eX (Ĭ [] X.5)).all (λx=>x.1.isSome)
  && decide (([e,f]:List Expr).length+([]:List Ŝ).9+(if ([]:List Ŝ).isEmpty then 0 else 1)<30))=true
 line:(apos.endLine==eX.line)=true
 trees:backTo eX (starEach [e,f] X.5)=[(false,eval e X.5),(false,eval f X.5)]
def Oi(td ty tx:TE):TE:=λσ H Q=>td σ H λx H1=>∃a,x=.ref a/\UL H1 a/\ty σ H1 λy H2=>tx σ H2 λz H3=>∃o,eN H3 a y o/\Q (o.getD z) H3
noncomputable def inClass(s:Stmt)(j:Nat):Stmt:=match s with
 |.ClassDef _ _ _ body _ _ _ _ _ _ _=>body.getD j (.Pass ⟨0,0,0,0⟩)
 |_=>.Pass ⟨0,0,0,0⟩
structure kq(J:It)(Ok:Hp->Prop)(xs:List V):Prop where
 go:∀i H,Ok H->i<xs.9->J.go i H
 uY:∀i H x H',Ok H->i<xs.9->J.uY i H x H'->H'=H/\xs[i]?=ρ x
 stop:∀H,Ok H->J.stop xs.length H
theorem aT(K:Á)(a:Addr)(xs:List V):kq (Qo K a) (λH=>aO K H a xs) xs:=
 {λi H q hi=>{xs,xs[i],q,by simp[hi]},λi H x b q _ y=>{y.1,y.2 xs q},λH q=>{xs,q,Ä _}}
noncomputable def TQ(n:Nat)(val:Nat->V):It:={λi _=>i<n,λi H x H'=>H'=H/\x=val i,λi _=>n<=i}
theorem Oj{val:Nat->V}(hn:xs.9=n)(g:∀i x,xs[i]?=ρ x->val i=x):kq (TQ n val) (λ_=>True) xs:=by
 subst hn;refine{λi H _ hi=>hi,λi H x a _ hi y=>{y.1,?_},λH _=>Ä _};have e:xs[i]?=ρ xs[i]:=by simp[hi]
 rw[e,y.2,g i _ e]
theorem iK(lo:Int)(n:Nat):kq (Nh lo n) (λ_=>True) ((Ö n).map λi=>V.int (lo+(i:Nat))):=by
 refine{λi H _ hi=>(show i<n by simpa using hi),λi H x b _ hi y=>{y.1,?_},λH _=>?_}
 .have a:i<n:=by simpa using hi
  rw[y.2];simp[a]
 .show n<=_;simp
noncomputable def yq(z:Str)(i:Nat):V:=.str {#[z.cps.getD i 0]}
theorem pH(z:Str):kq (TQ z.cps.size (yq z)) (λ_=>True) (fm z):=by simp_all [Oj,fm,Ç,Ò,Ź,yq,wcU]
def UP(tl:TE):TI:=λσ H R=>tl σ H λx H1=>∃z,x=.str z/\R (TQ z.cps.size (yq z)) H1
theorem Cw{α:Type}:∀n P,Rf n P->∀us:List α,us.9=n->P us
 |0,_,h,[],_=>h
 |n+1,_,h,a::us,e=>Cw n _ (h a) us (wir e)
structure cb(X:Cx)(scope:Ă)(x:Str)(ys:List Str)(ix:List Nat):Prop where
 kind:scope.kind=.function
 HZ:∀y∈scope.names,y.2≠.cell
 names:∀y∈scope.names,y.2=.local->scope.names.lookup y.1=ρ .local
 var:scope.names.lookup x=ρ .local
 free:Oe scope X.5
 nd:(x::ys).Nodup
 len:ix.9=ys.9
 slots:∀(j:Nat) (y:Str),ys[j]?=ρ y->∃i:Nat,ix[j]?=ρ i/\X.N[i]?=ρ y/\(X.env.scope.names.lookup y=ρ .cell\/X.env.scope.names.lookup y=ρ .free)/\scope.names.lookup y=ρ .free
noncomputable def Qp(K:Á)(a:Addr):It:=
 {λi H=>∃xs x,aO K H a xs/\xs[i]?=ρ x,λi H x H'=>∃T xv,H T=τ/\x=.ref T/\H'=upd H T (.tup [.int (i:Nat),xv])/\∀xs,aO K H a xs->xs[i]?=ρ xv,λi H=>∃xs,aO K H a xs/\xs.9<=i}
def Rl(K:Á)(ta:TA):TI:=λσ H R=>ta σ H λvs H1=>∃a xs,vs=[.ref a]/\aO K H1 a xs/\R (Qp K a) H1
noncomputable def fF(x:Str)(i:Nat):Str:={#[x.cps.getD i 0]}
noncomputable def oO(sc scope:Ă)(N:List Str)(x:Str)(ys:List Str)(ix:List Nat):Bool:=
 (match scope.kind with |.function=>true |_=>false) &&
 (scope.names.all λy=>!decide (y.2=.cell))&&(scope.names.all λy=>!decide (y.2=.local) ||decide (scope.names.lookup y.1=ρ .local)) &&
 (scope.names.all λy=>!decide (y.2=.free) ||decide (sc.names.lookup y.1=ρ .cell) ||decide (sc.names.lookup y.1=ρ .free)) &&
 decide (scope.names.lookup x=ρ .local)&&decide ((x::ys).Nodup)&&decide (ix.9=ys.9) &&
 ((Ö ys.9).all λj=>match ys[j]?,ix[j]? with
   |some y,ρ i=>decide (N[i]?=ρ y)&&(decide (sc.names.lookup y=ρ .cell) ||decide (sc.names.lookup y=ρ .free))&&decide (scope.names.lookup y=ρ .free)
   |_,_=>false)
theorem Ia{κ:Type}(f:κ->V)(g:κ->Str)(j:∀a b,g a=g b->f a=f b):∀{l:List κ} {c:κ},c∈l->bD (l.map λc=>((Å (g c):Key),f c)) (Å (g c):Key)=ρ (f c):=by intro a;induction a<;>grind [cu,cw,Ě]
structure Nt(K:Á)(CB:Addr):Prop where
 sp:whC K (.ref CB) "__getattribute__"=ρ (ρ (.builtin "type.__getattribute__"))
 rd:readsIn K CB (.type "type")=true
 fc:findCls K (.ref CB) (.type "type") "__init__"=ρ (.val (.builtin "ValueError.__init__"))
noncomputable def UQ:TJ:=λacc _ H Q=>acc.9<=sizeLine/\Q acc H
noncomputable def Ib(z:Str):It:={λi _=>i<z.cps.size,λi H x H'=>∃T,H T=τ/\x=.ref T/\H'=upd H T (.tup [.int (i:Nat),yq z i]),λi _=>z.cps.size<=i}
def Ol(ta:TA):TI:=λσ H R=>ta σ H λvs H1=>∃z,vs=[.str z]/\R (Ib z) H1
noncomputable def LD(d:Addr)(o:Obj)(kvs:List (Key×V)):It:={λi H=>H d=ρ (.frz o (.dK kvs))/\i<kvs.9,λi H x H'=>H'=H/\∃kv,kvs[i]?=ρ kv/\x=kV kv.1,λi H=>H d=ρ (.frz o (.dK kvs))/\kvs.9<=i}
def Rm(tl:TE):TI:=λσ H R=>tl σ H λx H1=>∃d kvs,x=.ref d/\((H1 d=ρ (.dK kvs)/\∀o,R (LD d o kvs) (upd H1 d (.frz o (.dK kvs))))\/∃o,H1 d=ρ (.frz o (.dK kvs))/\R (LD d o kvs) H1)
def b8(H:Hp)(rs:List Addr)(Xz:List (List V)):Prop:=rs.9=Xz.length/\∀(i:Nat) (r:Addr) (xs:List V),rs[i]?=ρ r->Xz[i]?=ρ xs->H r=ρ (.tup xs)
theorem b8.nil(H:Hp):b8 H [] []:={rfl,λi r a h=>by simp at h}
def Om(tl:TE):TI:=λσ H R=>tl σ H λx H1=>∃d kvs,x=.ref d/\(H1 d=ρ (.dK kvs)\/∃o,H1 d=ρ (.frz o (.dK kvs)))/\∀o H',H' d=ρ (.frz o (.dK kvs))->(∀c,c≠d->H' c=H1 c)->R (LD d o kvs) H'
theorem AH(lo c:Int)(n:Nat):kq (Lz lo c n) (λ_=>True) ((Ö n).map λi=>V.int (lo+(i:Nat)*c)):=by
 refine{λi H _ hi=>(show i<n by simpa using hi),λi H x b _ hi y=>{y.1,?_},λH _=>?_}
 .have a:i<n:=by simpa using hi
  rw[y.2];simp[a]
 .show n<=_;simp
def ve:List (Int×Int)->TA
 |[]=>zu
 |p::ps=>sQ (Ri (sQ (tC (.int p.1)) (sQ (tC (.int p.2)) zu))) (ve ps)
def Rn(K:Á)(t:TA)(t2:TE):TE:=λσ H Q=>t σ H λvs H1=>t2 σ H1 λy H2=>∃a ns d,vs=[.ref a]/\y=.int d/\aO K H2 a (Ķ V.int ns)/\(ns=[]->Q (.int d) H2)/\(∀M,M∈ns->(∀a∈ns,a<=M)->Q (.int M) H2)
noncomputable def Oo(K:Á)(a:Addr)(n:Nat):It:=
 {λi H=>∃xs x,aO K H a xs/\xs.9=n/\i<n/\xs[n-1-i]?=ρ x,λi H x H'=>H'=H/\∀xs,aO K H a xs->xs[n-1-i]?=ρ x,λi _=>i=n}
inductive UR(K:Á)(vs:List V)(H:Hp)(R:It->Hp->Prop):Prop
 |mk (a xs) (_:vs=[.ref a]) (_:aO K H a xs) (_:R (Oo K a xs.9) H)
def UT(K:Á)(ta:TA):TI:=λσ H R=>ta σ H λvs H1=>UR K vs H1 R
end
section
variable{X:Cx}{a b:Expr}{ta tb:TE}
def Gl(X:Cx)(x:Str):Prop:=X.env.kindOf x=ρ .globalImplicit
theorem Ic(b:Expr)(h:op≠.In)(g:op≠.NotIn):ŷ op b=false:=by
 have a:(op==CmpOp.In)=false:=by grind
 have c:(op==CmpOp.NotIn)=false:=by grind
 cases b<;>simp[ŷ,a,c]
def Ro(ta tb:TE):TE:=λσ H Q=>ta σ H λx H1=>∃c,x=.bl c/\if c=true then tb σ H1 Q else Q (.bl false) H1
def Rp(ta:TE):TE:=λσ H Q=>ta σ H λx H1=>∃c,x=.bl c/\Q (.bl (!c)) H1
def tIf(t:TT)(ta tb:TE):TE:=λσ H Q=>t σ H λc H1=>if c=true then ta σ H1 Q else tb σ H1 Q
theorem kr(b:Expr)(h:op≠.In:=by decide)(g:op≠.NotIn:=by decide):ŷ op b=false:=by
 have a:(op==CmpOp.In)=false:=by grind
 have c:(op==CmpOp.NotIn)=false:=by grind
 cases b<;>simp[ŷ,a,c]
noncomputable def rG:V->V->Bool
 |.non,.non=>true
 |.bl a,.bl b=>a==b
 |.bl a,.int b=>(if a then 1 else 0)==b
 |.int a,.bl b=>a==(if b then 1 else 0)
 |.int a,.int b=>a==b
 |.str a,.str b=>a==b
 |_,_=>false
theorem zC(j:RelV y u)(g:RelV x v)(p:eh y=true)(l:eh x=true):SeqAt.EqAt A s u v (rG y x):=by
 cases y with
 |non=>
  cases j
  cases x with
  |non=>cases g;exact wgf _
  |bl b=>cases g;exact SeqAt.EqAt.none_bool b
  |int b=>let{t,rfl}:=g;exact SeqAt.EqAt.none_int b t
  |str b=>let{t,rfl}:=g;exact SeqAt.EqAt.none_str b t
  |_=>exact absurd (show false=true from l) ã
 |bl a=>
  cases j
  cases x with
  |non=>cases g;exact SeqAt.EqAt.bool_none a
  |bl b=>cases g;exact SeqAt.EqAt.bool_bool a b
  |int b=>let{t,rfl}:=g;exact SeqAt.EqAt.bool_int a b t
  |str b=>let{t,rfl}:=g;exact SeqAt.EqAt.bool_str a b t
  |_=>exact absurd (show false=true from l) ã
 |int a=>
  let{c,rfl}:=j
  cases x with
  |non=>cases g;exact SeqAt.EqAt.int_none a c
  |bl b=>cases g;exact SeqAt.EqAt.int_bool a c b
  |int b=>let{t,rfl}:=g;exact wgC a c b t
  |str b=>let{t,rfl}:=g;exact whn a c b t
  |_=>exact absurd (show false=true from l) ã
 |str a=>
  let{c,rfl}:=j
  cases x with
  |non=>cases g;exact SeqAt.EqAt.str_none a c
  |bl b=>cases g;exact SeqAt.EqAt.str_bool a c b
  |int b=>let{t,rfl}:=g;exact whp a c b t
  |str b=>let{t,rfl}:=g;exact wgD a c b t
  |_=>exact absurd (show false=true from l) ã
 |_=>exact absurd (show false=true from p) ã
noncomputable def Cy(x:V)(u:Value):Bool:=match u with
 |.none=>rG .non x
 |.bool b=>rG (.bl b) x
 |.int i _=>rG (.int i) x
 |.str z _=>rG (.str z) x
 |_=>false
theorem Ie(r:RelV y u)(f:eh y=true):Cy x u=rG y x:=by
 cases y with
 |non=>cases r;rfl
 |bl b=>cases r;rfl
 |int i=>let{t,rfl}:=r;rfl
 |str z=>let{t,rfl}:=r;rfl
 |_=>exact absurd (show false=true from f) ã
theorem mm(g:RelV x v)(j:eh x=true):∀{xs:List V} {us:List Value},Vals xs us->xs.all eh=true->∀u∈us,SeqAt.EqAt A s u v (Cy x u)
 |_,_,.nil,_=>λu a=>by cases a
 |y::xs,u::us,.cons r t,f=>λb a=>by
  rw[wfl,ś]at f;rcases à.mp a with rfl |a
  .rw[Ie r f.1];exact zC r g f.1 j
  .exact mm g j t f.2 b a
noncomputable def uq:List V->List V->Bool
 |[],[]=>true
 |x::xs,y::ys=>rG x y&&uq xs ys
 |_,_=>false
theorem AI(h:xs.length≠ys.9):uq xs ys=false:=by
 induction xs generalizing ys with
 |nil=>cases ys with
  |nil=>exact absurd rfl h
  |cons _ _=>rfl
 |cons x xs a=>cases ys with
  |nil=>rfl
  |cons y ys=>
   show (rG x y&&uq xs ys)=false;rw[a (by simpa using h),ů]
theorem oP:∀{xs ys:List V},xs.9=ys.9->uq xs ys=(Ö xs.9).all λj=>rG (xs.getD j .non) (ys.getD j .non)
 |[],[],_=>rfl
 |[],_::_,h=>by simp at h
 |_::_,[],h=>by simp at h
 |x::xs,y::ys,h=>by
  show (rG x y&&uq xs ys)=_;rw[ê,List.range_succ_eq_map,wfl,wfM,oP (by simpa using h)];rfl
theorem b8.snoc(t:b8 H rs g)(h:H r=ρ (.tup xs)):b8 H (rs++[r]) (g++[xs]):=by
 refine{by rw[É,É,t.1];rfl,λi a b c d=>?_}
 by_cases hi:i<rs.9
 .rw[ā hi]at c;rw[ā (by rw[<-t.1];exact hi)]at d;exact t.2 i a b c d
 .have e:i=rs.9:=by
   have:=(Ñ.mp c).1;rw[É,Ζ]at this
   lia
  subst e;rw[ü (Ä _),Ď]at c;rw[ü (by rw[t.1];exact Ä _),t.1,Ď]at d;cases c;cases d;exact h
noncomputable def hitsD(kb ka:List (Key×V)):Bool:=ka.all λkv=>match bD kb kv.1 with
 |some y=>rG kv.2 y
 |none=>false
noncomputable def UU(ka kb:List (Key×V)):Bool:=ka.9==kb.length&&hitsD kb ka
end
section
variable(P:Ê)(w:World)
def bP(H:Hp)(h:Heap)(a:Addr):HO->Prop
 |.lst xs=>xs.9<=sizeLine/\∃(its:List Value) (n:Nat),Vals xs its/\h.get? a=ρ {cls:=.type "list",data:=.seq its.toArray n}
 |.tup xs=>xs.9<=sizeLine/\∃its:List Value,Vals xs its/\IsTup h a its.6
 |.dK kvs=>kvs.9<=sizeLine/\(a==Ė)=false/\∃vs,KV kvs vs/\h.DictOf (bA P w) a vs
 |.dT kvs=>kvs.9<=sizeLine/\(a==Ė)=false/\∃xs:List (List Key×Addr×Value),
   Paired (λ(p:List Key×V) (q:List Key×Addr×Value)=>p.1=q.1/\H q.2.1=ρ (.tup (p.1.map kV))/\RelV p.2 q.2.2) kvs xs /\
   ∃o es ep,h.get? a=ρ o/\o.ExactDict/\o.data=.dict es ep/\es.toList=xs.map (entryOfKey (Ψ (bA P w)))/\(xs.map (·.1)).Nodup
 |.set S n=>h.SetOf (intKind P w) a S n
 |.ins C dx fs=>H dx=ρ (.own a)/\fs.9<=1000/\dx≠a/\h.get? a=ρ (Ų C dx) /\
   ∃mA,h.Ns1 dx mA/\(∀f,jw (fs.lookup f) (mA f))/\weP mA (fs.map (·.1))
 |.own _=>∃o,h.get? a=ρ o
 |.xd fs=>∃mA,h.Ns1 a mA/\∀f,jw (fs.lookup f) (mA f)
 |.rng lo hi=>∃t u v,h.get? a=ρ {cls:=.type "range",data:=.fields #[.int lo t,.int hi u,.int 1 v]}
 |.frz o u=>h.get? a=ρ o/\bP H h a u
 |.tbl ps=>h.get? a=ρ {cls:=.none,data:=.fields ps}
 |.met f x=>h.get? a=ρ (wft (.ref f) (.ref x))
 |.ext φ=>φ h/\(∃o,h.get? a=ρ o)/\∀h1 h2:Heap,φ h1->(∀o,h1.get? a=ρ o->h2.get? a=ρ o)->φ h2
def ku(H:Hp)(h:Heap):Prop:=∀a o,H a=ρ o->bP P w H h a o
inductive UW(K:Á)(x y:V)(H:Hp)(Q:VK):Prop
 |mk (a b xs ys) (_:x=.ref a) (_:y=.ref b) (_:aO K H a xs) (_:aO K H b ys) (_:xs.all eh=true) (_:ys.all eh=true) (_:Q (.bl (uq xs ys)) H)
theorem yr:∀(a b:List Str),uq (a.map V.str) (b.map V.str)=decide (a=b)
 |[],[]=>rfl
 |[],_::_=>rfl
 |_::_,[]=>rfl
 |x::c,y::d=>by
  show ((x==y)&&uq (c.map V.str) (d.map V.str))=_;rw[yr c d]
  by_cases e:x=y
  .subst e
   by_cases f:c=d
   .subst f;simp
   .simp[f]
  .have:(x==y)=false:=beq_eq_false_iff_ne.mpr e;rw[this];simp[e]
inductive UX(K:Á)(x y:V)(H:Hp)(Q:VK):Prop
 |mk (a b xs ys) (_:x=.ref a) (_:y=.ref b) (_:aO K H a xs) (_:aO K H b ys) (_:xs.all eh=true) (_:ys.all eh=true) (_:Q (.bl (!uq xs ys)) H)
inductive UY(x y:V)(H:Hp)(Q:VK):Prop
 |mk (a b ka kb) (_:x=.ref a) (_:y=.ref b) (_:Rd H a (.dK ka)) (_:Rd H b (.dK kb)) (_:vd ka=true) (_:vd kb=true) (_:Q (.bl (UU ka kb)) H)
end
section
variable{te:TE}{tl th:TO}
theorem Rd.ok{P:Ê}{w:World}{H:Hp}{h:Heap}{a:Addr}{u:HO}(r:Rd H a u)(x:ku P w H h):bP P w H h a u:=by
 rcases r with r |⟨o,r⟩
 .exact x a u r
 .let{_,q}:=x a _ r
  exact q
structure Inv(X:Cx)(pins:List (Addr×Obj))(σ:List (Option V))(H:Hp)(s:Shared):Prop where
 ok:X.Ok
 os:s.os=X.s₀.os
 bare:AllBare s.gens
 base:Un X.fs X.ex X.H₀ H X.s₀.heap s.heap
 loc:∃m,s.heap.Ns X.env.locals m/\∀(i:Nat) (x:Str) (v:V),X.N[i]?=ρ x->σ[i]?=ρ (ρ v)->Qm X.env.scope x->∃u,RelV v u/\Look X.env s.heap m x u
 cell:∀x c,X.env.cells.lookup x=ρ c->∃v,s.heap.IsCell c v
 free:H X.env.locals=τ
 iL:∀x c,X.env.cells.lookup x=ρ c->H c=τ
 pin:∀p∈X.pn++pins,s.heap.get? p.1=ρ p.2/\H p.1=τ/\p.1≠X.env.locals/\p.1∉X.fs/\∀v,p.2.data≠.cell v
 b6:ku X.prog X.w H s.heap
 len:σ.9=X.N.9
def EP(X:Cx)(pins:List (Addr×Obj))(σ:St)(Q:VK)(u:Value)(s':Shared):Prop:=∃v H',Inv X pins σ H' s'/\RelV v u/\Q v H'
def TP(X:Cx)(pins:List (Addr×Obj))(σ:St)(Q:Bool->Hp->Prop)(b:Bool)(s':Shared):Prop:=∃H',Inv X pins σ H' s'/\Q b H'
def AP(X:Cx)(pins:List (Addr×Obj))(σ:St)(Q:List V->Hp->Prop)(us:List Value)(s':Shared):Prop:=∃vs H',Inv X pins σ H' s'/\Vals vs us/\Q vs H'
abbrev PE(X:Cx)(e:Expr)(t:TE):Prop:=Bx (∀(pins:List (Addr×Obj)) (s:Shared) (σ:St) (H:Hp) (Q:VK),Inv X pins σ H s->t σ H Q->wpAny (model X.prog X.w) X.A (eval e X.5) (EP X pins σ Q) X.xe s)
abbrev PT(X:Cx)(e:Expr)(t:TT):Prop:=Bx (∀(pins:List (Addr×Obj)) (s:Shared) (σ:St) (H:Hp) (Q:Bool->Hp->Prop),Inv X pins σ H s->t σ H Q->wpAny (model X.prog X.w) X.A (isTrue e X.env (eval e X.5)) (TP X pins σ Q) X.xe s)
abbrev PW(X:Cx)(e:Expr)(t:TT):Prop:=Bx (∀(whole:Sem Value) (pins:List (Addr×Obj)) (s:Shared) (σ:St) (H:Hp) (Q:Bool->Hp->Prop),Inv X pins σ H s->t σ H Q->wpAny (model X.prog X.w) X.A (isTrue e X.env whole) (TP X pins σ Q) X.xe s)
theorem PW.pt{X:Cx}{e:Expr}{t:TT}(h:PW X e t):PT X e t:={h _}
abbrev PA(X:Cx)(es:List Expr)(t:TA):Prop:=Bx (∀(pos:Pos) (pins:List (Addr×Obj)) (s:Shared) (σ:St) (H:Hp) (Q:List V->Hp->Prop),Inv X pins σ H s->t σ H Q->wpAny (model X.prog X.w) X.A (spliced (backTo pos (starEach es X.5))) (AP X pins σ Q) X.xe s)
abbrev PG(X:Cx)(target:Expr)(t:TG):Prop:=Bx (∀(pins:List (Addr×Obj)) (s:Shared) (σ:St) (H:Hp) (v:V) (u:Value) (Q:St->Hp->Prop),Inv X pins σ H s->RelV v u->t v σ H Q ->
  wpAny (model X.prog X.w) X.A (assign target X.env u) (λ_ s'=>∃σ' H',Inv X pins σ' H' s'/\Q σ' H') X.xe s)
abbrev TR(X:Cx)(ts:List Expr)(t:TN):Prop:=Bx (∀(pins:List (Addr×Obj)) (s:Shared) (σ:St) (H:Hp) (vs:List V) (us:List Value) (Q:St->Hp->Prop),Inv X pins σ H s->Vals vs us->t vs σ H Q ->
  wpAny (model X.prog X.w) X.A (assignInOrder ((Ţ ts X.5).map (·.2)) us) (λ_ s'=>∃σ' H',Inv X pins σ' H' s'/\Q σ' H') X.xe s)
def Rq(X:Cx)(t:Ob):Prop:=
 ∀(pins:List (Addr×Obj)) (s:Shared) (σ:St) (H:Hp) (o i v:V) (ov iv u:Value) (Q:Hp->Prop),Inv X pins σ H s->RelV o ov->RelV i iv->RelV v u->t o i v H Q ->
  wpAny (model X.prog X.w) X.A (setItem ov iv u) (λ_ s'=>∃H',Inv X pins σ H' s'/\Q H') X.xe s
def TU(X:Cx)(op:Operator)(t:QQ):Prop:=
 ∀(pins:List (Addr×Obj)) (s:Shared) (σ:St) (H:Hp) (x y:V) (v u:Value) (Q:VK),Inv X pins σ H s->RelV x v->RelV y u->t x y H Q ->
  wpAny (model X.prog X.w) X.A (inplaceOp op v u) (EP X pins σ Q) X.xe s
structure Turn(P:Ê)(w:World)(K:Á)(tg:Expr)(J:It)(fp:List Addr)(it:Addr)(tn:Nat->Heap->Prop):Prop where
 mem:it∈fp
 obj:∀i h,tn i h->∀b∈fp,∃o,h.get? b=ρ o/\∀v,o.data≠.cell v
 keep:∀i h h',tn i h->(∀b∈fp,∀o,h.get? b=ρ o->h'.get? b=ρ o)->tn i h'
 item:∀(X:Cx),X.prog=P->X.w=w->X.K=K->X.calm=true->∀(i:Nat) (pins:List (Addr×Obj)) (s:Shared) (σ:St) (H:Hp) (E:Value->Shared->Prop),Inv X pins σ H s->(∀b∈fp,uZ X pins H b)->tn i s.heap->J.go i H ->
  wpAny (model P w) X.A (pyNext (.ref it)) (λr s1=>∃u,r=ρ u /\
   wpAny (model P w) X.A (weM tg (.ref it) u) (λ_ s2=>∃x H',Inv X pins σ H' s2/\RelV x u/\J.uY i H x H'/\tn (i+1) s2.heap/\∀b∈fp,H' b=τ) E s1) E s
 done:∀(X:Cx),X.prog=P->X.w=w->X.K=K->X.calm=true->∀(i:Nat) (pins:List (Addr×Obj)) (s:Shared) (σ:St) (H:Hp) (E:Value->Shared->Prop),Inv X pins σ H s->(∀b∈fp,uZ X pins H b)->tn i s.heap->J.stop i H ->
   wpAny (model P w) X.A (pyNext (.ref it)) (λr s1=>r=τ/\Inv X pins σ H s1) E s
 self:∀(A:Around) (i:Nat) (s:Shared) (Q:Value->Shared->Prop) (E:Value->Shared->Prop),tn i s.heap->Q (.ref it) s->wpAny (model P w) A (pyIter (.ref it)) Q E s
def Qq(X:Cx)(pins:List (Addr×Obj))(σ:St)(tg:Expr)(R:It->Hp->Prop)(UZ:Value)(s2:Shared):Prop:=
 ∃(it:Addr) (fp:List Addr) (tn:Nat->Heap->Prop) (J:It) (H':Hp),UZ=.ref it/\Inv X pins σ H' s2/\Turn X.prog X.w X.K tg J fp it tn/\tn 0 s2.heap/\(∀b∈fp,uZ X pins H' b)/\R J H'
abbrev PI(X:Cx)(tg iter:Expr)(wi:TI):Prop:=Bx (∀(pins:List (Addr×Obj)) (s:Shared) (σ:St) (H:Hp) (R:It->Hp->Prop),Inv X pins σ H s->wi σ H R ->
  wpAny (model X.prog X.w) X.A (eval iter X.5) (λv s1=>wpAny (model X.prog X.w) X.A (pyIter v) (Qq X pins σ tg R) X.xe s1) X.xe s)
def me(X:Cx)(f:Value->Value->Sem Value)(r:R2):Prop:=
 ∀(pins:List (Addr×Obj)) (s:Shared) (σ:St) (H:Hp) (x y:V) (v u:Value) (Q:VK),Inv X pins σ H s->RelV x v->RelV y u->r x y H Q ->
  wpAny (model X.prog X.w) X.A (f v u) (EP X pins σ Q) X.xe s
def V0(X:Cx)(f:Value->Sem Value)(r:V->Hp->VK->Prop):Prop:=
 ∀(pins:List (Addr×Obj)) (s:Shared) (σ:St) (H:Hp) (x:V) (v:Value) (Q:VK),Inv X pins σ H s->RelV x v->r x H Q ->
  wpAny (model X.prog X.w) X.A (f v) (EP X pins σ Q) X.xe s
theorem Lr.ok{i j:Int}(h:Lr i j):IntMulOk i j:=by
 rcases h with⟨a,b⟩ |⟨a,b⟩
 .exact .of_left (intBits_le_64 a b)
 .exact .of_right (intBits_le_64 a b)
def CE(outer:List Env)(P:Ê)(w:World)(H:Hp)(s:Shared)(Q:VK)(u:Value)(s':Shared):Prop:=
 ∃v H',s'.os=s.os/\AllBare s'.gens/\Un (rA outer) [] H H' s.heap s'.heap/\ku P w H' s'.heap/\RelV v u/\Q v H'
def CR(CX:Fx)(outer:List Env)(P:Ê)(w:World)(H:Hp)(s:Shared)(Q:VK)(E:XK)(r:ī)(s':Shared):Prop:=
 match r with
 |.ok (.ret u)=>CE outer P w H s Q u s'
 |.ok _=>False
 |.error e=>CX outer H s E e s'
abbrev PK(X:Cx)(kws:List Ŝ)(t:TA):Prop:=Bx (∀(pos:Pos) (pins:List (Addr×Obj)) (s:Shared) (σ:St) (H:Hp) (Q:List V->Hp->Prop),Inv X pins σ H s->t σ H Q->wpAny (model X.prog X.w) X.A (evalAll ((backToKw pos (Ĭ kws X.5)).map (·.2))) (AP X pins σ Q) X.xe s)
abbrev PO(X:Cx)(e:Option Expr)(t:TO):Prop:=Bx (∀(pins:List (Addr×Obj)) (s:Shared) (σ:St) (H:Hp) (Q:Option Int->Hp->Prop),Inv X pins σ H s->t σ H Q ->
  wpAny (model X.prog X.w) X.A (evalPart e X.5) (λu s'=>∃o H',Inv X pins σ H' s'/\IsPart u o/\Q o H') X.xe s)
def tSl(r:V->Option Int->Option Int->Hp->VK->Prop)(te:TE)(tl th:TO):TE:=λσ H Q=>te σ H λx H1=>tl σ H1 λl H2=>th σ H2 λu H3=>r x l u H3 Q
def Qr(X:Cx)(r:R2):Prop:=
 ∀(value slice:Expr) (pins:List (Addr×Obj)) (s:Shared) (σ:St) (H:Hp) (x y:V) (v u:Value) (Q:VK),Inv X pins σ H s->RelV x v->RelV y u->r x y H Q ->
  wgm slice false v u=operate [v,u] (getItem v u)->wpAny (model X.prog X.w) X.A (wh6 value slice v u) (EP X pins σ Q) X.xe s
theorem vf(h:Heap)(g:Ė<h.7):bP P w H (h.push {cls:=.type "dict",data:=.dict #[]}) h.objs.size (.dK []):=
 {Û _,beq_eq_false_iff_ne.mpr (æ (Ù g)),[],.nil,Heap.DictOf.new h}
abbrev TV(X:Cx)(pos:Pos)(keys:List (Option Expr))(values:List Expr)(V1:List (TE×TE)):Prop:=Bx (∀(pins:List (Addr×Obj)) (s:Shared) (σ:St) (H:Hp) (Q:List (V×V)->Hp->Prop),Inv X pins σ H s->Cr V1 σ H Q ->
  wpAny (model X.prog X.w) X.A (evalPairs (pairTrees keys values X.env pos)) (λvs s'=>∃ps H',Inv X pins σ H' s'/\VV ps vs/\Q ps H') X.xe s)
theorem Er{X:Cx}:TV X pos [] [] []:={λa s σ H Q I h=>pairTrees_nil_walk {[],H,I,.nil,h}}
noncomputable def uM(P:Ê)(w:World):Fx:=λouter H s E ev s'=>∃e C od H',ev=.ref e/\s'.os=s.os/\AllBare s'.gens/\Un (rA outer) [] H H' s.heap s'.heap/\ku P w H' s'.heap/\L6 s.heap.objs.size H' s'.heap e C od/\E (.ref C) od H'
def Es(X:Cx)(E:XK):Prop:=∀(pins:List (Addr×Obj)) (σ:St) (H:Hp) (s:Shared) (e C:Addr) (od:Option Addr),Inv X pins σ H s->L6 X.s₀.heap.objs.size H s.heap e C od->E (.ref C) od H->X.xe (.ref e) s
abbrev PJ(X:Cx)(es:List Expr)(t:TJ):Prop:=Bx (∀(pins:List (Addr×Obj)) (s:Shared) (σ:St) (H:Hp) (acc:Str) (Q:Str->Hp->Prop),Inv X pins σ H s->t acc σ H Q ->
 wpAny (model X.prog X.w) X.A (joinParts acc (evalEach es X.5)) (λu s'=>∃z H',Inv X pins σ H' s'/\(∃tk,u=.str z tk)/\Q z H') X.xe s)
end
section
variable{X:Cx}{a b:Expr}{ta tb:TE}{pos:Pos}{tA:TT}
abbrev PC(X:Cx)(op:CmpOp)(a b:Expr)(t:TE):Prop:=Bx (∀(pins:List (Addr×Obj)) (s:Shared) (σ:St) (H:Hp) (Q:VK),Inv X pins σ H s->t σ H Q ->
  wpAny (model X.prog X.w) X.A (eval a X.5) (λv s₁=>wpAny (model X.prog X.w) X.A (eval b X.5) (λu s₂=>wpAny (model X.prog X.w) X.A (ô op v u) (EP X pins σ Q) X.xe s₂) X.xe s₁) X.xe s)
theorem zD{op:CmpOp}{t:TE}(h:PC X op a b t)(g:ŷ op b=false:=by first |exact Ic _ ⋯ ⋯ |rfl):PT X (.Compare a [op] [b] pos) (tB t):=by
 refine{?_};intro e s σ H Q I hw;refine wgE (bQ (h e s σ H _ I hw) λv m g=>bQ g λu n f=>bQ f λc o ⟨x,i,j,k,l⟩=>?_) g
 let{d,rfl,q}:=l
 cases k;exact ř ⟨i,j,q⟩
theorem bS{e:Expr}{t:TE}(h:PE X e t)(he:∀whole,isTrue e X.env whole=(do let v <-whole;standAt e.pos;holding [v] (truthy v)):=by intro _;rfl):PT X e (tB t):=by
 refine{?_};intro a s σ H Q I hw;refine isTrue_plain (bQ (h a s σ H _ I hw) λv i ⟨x,b,c,f,g⟩=>?_) (he _)
 let{d,rfl,q}:=g
 cases f;exact ř ⟨b,c,q⟩
theorem zE(ha:PT X a tA):PW X (.BoolOp .And [a] pos) tA:=by
 refine{?_};intro d b s σ H Q I h;refine isTrue_and (bQ (ha b s σ H Q I h) λc f e=>?_)
 cases c with
 |true=>exact isTrue_and_nil e
 |false=>exact e
theorem jx(ha:PT X a tA):PW X (.BoolOp .Or [a] pos) tA:=by
 refine{?_};intro d b s σ H Q I h;refine isTrue_or (bQ (ha b s σ H Q I h) λc f e=>?_)
 cases c with
 |false=>exact isTrue_or_nil e
 |true=>exact e
theorem cH(ha:PT X a tA):PT X (.UnaryOp .Not a pos) (UG tA):=by
 refine{?_};intro b s σ H Q I h;exact isTrue_not (ha b s σ H (λc d=>Q (!c) d) I h)
theorem vg{op}(h:PE X a t):PE X (.BoolOp op [a] pos) t:={λb s σ H Q I hw=>BoolOp_one (h b s σ H Q I hw)}
theorem zF(ha:PE X a ta):PE X (.UnaryOp .Not a pos) (Rp ta):=by
 refine{?_};intro b s σ H Q I h;refine UnaryOp_ (bQ (ha b s σ H _ I h) λv i ⟨x,e,f,g,d⟩=>?_)
 let{c,rfl,d}:=d
 cases g;exact not_of (ř {.bl (!c),e,f,rfl,d})
theorem AJ{c:Expr}(hc:PT X c tA)(ha:PE X a ta)(l:PE X b tb):PE X (.IfExp c a b pos) (tIf tA ta tb):=by
 refine{?_};intro e s σ H Q I h;refine wpAny_IfExp (bQ (hc e s σ H _ I h) λd f ⟨g,i,j⟩=>?_)
 cases d with
 |true=>exact ha e f σ g Q i j
 |false=>exact l e f σ g Q i j
theorem Inv.quiet(I:Inv X g σ H s):interactive X.5=false:=by simp[interactive,I.ok.kind]
theorem d1:TR X [] HM:=by
 refine{?_};intro a s σ H b c Q I r h
 let{e,h}:=h
 subst e;cases r;exact assignInOrder_nil ⟨σ,H,I,h⟩
theorem aQ{e:Expr}{g:List Expr}{t:TG}{u:TN}(j:PG X e t)(l:TR X g u)
 (hs:(Ţ (e::g) X.5).map (·.2)=assign e X.5::(Ţ g X.5).map (·.2):=by rfl):TR X (e::g) (ml t u):=by
 refine{?_};intro a s σ H n o Q I r h
 let{v,p,c,h}:=h
 subst c
 cases r with
 |cons r d=>
  rw[hs];refine assignInOrder_cons (bQ (j a s σ H _ _ _ I r h) λ_ f ⟨b,i,k,m⟩=>?_);exact l a f b i _ _ Q k d m
theorem Ig{o i:Expr}{l p:TE}{t:Ob}(C:PE X o l)(hi:PE X i p)(hs:Rq X t)
 (ha:∀v,assign (.Subscript o i pos) X.env v=(do
   let g <-holding [v] (eval o X.5)
   let j <-holding [v,g] (eval i X.5)
   standAt pos
   holding [v,g,j] (setItem g j v)
   release [v,g,j] []):=by intro _;rfl):PG X (.Subscript o i pos) (UI l p t):=by
 refine{?_};intro a s σ H v u Q I r h;rw[ha];refine Â (þ (bQ (C a s σ H _ I h) λg b ⟨x,c,d,e,f⟩=>?_));refine Â (þ (bQ (hi a b σ c _ d f) λj k ⟨y,m,n,q,w⟩=>?_));refine Â (Η (Â (þ (bQ (hs a k σ m x y v g j u _ n e q r w) λ_ D ⟨z,A,B⟩=>?_))));exact wpAny_release ⟨σ,z,A,B⟩
theorem Oq(ha:PE X a ta)(C:PE X b tb){R:V->V->Hp->Prop}(I:Inv X g σ H s)
 (h:ta σ H λx t=>tb σ t λy j=>R x y j) {Q:Value->Shared->Prop} {f:Value->Value->Sem Value}
 (J:∀v u r x y j,Inv X g σ j r->RelV x v->RelV y u->R x y j->wpAny (model X.prog X.w) X.A (f v u) Q X.xe r) :
 wpAny (model X.prog X.w) X.A (eval a X.5) (λv l=>wpAny (model X.prog X.w) X.A (eval b X.5) (λu p=>wpAny (model X.prog X.w) X.A (f v u) Q X.xe p) X.xe l) X.xe s:=by
 refine bQ (ha g s σ H _ I h) λv c ⟨x,t,d,e,i⟩=>?_;refine bQ (C g c σ t _ d i) λu r ⟨y,j,k,m,n⟩=>?_;exact J v u r x y j k e m n
theorem aA(g:me X (binaryOp op) r)(ha:PE X a ta)(j:PE X b tb):PE X (.BinOp a op b pos) (QU r ta tb):=by
 refine{?_};intro c s σ H Q I h;exact wpAny_BinOp (Oq ha j I h λv u d x y e f i k q=>g c d σ e x y v u Q f i k q)
theorem Nu{r:V->Hp->VK->Prop}(g:V0 X (unaryOp op) r)(ha:PE X a ta):PE X (.UnaryOp op a pos) (tUn r ta):=by
 refine{?_};intro b s σ H Q I h;exact UnaryOp_ (bQ (ha b s σ H _ I h) λv c ⟨x,d,e,f,i⟩=>g b c σ d x v Q e f i)
theorem LI{f:Value->Value->Sem Value}{g:Int->Int->Bool}
 (rule:∀(i j:Int) (t u:Tok) (s:Shared) (Q:Value->Shared->Prop) (E:Value->Shared->Prop),Q (.bool (g i j)) s->wpAny (model X.prog X.w) X.A (f (.int i t) (.int j u)) Q E s) :
 me X f (Ni λi j=>.bl (g i j)):=by
 intro a s σ H x y v u Q I b c h
 let{i,j,rfl,rfl,q}:=h
 let{t,rfl}:=b
 let{d,rfl}:=c
 exact rule i j t d s _ _ {.bl (g i j),H,I,rfl,q}
theorem bG(I:Inv X g σ H s)(q:Q (.bl k) H)(e:k=j):EP X g σ Q (.bool j) s:=by
 subst e;exact{.bl k,H,I,rfl,q}
theorem iM:me X (ô .Eq) rEq:=by
 intro e s σ H x y v u Q I d a h
 let{c,q}:=h
 cases x with
 |non=>
  cases d
  cases y with
  |non=>cases a;exact PySem.EqNone.eq_none_none (bG I q (by simp))
  |bl j=>cases a;exact PySem.EqNone.eq_none_bool (bG I q (by simp))
  |int j=>let{b,rfl}:=a;exact PySem.EqNone.eq_none_int (bG I q (by simp))
  |str j=>let{b,rfl}:=a;exact PySem.EqNone.eq_none_str (bG I q (by simp))
  |_=>exact absurd (show false=true from c) ã
 |bl i=>
  cases d
  cases y with
  |non=>cases a;exact PySem.EqNone.eq_bool_none (bG I q (by simp))
  |bl j=>cases a;exact eq_bool (bG I q HP)
  |str j=>let{b,rfl}:=a;exact PySem.EqMixed.eq_bool_str (bG I q (by simp))
  |_=>exact absurd (show false=true from c) ã
 |int i=>
  let{t,rfl}:=d
  cases y with
  |non=>cases a;exact PySem.EqNone.eq_int_none (bG I q (by simp))
  |int j=>let{b,rfl}:=a;exact eq_int (bG I q Eh)
  |str j=>let{b,rfl}:=a;exact PySem.EqMixed.eq_int_str (bG I q (by simp))
  |_=>exact absurd (show false=true from c) ã
 |str i=>
  let{t,rfl}:=d
  cases y with
  |non=>cases a;exact PySem.EqNone.eq_str_none (bG I q (by simp))
  |bl j=>cases a;exact PySem.EqMixed.eq_str_bool (bG I q (by simp))
  |int j=>let{b,rfl}:=a;exact PySem.EqMixed.eq_str_int (bG I q (by simp))
  |str j=>let{b,rfl}:=a;exact eq_str (bG I q Ei)
  |_=>exact absurd (show false=true from c) ã
 |byt i=>
  let{t,rfl}:=d
  cases y with
  |byt j=>let{b,rfl}:=a;exact PySem.W.eq_bytes (bG I q Ej)
  |_=>exact absurd (show false=true from c) ã
 |_=>cases y<;>exact absurd (show false=true from c) ã
theorem Ih:me X (ô .NotEq) rNe:=by
 intro e s σ H x y v u Q I d a h
 let{c,q}:=h
 cases x with
 |non=>
  cases d
  cases y with
  |non=>cases a;exact PySem.EqNone.ne_none_none (bG I q (by simp))
  |bl j=>cases a;exact PySem.EqNone.ne_none_bool (bG I q (by simp))
  |int j=>let{b,rfl}:=a;exact PySem.EqNone.ne_none_int (bG I q (by simp))
  |str j=>let{b,rfl}:=a;exact PySem.EqNone.ne_none_str (bG I q (by simp))
  |_=>exact absurd (show false=true from c) ã
 |bl i=>
  cases d
  cases y with
  |non=>cases a;exact PySem.EqNone.ne_bool_none (bG I q (by simp))
  |bl j=>cases a;exact ne_bool (bG I q (congrArg not HP))
  |str j=>let{b,rfl}:=a;exact PySem.EqMixed.ne_bool_str (bG I q (by simp))
  |_=>exact absurd (show false=true from c) ã
 |int i=>
  let{t,rfl}:=d
  cases y with
  |non=>cases a;exact PySem.EqNone.ne_int_none (bG I q (by simp))
  |int j=>let{b,rfl}:=a;exact ne_int (bG I q (congrArg not Eh))
  |str j=>let{b,rfl}:=a;exact PySem.EqMixed.ne_int_str (bG I q (by simp))
  |_=>exact absurd (show false=true from c) ã
 |str i=>
  let{t,rfl}:=d
  cases y with
  |non=>cases a;exact PySem.EqNone.ne_str_none (bG I q (by simp))
  |bl j=>cases a;exact PySem.EqMixed.ne_str_bool (bG I q (by simp))
  |int j=>let{b,rfl}:=a;exact PySem.EqMixed.ne_str_int (bG I q (by simp))
  |str j=>let{b,rfl}:=a;exact ne_str (bG I q (congrArg not Ei))
  |_=>exact absurd (show false=true from c) ã
 |byt i=>
  let{t,rfl}:=d
  cases y with
  |byt j=>let{b,rfl}:=a;exact PySem.W.ne_bytes (bG I q (congrArg not Ej))
  |_=>exact absurd (show false=true from c) ã
 |_=>cases y<;>exact absurd (show false=true from c) ã
theorem lC:me X (ô .Lt) (Ni λi j=>.bl (decide (i<j))):=LI λ_ _ _ _ _ _ _ q=>lt_int q
theorem Rr:me X (ô .LtE) (Ni λi j=>.bl (decide (i<=j))):=LI λ_ _ _ _ _ _ _ q=>le_int q
theorem nY:me X (ô .Gt) (Ni λi j=>.bl (decide (j<i))):=LI λ_ _ _ _ _ _ _ q=>gt_int q
theorem AK:me X (ô .GtE) (Ni λi j=>.bl (decide (j<=i))):=LI λ_ _ _ _ _ _ _ q=>ge_int q
theorem yt:me X (ô .In) (λx y H Q=>∃i j,x=.str i/\y=.str j/\Q (.bl (!(wem j i 0 j.length 1).isEmpty)) H):=by
 intro a s σ H x y v u Q I b c h
 let{i,j,rfl,rfl,q}:=h
 let{t,rfl}:=b
 let{d,rfl}:=c
 exact in_str (bG I q rfl)
theorem Cz:me X (ô .Is) (λx y H Q=>y=.non/\Q (.bl (decide (x=.non))) H):=by
 intro a s σ H x y v u Q I b c h
 let{rfl,q}:=h
 cases c;refine is_none_gen (bG I q ?_)
 cases x<;>first
  |(cases b;rfl)
  |(let{t,rfl}:=b;rfl)
theorem zG:me X (ô .IsNot) (λx y H Q=>y=.non/\Q (.bl (!decide (x=.non))) H):=by
 intro a s σ H x y v u Q I b c h
 let{rfl,q}:=h
 cases c;refine isnot_none_gen (bG I q ?_)
 cases x<;>first
  |(cases b;rfl)
  |(let{t,rfl}:=b;rfl)
theorem fZ(g:me X (ô op) r)(ha:PE X a ta)(j:PE X b tb)(l:ŷ op b=false):PE X (.Compare a [op] [b] pos) (QU r ta tb):=by
 refine{?_};intro c s σ H Q I h;exact wpAny_Compare1 (Oq ha j I h λv u d x y e f i k q=>g c d σ e x y v u Q f i k q) l
theorem g7(g:me X (ô op) r)(ha:PE X a ta)(j:PE X b tb)(l:ŷ op b=false):PT X (.Compare a [op] [b] pos) (Nj (QU r ta tb)):=by
 refine{?_};intro d s σ H Q I h
 refine wgE (bQ (ha d s σ H _ I h) λv f ⟨x,i,m,n,o⟩=>bQ (j d f σ i _ m o) λu p ⟨y,q,t,w,A⟩=>
  bQ (g d p σ q x y v u _ t n w A) λc G ⟨z,B,C,D,k,e,E⟩=>?_) l
 subst e;cases D;exact ř ⟨B,C,E⟩
theorem fG:PA X [] zu:={λ_ _ _ _ H Q I h=>wfu {[],H,I,.nil,h}}
theorem dh:PO X τ Ls:=by
 refine{?_};intro a s σ H Q I h;rw[evalPart_none];exact Ï {τ,H,I,.none,h}
theorem bp(g:Qr X r)(ha:PE X a ta)(j:PE X b tb)(hs:Lv b):PE X (.Subscript a b pos) (QU r ta tb):=by
 refine{?_};intro c s σ H Q I h;exact Subscript_ (Oq ha j I h λv u d x y e f i k q=>g a b c d σ e x y v u Q f i k q (hs _ _))
theorem zH:me X (ô .NotIn) (λx y H Q=>∃i j,x=.str i/\y=.str j/\Q (.bl (!(!(wem j i 0 j.length 1).isEmpty))) H):=by
 intro a s σ H x y v u Q I b c h
 let{i,j,rfl,rfl,q}:=h
 let{t,rfl}:=b
 let{d,rfl}:=c
 exact notIn_str {.bl _,H,I,rfl,q}
end
section
variable{X:Cx}{pins:List (Addr×Obj)}{σ:List (Option V)}{H:Hp}{s:Shared}
theorem Cx.Ok.V2(ok:X.Ok)(e:X.base.get? b=ρ o):b∉X.fs:=λa=>by
 have:=(ok.pE.mem a).1;rw[e]at this;cases this
theorem Inv.bs(I:Inv X pins σ H s):∀b o,X.base.get? b=ρ o->s.heap.get? b=ρ o/\H b=τ:=λb o e=>
 {I.base.keep b o (I.ok.bs b o e).1 (I.ok.bs b o e).2 (I.ok.V2 e) (I.ok.Ck b o e),I.base.free b o (I.ok.bs b o e).1 (I.ok.bs b o e).2 (I.ok.Ck b o e)}
theorem Inv.bk(I:Inv X pins σ H s):∀b o,X.base.get? b=ρ o->s.heap.get? b=ρ o:=λb o e=>(I.bs b o e).1
theorem Inv.mod(I:Inv X pins σ H s):Mod X.K X.mg X.base:=I.ok.mod
theorem Inv.gJ(I:Inv X pins σ H s):X.K.In s.heap:=I.ok.mod.Ln.keeps I.bk
theorem Inv.Ii(I:Inv X pins σ H s):∀x c,X.env.cells.lookup x=ρ c->c≠X.env.locals:=λx c e z=>by
 let{v,o,d,hd}:=I.cell x c e
 let{m,{f,g,h,a,b,_},_}:=I.loc
 rw[z,a]at d;cases d;rw[b]at hd;cases hd
theorem Inv.pE(I:Inv X pins σ H s):s.heap.FunFrames X.base X.outer:=by
 have all:∀(l:List Env),(∀b∈rA l,b∈X.fs)->X.s₀.heap.FunFrames X.base l->s.heap.FunFrames X.base l:=by
  intro l
  induction l with
  |nil=>intro _ _;trivial
  |cons env r g=>
   intro f hl
   let{hk,{L,o,a,hn,h,hd},i}:=hl
   have c:L∈X.fs:=f L (by delta rA;rw[Ĥ,a];exact Ø)
   let{sl,e}:=I.base.slot L o h (I.ok.Lp L c) c λz=>I.ok.Fv L z c
   exact{hk,{L,_,a,hn,e,hd},g (λb d=>f b (by delta rA;rw[Ĥ,a];exact Ô _ d)) i}
 exact all X.outer (λ_ d=>d) I.ok.pE
theorem Inv.stack(I:Inv X pins σ H s):s.heap.FunFrames X.base X.stack:=by
 rcases I.ok.Qn with e |⟨e,a⟩
 .rw[e];exact I.pE
 .rw[e]
  let{m,hn,_}:=I.loc
  refine .cons (by rw[I.ok.kind];decide) a hn ?_ I.pE;exact Heap.get?_none_of_le (Í I.ok.HL I.ok.above)
theorem Inv.vh(I:Inv X pins σ H s):∀b∈rA X.stack,b∈X.env.locals::X.fs:=λb a=>by
 rcases I.ok.Qn with e |⟨e,c⟩
 .grind
 .grind [rA]
theorem Inv.pI(I:Inv X pins σ H s):∀b∈rA X.stack,H b=τ:=λb a=>by
 rcases à.mp (I.vh b a) with e |a
 .rw[e];exact I.free
 .let{_,o,c,_}:=I.ok.pE.mem a
  exact I.base.free b o c (I.ok.Lp b a) λz=>I.ok.Fv b z a
theorem Inv.Et(I:Inv X pins σ H s)(h:∀p∈g,s.heap.get? p.1=ρ p.2/\H p.1=τ/\p.1≠X.env.locals/\p.1∉X.fs/\∀v,p.2.data≠.cell v):Inv X g σ H s:=
 {I.ok,I.os,I.bare,I.base,I.loc,I.cell,I.free,I.iL,λp a=>(ä.mp a).elim (λz=>I.pin p (ď _ z)) (h p),I.b6,I.len}
structure Ends where
 nx:St->Hp->Prop
 rt:VK
 bk:St->Hp->Prop:=λ_ _=>False
 ct:St->Hp->Prop:=λ_ _=>False
noncomputable abbrev Ends.L7(D:Ends)(N:St->Hp->Prop):Ends:=⟨N,D.rt,D.bk,D.ct⟩
noncomputable abbrev Ends.lp(D:Ends)(N:St->Hp->Prop):Ends:=⟨N,D.rt,D.nx,N⟩
noncomputable abbrev Ends.fn(Q:VK):Ends:={λ_ H'=>Q .non H',Q,λ_ _=>False,λ_ _=>False}
noncomputable abbrev TS:=Ends->St->Hp->Prop
theorem Ij(j:X.N[i]?=ρ x)(p:Qm X.env.scope x)(hd:(x==("__debug__":Str))=false:=by decide)(g:(x==("__classdict__":Str))=false:=by decide):PE X (.Name x pos) (Lq i):=by
 refine{?_};intro b s σ H Q I h
 let{v,e,h}:=h
 let{m,hn,hl}:=I.loc
 let{u,r,l}:=hl i x v j e p
 have fin:EP X b σ Q u s:=⟨v,H,I,r,h⟩;rcases l with⟨hk,d⟩ |⟨hk,c,hc,a⟩
 .exact wpAny_Name (wgR I.ok.kind hk hn d fin) hd
 .rcases hk with hk |hk
  .exact wpAny_Name (whd I.ok.kind hk hc a fin) hd
  .exact wpAny_Name (wpAny_loadName_free I.ok.kind hk hc a fin g) hd
theorem dN{b j pos}:PE X (.Constant (.bool b) j pos) (tC (.bl b)):={λ_ _ _ H _ I h=>Constant_bool {.bl b,H,I,rfl,h}}
theorem eO{j pos}:PE X (.Constant .none j pos) (tC .non):={λ_ _ _ H _ I h=>Constant_none {.non,H,I,rfl,h}}
def Ot:TS:=λ_ _ _=>False
structure Ik(K:Á)(C:Addr)(m:Str)(f:Addr):Prop where
 at_:Ā K (.ref C) m=ρ (ρ (.ref f))
 fn:Φ K (.ref f)=true
 kp:ź K (.ref f)=true
theorem vi:∀{kvs:List (Key×V)} {ws:List (Value×Value)},VV (kvs.map λg=>(kV g.1,g.2)) ws->∃rs,Carries (bA P w) ws rs/\KV kvs rs
 |[],_,r=>by rw[Β]at r;cases r;exact{[],Ć,.nil}
 |p::kvs,_,r=>by
  rw[Ó]at r
  cases r with
  |@cons a b as bs h t=>
   let{rs,c,q}:=vi (P:=P) (w:=w) t
   let{b1,d}:=b
   exact{(p.1,d)::rs,{sR h.1,rfl,c},.cons ⟨rfl,h.2⟩ q}
theorem pv(i:Nat)(j:X.N[i]?=ρ x:=by rfl)(l:Qm X.env.scope x:=by first |exact ğ rfl |exact Or.inr (ğ rfl) |exact Or.inr (Or.inr rfl))(hd:(x==("__debug__":Str))=false:=by decide)
 (g:(x==("__classdict__":Str))=false:=by decide):PE X (.Name x pos) (Lq i):=Ij j l hd g
theorem sS:∀{us:List Value},Vals (bs.map V.bl) us->LSm.BoolsAre us bs:=by
 induction bs with
 |nil=>intro us r;rw[Β]at r;cases r;exact .nil
 |cons n ns a=>
  intro us r;rw[Ó]at r
  cases r with
  |cons b c=>
   cases b;exact .cons n (a c)
noncomputable abbrev CA:=(St->XK)->TS
end
section
variable{a:Addr}
theorem Paired.Ou{α β:Type}{F G:α->β->Prop}:∀{g:List α} {j:List β},Paired F g j->(∀a b,F a b->G a b)->Paired G g j
 |_,_,.nil,_=>.nil
 |_,_,.cons r t,f=>.cons (f _ _ r) (Paired.Ou t f)
def SP(X:Cx)(pins:List (Addr×Obj))(D:Ends)(f:Flow)(s':Shared):Prop:=
 match f with
 |.next=>∃σ' H',Inv X pins σ' H' s'/\D.nx σ' H'
 |.brk=>∃σ' H',Inv X pins σ' H' s'/\D.bk σ' H'
 |.cont=>∃σ' H',Inv X pins σ' H' s'/\D.ct σ' H'
 |.ret u=>∃v σ' H',Inv X pins σ' H' s'/\RelV v u/\D.rt v H'
abbrev PS(X:Cx)(st:Stmt)(t:TS):Prop:=Bx (∀(pins:List (Addr×Obj)) (s:Shared) (σ:St) (H:Hp) (D:Ends),Inv X pins σ H s->t D σ H->wpAny (model X.prog X.w) X.A (exec st X.5) (SP X pins D) X.xe s)
abbrev xG(X:Cx)(st:List Stmt)(t:TS):Prop:=Bx (∀(pins:List (Addr×Obj)) (s:Shared) (σ:St) (H:Hp) (D:Ends),Inv X pins σ H s->t D σ H->wpAny (model X.prog X.w) X.A (execs st X.5) (SP X pins D) X.xe s)
theorem Cx.Ok.kl{X:Cx}(ok:X.Ok)(E:Value->Shared->Prop):(X.kl E).Ok:=
 ⟨ok.mod,ok.kind,ok.glob,ok.blt,ok.above,ok.inj,ok.has,ok.Oa,ok.hd,ok.frames,ok.Qn,ok.TL,ok.bs,ok.HL,ok.Ck,ok.Fv,ok.pE,ok.Lp⟩
theorem Cx.Ok.eP{X:Cx}{E:Value->Shared->Prop}(ok:(X.kl E).Ok):X.Ok:=
 ⟨ok.mod,ok.kind,ok.glob,ok.blt,ok.above,ok.inj,ok.has,ok.Oa,ok.hd,ok.frames,ok.Qn,ok.TL,ok.bs,ok.HL,ok.Ck,ok.Fv,ok.pE,ok.Lp⟩
def Nv:TS:=λD σ H=>D.nx σ H
def LJ(te:TE)(g:TG):TS:=λD σ H=>te σ H λx H1=>g x σ H1 D.nx
inductive V3(i:Nat)(te:TE)(ti:QQ)(D:Ends)(σ:St)(H:Hp):Prop
 |mk (x) (_:σ[i]?=ρ (ρ x)) (_:te σ H λy H1=>ti x y H1 λz H2=>D.nx (σ.set i (ρ z)) H2)
def Ov(c:TT)(tb:TS):TS:=λD σ H=>∃W:Nat->St->Hp->Prop,(∃m,W m σ H)/\∀m σ H,W m σ H ->
 c σ H λb H1=>if b=true then ∃N:St->Hp->Prop,(∀σ' H',N σ' H'->∃m',m'<m/\W m' σ' H')/\tb (D.lp N) σ H1 else D.nx σ H1
def Rt(wi:TI)(g:TG)(tb:TS):TS:=λD σ H=>wi σ H λJ H1=>∃W:Nat->Nat->St->Hp->Prop,(∃m,W 0 m σ H1)/\∀i m σ H,W i m σ H ->
 (J.stop i H/\D.nx σ H)\/(J.go i H/\∃N:St->Hp->Prop,(∀σ' H',N σ' H'->∃m',m'<m/\W (i+1) m' σ' H')/\∀x H',J.uY i H x H'->g x σ H' λσ2 H2=>tb (D.lp N) σ2 H2)
theorem dE{lo:Int}{n:Nat}{g:TG}{C:TS}{D:Ends}{σ:St}{H:Hp}(Pv:Nat->St->Hp->Prop)(h0:Pv 0 σ H)
 (hs:∀i σ H,i<n->Pv i σ H->g (.int (lo+i)) σ H λj t=>C (D.lp (Pv (i+1))) j t) (hd:∀σ H,Pv n σ H->D.nx σ H) :
 ∃W:Nat->Nat->St->Hp->Prop,(∃m,W 0 m σ H)/\∀i m σ H,W i m σ H ->
  ((Nh lo n).stop i H/\D.nx σ H)\/((Nh lo n).go i H/\∃N:St->Hp->Prop,(∀l r,N l r->∃I,I<m/\W (i+1) I l r)/\∀x r,(Nh lo n).uY i H x r->g x σ r λj t=>C (D.lp N) j t):=by
 refine{λi m σ H=>m=n-i/\i<=n/\Pv i σ H,{n,by simp,Û _,h0},?_};rintro i m σ H ⟨rfl,hi,p⟩
 by_cases a:i<n
 .refine .inr {a,Pv (i+1),λl r b=>{n-(i+1),(),rfl,a,b},λx r y=>?_}
  let{e,y}:=y
  subst e y;exact hs i σ _ a p
 .have e:i=n:=();subst e;exact .inl {Ä _,hd σ H p}
structure CC(P:Ê)(w:World)(K:Á)(mg:Str->Option Value)(base:Heap)(A:Around)(outer:List Env)(s:Shared)(H:Hp):Prop where
 frames:A.frames=ρ outer
 mod:Mod K mg base
 bs:∀b o,base.get? b=ρ o->s.heap.get? b=ρ o/\H b=τ
 HL:base.7<=s.8
 pE:s.heap.FunFrames base outer
 Lp:∀b∈rA outer,H b=τ
 b6:ku P w H s.heap
 bare:AllBare s.gens
def Passes(CX:Fx)(X:Cx)(E:XK):Prop:=∀(pins:List (Addr×Obj)) (σ:St) (H:Hp) (s:Shared) (e:Value) (s':Shared),Inv X pins σ H s->CX X.stack H s E e s'->X.xe e s'
theorem KT.keeps(r:KT H kvs xs)(g:∀b ys,H b=ρ (.tup ys)->j b=ρ (.tup ys)):KT j kvs xs:=
 Paired.Ou r λ_ _ z=>{z.1,g _ _ z.2.1,z.2.2}
theorem CD(z:kvs.9<=sizeLine)(hd:(a==Ė)=false)(rel:KV kvs vs)(dd:h'.DictOf (bA P w) a vs) :
 bP P w g h' a (.dK kvs):=⟨z,hd,vs,rel,dd⟩
theorem pJ{X:Cx}:Passes d4 X E0:=λ_ _ _ _ _ _ _ h=>h.elim
theorem mn{J:It}{Ok:Hp->Prop}{xs:List V}{g:TG}{I:TS}{D:Ends}{σ:St}{H:Hp}(t:kq J Ok xs)(Pv:Nat->St->Hp->Prop)(h0:Pv 0 σ H)(U:∀i σ H,i<=xs.9->Pv i σ H->Ok H)
 (hs:∀i x σ H,xs[i]?=ρ x->Pv i σ H->g x σ H λl C=>I (D.lp (Pv (i+1))) l C) (hd:∀σ H,Pv xs.length σ H->D.nx σ H) :
 ∃W:Nat->Nat->St->Hp->Prop,(∃m,W 0 m σ H)/\∀i m σ H,W i m σ H ->
  (J.stop i H/\D.nx σ H)\/(J.go i H/\∃N:St->Hp->Prop,(∀r j,N r j->∃T,T<m/\W (i+1) T r j)/\∀x j,J.uY i H x j->g x σ j λl C=>I (D.lp N) l C):=by
 refine{λi m σ H=>m=xs.9-i/\i<=xs.9/\Pv i σ H,{xs.9,by simp,Û _,h0},?_};rintro i m σ H ⟨rfl,hi,p⟩;have q:=U i σ H hi p
 by_cases a:i<xs.9
 .refine .inr {t.go i H q a,Pv (i+1),λr j b=>{xs.9-(i+1),(),rfl,a,b},λx j y=>?_}
  let{e,c}:=t.uY i H x j q a y
  subst e;exact hs i x σ _ c p
 .have e:i=xs.9:=();subst e;exact .inl {t.stop H q,hd σ H p}
noncomputable def bH(X:Cx)(scope:Ă)(N:List Str)(cl:List (Str×Addr))(L:Addr)(s:Shared)(H:Hp)(ex:List Addr)(pn:List (Addr×Obj)):Cx where
 prog:=X.prog
 w:=X.w
 K:=X.K
 mg:=X.mg
 base:=X.base
 A:=X.A
 N:=N
 s₀:=s
 H₀:=H
 env:=compEnvC scope cl L X.5
 outer:=X.stack
 stack:=X.stack
 ex:=ex
 fn:=λ_=>false
 calm:=X.calm
 pn:=pn
 xe:=λ_ _=>False
abbrev PS1(X:Cx)(st:Stmt)(t:TS):Prop:=Bx (∀(pins:List (Addr×Obj)) (s:Shared) (σ:St) (H:Hp) (D:Ends),Inv X pins σ H s->1<=s.toks->t D σ H->wpAny (model X.prog X.w) X.A (exec st X.5) (SP X pins D) X.xe s)
abbrev zac(X:Cx)(st:List Stmt)(t:TS):Prop:=Bx (∀(pins:List (Addr×Obj)) (s:Shared) (σ:St) (H:Hp) (D:Ends),Inv X pins σ H s->1<=s.toks->t D σ H->wpAny (model X.prog X.w) X.A (execs st X.5) (SP X pins D) X.xe s)
def LK(C:Addr)(E:XK)(t:TA):TS:=λ_ σ H=>t σ H λvs H1=>vs.9=1/\E (.ref C) τ H1
def V4(X:Cx)(pins:List (Addr×Obj))(σ:St)(E:XK)(ev:Value)(s':Shared):Prop:=∃H0 s0,Inv X pins σ H0 s0/\uM X.prog X.w X.stack H0 s0 E ev s'
def XA(X:Cx)(pins:List (Addr×Obj))(E:St->XK)(ev:Value)(s':Shared):Prop:=∃σ,V4 X pins σ (E σ) ev s'
abbrev TX(X:Cx)(e:Expr)(t:Np):Prop:=Bx (∀(pins:List (Addr×Obj)) (s:Shared) (σ:St) (H:Hp) (Q:VK) (E:XK),Inv X pins σ H s->t E σ H Q->wpAny (model X.prog X.w) X.A (eval e X.5) (EP X pins σ Q) (V4 X pins σ E) s)
abbrev Ru(X:Cx)(st:Stmt)(t:CA):Prop:=Bx (∀(pins:List (Addr×Obj)) (s:Shared) (σ:St) (H:Hp) (D:Ends) (E:St->XK),Inv X pins σ H s->t E D σ H->wpAny (model X.prog X.w) X.A (exec st X.5) (SP X pins D) (XA X pins E) s)
abbrev AO(X:Cx)(st:List Stmt)(t:CA):Prop:=Bx (∀(pins:List (Addr×Obj)) (s:Shared) (σ:St) (H:Hp) (D:Ends) (E:St->XK),Inv X pins σ H s->t E D σ H->wpAny (model X.prog X.w) X.A (execs st X.5) (SP X pins D) (XA X pins E) s)
theorem CF{X:Cx}:Passes (uM P w) X E0:=λ_ _ _ _ _ _ _ h=>by
 let{_,_,_,_,_,_,_,_,_,_,a}:=h
 exact a.elim
theorem vj{X:Cx}:AO X [] (λ_=>Nv):={λ_ _ σ H _ _ I h=>ĵ ⟨σ,H,I,h⟩}
end
section
variable{X:Cx}{e:Expr}{es:List Expr}{te:TE}{t:TA}
theorem g8{E:Value->Shared->Prop}{Q:Value->Shared->Prop}(I:Inv X g σ H s)(j:Gl X x)(l:X.mg x=ρ u)(h:Q u s)
 (hd:(x==("__debug__":Str))=false:=by decide):wpAny (model X.prog X.w) X.A (eval (.Name x pos) X.5) Q E s:=
 wfm I.ok.kind j (Calls.loadGlobal_global (by rw[I.ok.glob];exact I.mod.glob.keeps I.bk) l h) hd
theorem gN{E:Value->Shared->Prop}{Q:Value->Shared->Prop}(I:Inv X g σ H s)(j:Gl X x)(l:X.mg x=τ)(p:ð x=ρ u)(h:Q u s)
 (hn:x≠"__name__":=by decide) (hd:(x==("__debug__":Str))=false:=by decide):wpAny (model X.prog X.w) X.A (eval (.Name x pos) X.5) Q E s:=by
 let{c,a,b}:=I.mod.blt
 exact wfm I.ok.kind j (Calls.loadGlobal_builtin (by rw[I.ok.glob];exact I.mod.glob.keeps I.bk) l (by rw[I.ok.blt];exact a.keeps I.bk) ((b x hn).trans p) h) hd
theorem cA(g:Gl X x)(j:X.mg x=ρ u)(r:RelV v u)(hd:(x==("__debug__":Str))=false:=by decide):PE X (.Name x pos) (tC v):=
 {λ_ _ _ H _ I h=>g8 I g j ⟨v,H,I,r,h⟩ hd}
theorem gZ(g:Gl X x)(j:X.mg x=τ)(l:ð x=ρ u)(r:RelV v u)(hn:x≠"__name__":=by decide)(hd:(x==("__debug__":Str))=false:=by decide):PE X (.Name x pos) (tC v):=
 {λ_ _ _ H _ I h=>gN I g j l ⟨v,H,I,r,h⟩ hn hd}
theorem aJ:xG X [] Nv:={λ_ _ σ H _ I h=>ĵ ⟨σ,H,I,h⟩}
def Rv(te:TE):TS:=λD σ H=>te σ H λ_ H1=>D.nx σ H1
def V5(te:TE):TS:=λD σ H=>te σ H D.rt
theorem eY:xG X g Ot:={λ_ _ _ _ _ _ h=>h.elim}
theorem Inv.pinned(I:Inv X g σ H s)(l:∀b∈j,uZ X g H b)(r:∀b∈j,∃o,s.heap.get? b=ρ o/\∀v,o.data≠.cell v):Inv X (g++va j s.heap) σ H s:=
 I.Et λp f=>(ä.mp f).elim (λz=>I.pin p (ÿ _ z)) λz=>by
  let{a,e}:=Fw z
  let{h,f1,f2,_}:=l p.1 a
  let{o,c,d}:=r p.1 a
  rw[e]at c;cases c;exact⟨e,h,f1,f2,d⟩
theorem Inv.pK(I:Inv X (g++pl) σ H s):Inv X g σ H s:=I.Et λp a=>I.pin p (ÿ _ (ď _ a))
def V6(K:Á)(ta tv:TE)(f:Str):TS:=λD σ H=>tv σ H λy H1=>ta σ H1 λx H2=>∃a C dx fs,x=.ref a/\H2 a=ρ (.ins C dx fs)/\AA K C/\bY K C f/\fs.9<1000 /\
 D.nx σ (upd H2 a (.ins C dx (cT f y fs)))
theorem a7(ha:PE X e te)(g:PA X es t)(hs:starEach (e::es) X.5=(false,eval e X.5)::starEach es X.5:=by rfl):PA X (e::es) (sQ te t):=by
 refine{?_};intro pos a s σ H Q I h;rw[hs];show wpAny _ _ (spliced ((false,eval e X.5)::backTo pos (starEach es X.5))) _ _ s;refine wdn (bQ (ha a s σ H _ I h) λu b ⟨x,c,d,f,i⟩=>?_);exact bQ (g pos a b σ c _ d i) λo p ⟨j,k,l,m,n⟩=>{x::j,k,l,.cons f m,n}
theorem b9(h:PE X e te):PO X (ρ e) (QZ te):=by
 refine{?_};intro a s σ H Q I hw;rw[evalPart_some];refine bQ (h a s σ H _ I hw) λu g ⟨x,b,c,d,f⟩=>?_
 let{i,rfl,q}:=f
 let{t,rfl}:=d
 exact{ρ i,b,c,.int i t,q}
theorem aH(ha:PE X e te)(hs:starEach [e] X.5=(false,eval e X.5)::starEach [] X.5:=by rfl):PA X [e] (sQ te zu):=a7 ha fG hs
end
section
variable{P:Ê}{w:World}{H H':Hp}{h h':Heap}{a:Addr}{o:HO}
theorem bP.lt(x:bP P w H h a o):a<h.7:=by
 cases o with
 |lst c=>let{_,_,_,_,e}:=x;exact Ì e
 |tup c=>let{_,_,_,p}:=x;exact p.lt
 |dK b=>let{_,_,_,_,o,_,_,e,_}:=x;exact Ì e
 |dT b=>let{_,_,_,_,o,_,_,e,_}:=x;exact Ì e
 |set S n=>let{o,_,_,_,e,_}:=x;exact Ì e
 |ins C d fs=>let{_,_,_,e,_}:=x;exact Ì e
 |own y=>let{_,e}:=x;exact Ì e
 |xd fs=>let{_,{_,_,_,e,_},_}:=x;exact Ì e
 |rng lo hi=>let{_,_,_,e}:=x;exact Ì e
 |frz ob u=>let{e,_}:=x;exact Ì e
 |tbl ps=>exact Ì (show h.get? a=ρ _ from x)
 |met f y=>exact Ì (show h.get? a=ρ _ from x)
 |ext φ=>let{_,{_,e},_}:=x;exact Ì e
theorem bP.ur(x:bP P w H h a o)(k:∀b u,(b=a\/H b=ρ (.own a))->h.get? b=ρ u->h'.get? b=ρ u)
 (I:∀b,H b=ρ (.own a)->H' b=ρ (.own a)) (J:∀b xs,H b=ρ (.tup xs)->H' b=ρ (.tup xs)):bP P w H' h' a o:=by
 induction o with
 |lst xs=>let{z,j,n,r,e}:=x;exact{z,j,n,r,k _ _ (.inl rfl) e}
 |tup xs=>let{z,j,r,ob,e,c}:=x;exact{z,j,r,ob,k _ _ (.inl rfl) e,c}
 |dK l=>let{z,y,A,r,ob,g,i,e,c}:=x;exact{z,y,A,r,ob,g,i,k _ _ (.inl rfl) e,c}
 |dT l=>
  let{z,y,xs,r,ob,g,i,e,c}:=x
  exact{z,y,xs,Paired.Ou r λp q z=>{z.1,J _ _ z.2.1,z.2.2},ob,g,i,k _ _ (.inl rfl) e,c}
 |set S n=>let{ob,g,i,t,e,c}:=x;exact{ob,g,i,t,k _ _ (.inl rfl) e,c}
 |ins C E fs=>
  let{d,z,ne,e,m,{s,g,i,B,c},r}:=x
  exact{I _ d,z,ne,k _ _ (.inl rfl) e,m,{s,g,i,k _ _ (.inr d) B,c},r}
 |own y=>let{ob,e}:=x;exact{ob,k _ _ (.inl rfl) e}
 |xd fs=>let{m,{s,g,i,e,c},r}:=x;exact{m,{s,g,i,k _ _ (.inl rfl) e,c},r}
 |rng lo hi=>let{t,u,v,e}:=x;exact{t,u,v,k _ _ (.inl rfl) e}
 |frz ob u D=>let{e,q}:=x;exact{k _ _ (.inl rfl) e,D q}
 |tbl ps=>
  have e:h.get? a=ρ {cls:=.none,data:=.fields ps}:=x;show h'.get? a=ρ {cls:=.none,data:=.fields ps};exact k a _ (.inl rfl) e
 |met f y=>
  have e:h.get? a=ρ (wft (.ref f) (.ref y)):=x;show h'.get? a=ρ (wft (.ref f) (.ref y));exact k a _ (.inl rfl) e
 |ext φ=>let{p,{o,e},st}:=x;exact⟨st _ _ p λo q=>k _ _ (.inl rfl) q,⟨o,k _ _ (.inl rfl) e⟩,st⟩
theorem ku.lt(x:ku P w H h)(e:H a=ρ o):a<h.7:=(x a o e).lt
theorem ku.fresh(x:ku P w H h)(e:h.7<=a):H a=τ:=by
 cases q:H a with
 |none=>rfl
 |some u=>exact absurd (â (x.lt q) e) (ă _)
theorem ku.kept(x:ku P w H h)(k:∀b u,h.get? b=ρ u->h'.get? b=ρ u):ku P w H h':=λa o e=>
 (x a o e).ur (λb u _ q=>k b u q) (λ_ q=>q) λ_ _ q=>q
theorem ku.laid(x:ku P w H h)(k:∀b u,h.get? b=ρ u->h'.get? b=ρ u)(g:h.7<=a)(new:bP P w (upd H a o) h' a o):ku P w (upd H a o) h':=λb u e=>by
 have hn:=x.fresh g
 by_cases d:b=a
 .grind [a6]
 .rw[ae d]at e;exact(x b u e).ur (λc v _ q=>k c v q) (λc q=>by rw[ae (af q hn)];exact q) λc f q=>by rw[ae (af q hn)];exact q
theorem Nw(ok:ku P w H h)(e:Rd H a u):bP P w H h a u:=e.ok ok
theorem lD(ok:ku P w H h)(e:Rd H a (.dK kvs)):kvs.9<=sizeLine/\(a==Ė)=false/\∃vs,KV kvs vs/\h.DictOf (bA P w) a vs:=
 show bP P w H h a (.dK kvs) from Nw ok e
theorem sT(ok:ku P w H h)(e:H a=ρ (.dK kvs)):kvs.9<=sizeLine/\(a==Ė)=false/\∃vs,KV kvs vs/\h.DictOf (bA P w) a vs:=lD ok (.inl e)
theorem rH(ok:ku P w H h)(e:H a=ρ (.tup (g.map kV))):(Ψ (bA P w)).is h g a:=by
 let{_,b,r,o,c,d,n,f}:=(show bP P w H h a (.tup (g.map kV)) from ok a _ e)
 exact{o,b.6,n,c,d,f,by simpa using ym r}
theorem vk(ok:ku P w H h)(e:Rd H a (.dT kvs)):kvs.9<=sizeLine/\(a==Ė)=false /\
 ∃xs,KT H kvs xs/\h.DictOfH (Ψ (bA P w)) a xs:=by
 let{z,y,xs,r,o,b,c,d,f,g,i,j}:=(show bP P w H h a (.dT kvs) from Nw ok e)
 refine{z,y,xs,r,o,b,c,d,f,g,i,λx k=>?_,j}
 have all:∀{l:List (List Key×V)} {m:List (List Key×Addr×Value)},KT H l m->∀x∈m,(Ψ (bA P w)).is h x.1 x.2.1:=by
  intro l m q
  induction q with
  |nil=>grind
  |@cons p q ps n s t u=>
   grind [rH]
 exact all r x k
theorem Rw(ok:ku P w H h)(e:H a=ρ (.dT kvs)):kvs.9<=sizeLine/\(a==Ė)=false /\
 ∃xs,KT H kvs xs/\h.DictOfH (Ψ (bA P w)) a xs:=vk ok (.inl e)
end
section
variable{X:Cx}{pins:List (Addr×Obj)}{σ:St}{H:Hp}{s:Shared}{a:Addr}{xs ys:List V}
theorem aO.of{K:Á}(h:H a=ρ (.lst xs)):aO K H a xs:=.inl (.inl h)
theorem gM.of{K:Á}(h:H a=ρ (.tup xs)):gM K H a xs:=.inl (.inl h)
theorem Inv.list(I:Inv X pins σ H s)(h:aO X.K H a xs):∃g:List Value,Vals xs g/\PlainL s.heap a g.6/\xs.9<=sizeLine:=by
 rcases h with h |⟨o,g,n,hk,hc,hd,b,c,r⟩
 .let{z,g,n,r,e}:=h.ok I.b6
  exact{g,r,{_,n,e,rfl,rfl,rfl},z}
 .refine{g.toList,r,{o,n,I.gJ a o hk,hc,hd,by simpa using b},?_};have e:=r.9;simp only[Ŷ]at e
  lia
theorem Inv.tuple(I:Inv X pins σ H s)(h:gM X.K H a xs):∃g:List Value,Vals xs g/\IsTup s.heap a g.6/\xs.9<=sizeLine:=by
 rcases h with h |⟨o,g,n,hk,hc,b,c,r⟩
 .let{z,g,r,p}:=h.ok I.b6
  exact⟨g,r,p,z⟩
 .refine{g.toList,r,{o,I.gJ a o hk,hc,n,by simpa using b},?_};have e:=r.9;simp only[Ŷ]at e;omega
theorem Inv.pL(I:Inv X pins σ H s)(h:aO X.K H a xs)(h':aO X.K H a ys):xs=ys:=by
 let{c,r,{o,n,e,_,_,d},_}:=I.list h
 let{b,i,{j,k,f,_,_,g},_}:=I.list h'
 rw[e]at f;cases f;rw[d]at g;injection g with l _
 have:c=b:=by grind
 subst this;exact r.inj i
theorem bM:Qr X (Ra X.K):=by
 intro value slice a s σ H x y v u Q I k l h f
 let{p,D,i,z,rfl,rfl,m,n,q}:=h
 cases k
 let{t,rfl}:=l
 let{c,r,pl,E}:=I.list m
 let{j,b,o,G,A,B}:=zx n
 let{w,g,d}:=r.get o
 have hl:=r.9;have hn:=oN;have fin:EP X a σ Q w s:=⟨z,H,I,d,q⟩
 by_cases h0:0<=i
 .have e:i.toNat=j:=by
   rw[whS h0 B]at b;exact Ò b
  exact item_listR pl.isList h0 () (by rw[e];simpa using g) fin f
 .have e:(i+(c.toArray.size:Int)).toNat=j:=by
   rw[whs () A]at b;rw[å,<-hl];exact Ò b
  exact wgn (x:=w) pl.isList.typeIs slot_list_getitem.lookup
   (wpAny_getItem_list_neg (Q:=λr C=>r=w/\EP X a σ Q r C) pl.isList () (by rw[å]<;>lia) () (by rw[e];simpa using g) ⟨rfl,fin⟩) f
theorem g9:Qr X (Rb X.K):=by
 intro value slice a s σ H x y v u Q I c d h e
 let{p,A,i,z,rfl,rfl,f,g,q}:=h
 cases c
 let{t,rfl}:=d
 let{k,r,pl,B}:=I.tuple f
 let{j,l,m,C,D,E}:=zx g
 let{w,n,b}:=r.get m
 have hl:=r.9;have hn:=oN;have fin:EP X a σ Q w s:=⟨z,H,I,b,q⟩
 exact wgn (x:=w) pl.typeIs slot_tuple_getitem.lookup
  (getItem_tuple (j:=j) (Q:=λr o=>r=w/\EP X a σ Q r o) pl () () (by rw[å,<-hl];exact l) (by simpa using n) ⟨rfl,fin⟩) e
theorem CG(g:List Value)(n j:Nat)(u:Value):ņ (·.setIfInBounds j u) {cls:=.type "list",data:=.seq g.toArray n}={cls:=.type "list",data:=.seq (g.set j u).toArray n}:=by
 simp[ņ]
theorem Inv.fresh(I:Inv X pins σ H s):H s.8=τ:=I.b6.fresh (Ä _)
end
section
variable{X:Cx}{t u:TS}{pos:Pos}
def Ow(t u:TS):TS:=λD σ H=>t (D.L7 (u D)) σ H
def V7(c:TT)(t u:TS):TS:=λD σ H=>c σ H λb H1=>if b=true then t D σ H1 else u D σ H1
theorem b7{c:Expr}{a b:List Stmt}{g:TT}(hc:PT X c g)(ha:xG X a t)(l:xG X b u):PS X (.If c a b pos) (V7 g t u):=by
 refine{?_};intro e s σ H D I h;refine wpAny_If (bQ (hc e s σ H _ I h) λd f ⟨i,j,k⟩=>?_)
 cases d with
 |true=>exact ha e f σ i D j k
 |false=>exact l e f σ i D j k
theorem vm{j e:Expr}{l:TE}{g:TG}(he:PE X e l)(p:PG X j g)(hs:swapsWithSole [j] e pos.line X.5=pure false:=by rfl)(hw:swappedStores [j] e X.5=pure τ:=by rfl)
 (r:(Ţ [j] X.5).map (·.2)=[assign j X.5]:=by rfl):PS X (.Assign [j] e pos) (LJ l g):=by
 refine{?_};intro a s σ H D I h;refine wpAny_Assign_stores (bQ (he a s σ H _ I h) λv b ⟨x,c,d,f,i⟩=>?_) hs hw;rw[r];exact bQ (p a b σ c x v _ d f i) λ_ k q=>q
theorem Inv.lst(I:Inv X j σ H s)(h:H p=ρ (.lst xs)) :
 ∃(g:List Value) (n:Nat),Vals xs g/\s.heap.get? p=ρ {cls:=.type "list",data:=.seq g.toArray n}/\xs.9<=sizeLine:=by
 let{z,g,n,r,e}:=I.b6 p _ h
 exact⟨g,n,r,e,z⟩
inductive Rx(o i v:V)(H:Hp)(Q:Hp->Prop):Prop
 |mk (p xs k j) (_:o=.ref p) (_:i=.int k) (_:H p=ρ (.lst xs)) (_:Fy xs.length k=ρ j) (_:Q (upd H p (.lst (xs.set j v))))
def V8(K:Á)(T:String)(x:V)(H:Hp):Prop:=match x with
 |.str _=>T="str"
 |.int _=>T="int"
 |.ref p=>(T="list"/\∃xs,aO K H p xs)\/(T="tuple"/\∃o,K.lookup p=ρ o/\o.cls=.type "tuple"/\o.dict=τ) \/
   (T="dict"/\((∃kvs,H p=ρ (.dK kvs))\/∃kvs,H p=ρ (.dT kvs)))\/(T="set"/\∃S n,H p=ρ (.set S n))
 |_=>False
def Ry(K:Á)(T:String)(r:V->List V->Hp->VK->Prop)(to:TE):TE:=λσ H Q=>to σ H λx H1=>V8 K T x H1/\r x [] H1 Q
inductive LL(x:V)(vs:List V)(H:Hp)(Q:VK):Prop
 |mk (l xs y) (_:x=.ref l) (_:vs=[y]) (_:H l=ρ (.lst xs)) (_:xs.9<sizeLine) (_:Q .non (upd H l (.lst (xs++[y]))))
inductive V9(x:V)(vs:List V)(H:Hp)(Q:VK):Prop
 |mk (l xs y) (_:x=.ref l) (_:vs=[]) (_:H l=ρ (.lst xs)) (_:xs[xs.9-1]?=ρ y) (_:Q y (upd H l (.lst xs.dropLast)))
inductive Va(x y:V)(H:Hp)(Q:VK):Prop
 |mk (l b xs zs) (_:x=.ref l) (_:y=.ref b) (_:H l=ρ (.lst xs)) (_:H b=ρ (.lst zs)) (_:xs.9+zs.9<=sizeLine) (_:∀p,H p=τ->Q (.ref p) (upd H p (.lst (xs++zs))))
inductive Vb(x y:V)(H:Hp)(Q:VK):Prop
 |mk (l k xs) (_:x=.ref l) (_:y=.int k) (_:H l=ρ (.lst xs)) (_:-(2^63)<=k) (_:k<2^63) (_:xs.9*k.toNat<=sizeLine) (_:∀p,H p=τ->Q (.ref p) (upd H p (.lst (Ý k.toNat xs).flatten)))
def Only(H:Hp):Prop:=∀b,H b=τ\/∃o xs,H b=ρ (.frz o (.lst xs))
def nZ(J:It)(l:Addr)(σf:St)(tt:TT)(te:TE)(H:Hp)(Q:Hp->Prop):Prop:=
 ∃W:Nat->Nat->List V->Hp->Prop,(∃m,W 0 m [] (upd H l (.lst [])))/\∀i m ys H2,W i m ys H2->H2 l=ρ (.lst ys) /\
  ((J.stop i H2/\Q H2)\/(J.go i H2/\ys.9<sizeLine/\∀x H3,J.uY i H2 x H3->tt (ρ x::σf) H3 λb H4=>
    if b=true then te (ρ x::σf) H4 λy H5=>H5 l=ρ (.lst ys)/\∃m',m'<m/\W (i+1) m' (ys++[y]) (upd H5 l (.lst (ys++[y])))
    else ∃m',m'<m/\W (i+1) m' ys H4))
def yu(g:TG)(n:Nat)(J:It)(l:Addr)(σf:St)(tt:TT)(te:TE)(H:Hp)(Q:Hp->Prop):Prop:=
 ∃W:Nat->Nat->List V->Hp->Prop,(∃m,W 0 m [] (upd H l (.lst [])))/\∀i m ys H2,W i m ys H2->H2 l=ρ (.lst ys) /\
  ((J.stop i H2/\Q H2)\/(J.go i H2/\ys.9<sizeLine/\∀x H3 vs,vs.9=n->J.uY i H2 x H3->g x (vs++σf) H3 λσ' H'=>(∃Rz,Rz.length=n/\σ'=Rz++σf)/\tt σ' H' λb H4=>
    if b=true then te σ' H4 λy H5=>H5 l=ρ (.lst ys)/\∃m',m'<m/\W (i+1) m' (ys++[y]) (upd H5 l (.lst (ys++[y])))
    else ∃m',m'<m/\W (i+1) m' ys H4))
def RA(wi:TI)(ix:List Nat)(tt:TT)(te:TE):TE:=λσ H Q=>wi σ H λJ H1=>∀l,H1 l=τ->nZ J l (pick σ ix) tt te H1 (λH2=>Q (.ref l) H2)
def Ox(wi:TI)(ix:List Nat)(tt:TT)(te:TE)(i:Nat):TS:=λD σ H=>wi σ H λJ H1=>∀l,H1 l=τ->nZ J l (pick σ ix) tt te H1 (λH2=>D.nx (σ.set i (ρ (.ref l))) H2)
inductive Vc(t u:TS)(D:Ends)(σ:St)(H:Hp):Prop
 |mk (Z) (_:t (D.L7 Z) σ H) (_:∀σ' H',Z σ' H'->u D σ' H')
set_option genInjectivity true in
inductive kj where
 |at (v:V)
 |tup (ds:List kj)
 |lst (ds:List kj)
mutual
def bN(K:Á)(H:Hp):kj->V->Prop
 |.at x,v=>v=x/\Oh x=true
 |.tup ds,v=>∃a xs,v=.ref a/\H a=ρ (.tup xs)/\bz K H ds xs
 |.lst ds,v=>∃a xs,v=.ref a/\Rd H a (.lst xs)/\bz K H ds xs
def bz(K:Á)(H:Hp):List kj->List V->Prop
 |[],xs=>xs=[]
 |d::ds,xs=>∃v vs,xs=v::vs/\bN K H d v/\bz K H ds vs
end
noncomputable def Nx(q:Str×Str):kj:=.tup [.at (.str q.1),.at (.str q.2)]
theorem bz.rJ{K:Á}{H:Hp}:∀(g:List kj) (ys:List V),g.9=ys.9->(∀(i:Nat) (d:kj) (y:V),g[i]?=ρ d->ys[i]?=ρ y->bN K H d y)->bz K H g ys
 |[],[],_,_=>rfl
 |[],_::_,h,_=>by simp at h
 |_::_,[],h,_=>by simp at h
 |d::g,y::ys,h,r=>{y,ys,rfl,r 0 d y rfl rfl,bz.rJ g ys (by simpa using h) λi a b c e=>r (i+1) a b c e}
theorem bz.get{K:Á}{H:Hp}:∀{g:List kj} {xs:List V},bz K H g xs->∀(i:Nat) (x:V),xs[i]?=ρ x->∃d,g[i]?=ρ d/\bN K H d x
 |[],_,h,i,x,e=>by
  rw[show _=[] from h]at e;simp at e
 |d::g,_,h,i,x,e=>by
  let{v,b,rfl,a,hl}:=h
  cases i with
  |zero=>cases e;exact⟨d,rfl,a⟩
  |succ i=>exact bz.get hl i x e
theorem iF{K:Á}{H:Hp}{d:kj}{v:V}:∀{g:List kj} {xs:List V},bz K H g xs->bN K H d v->bz K H (g++[d]) (xs++[v])
 |[],xs,h,r=>by
  have e:xs=[]:=h;subst e;exact{v,[],rfl,r,rfl}
 |c::g,_,h,r=>by
  let{v0,a,rfl,b,hl}:=h
  exact{v0,a++[v],rfl,b,iF hl r}
theorem bz.set{K:Á}{H:Hp}{d:kj}{v:V}:∀{g:List kj} {xs:List V},bz K H g xs->∀i:Nat,bN K H d v->bz K H (g.set i d) (xs.set i v)
 |[],xs,h,i,r=>by
  have e:xs=[]:=h;subst e;exact h
 |c::g,_,h,0,r=>by
  let{v0,a,rfl,b,hl}:=h
  exact⟨v,a,rfl,r,hl⟩
 |c::g,_,h,i+1,r=>by
  let{v0,a,rfl,b,hl}:=h
  exact{v0,a.set i v,rfl,b,bz.set hl i r}
def RB(C1 C2:Addr)(tb:CA)(i:Nat):TS:=λD σ H=>tb (λσ' cv od H'=>(cv=.ref C1\/cv=.ref C2)/\D.nx (σ'.set i (ρ .non)) H') D σ H
end
section
variable{X:Cx}{pins:List (Addr×Obj)}{σ:List (Option V)}{H H':Hp}{s:Shared}{h':Heap}
theorem Inv.lt(I:Inv X pins σ H s):X.env.locals<s.8:=let ⟨_,hn,_⟩:=I.loc;hn.lt
theorem Inv.sz(I:Inv X pins σ H s):X.s₀.8<=s.8:=Í I.ok.above (weQ I.lt)
theorem Inv.Vd(I:Inv X pins σ H s)(h:s.8<=a):a∉X.fs:=λb=>by
 let{_,o,c,_}:=I.ok.pE.mem b
 exact absurd (â (Ì c) (Í I.sz h)) (ă _)
theorem Inv.step{g':Array Ŀ}{t':Nat}{d':Drawn}{ch:List Addr}(I:Inv X pins σ H s)
 (g:∀b∈ch,(b∈X.ex\/X.s₀.8<=b)/\b≠X.env.locals/\(∀x c,X.env.cells.lookup x=ρ c->c≠b)/\∀p∈X.pn++pins,p.1≠b)
 (keep:∀b o,b≠X.env.locals->b∉X.fs->b∉ch->s.heap.get? b=ρ o->H b=τ->h'.get? b=ρ o)
 (slot:∀b o,b≠X.env.locals->b∈X.fs->b∉ch->s.heap.get? b=ρ o->H b=τ->∃sl,h'.get? b=ρ {o with slots:=sl}) (free:∀b o,b∉ch->s.heap.get? b=ρ o->H b=τ->H' b=τ)
 (there:∀b o,b∉ch->s.heap.get? b=ρ o->∃C,h'.get? b=ρ C)
 (rD:∀b xs,H b=ρ (.tup xs)->H' b=ρ (.tup xs)) (pD:∀b o u,H b=ρ (.frz o u)->H' b=ρ (.frz o u)) (rE:∀b ps,H b=ρ (.tbl ps)->∃more,H' b=ρ (.tbl (ps++more)))
 (ns:∀m,s.heap.Ns X.env.locals m->h'.Ns X.env.locals m) (b6:ku X.prog X.w H' h') (T:AllBare g') :
 Inv X pins σ H' {s with heap:=h',gens:=g',drawn:=d',toks:=t'}:=by
 have B:∀b o,X.s₀.heap.get? b=ρ o->b≠X.env.locals:=λb o e=>Ù (â (Ì e) I.ok.above)
 have j:∀b o,X.s₀.heap.get? b=ρ o->b∉X.ex->b∉ch:=λb o e a y=>by
  rcases(g b y).1 with z |z
  .exact a z
  .exact absurd (â (Ì e) z) (ă _)
 have f:∀x c,X.env.cells.lookup x=ρ c->∀v,s.heap.IsCell c v->h'.IsCell c v:=λx c e v ⟨o,A,hd⟩=>by
  have h:c∉ch:=λz=>(g c z).2.2.1 x c e rfl
  by_cases hc:c∈X.fs
  .let{sl,q}:=slot c o (I.Ii x c e) hc h A (I.iL x c e)
   exact{_,q,hd}
  .exact{o,keep c o (I.Ii x c e) hc h A (I.iL x c e),hd}
 refine{I.ok,I.os,T,{λb o e n y a=>?_,λb o e n y a=>?_,λb o e n a=>?_,λb o e a=>?_,λb xs e=>rD b xs (I.base.rD b xs e),λb o xs e=>pD b o xs (I.base.pD b o xs e),λb ps e=>?_},?_,λx c e=>?_,?_,λx c e=>?_,λp G=>?_,b6,I.len}
 .exact keep b o (B b o e) y (j b o e a) (I.base.keep b o e n y a) (I.base.free b o e n a)
 .let{sl,t}:=I.base.slot b o e n y a
  let{E,D}:=slot b _ (B b o e) y (j b o e a) t (I.base.free b o e n a)
  exact⟨E,D⟩
 .let{C,t}:=I.base.there b o e a
  exact free b C (j b o e a) t (I.base.free b o e n a)
 .let{C,t}:=I.base.there b o e a
  exact there b C (j b o e a) t
 .let{m1,t}:=I.base.rE b ps e
  let{L,D}:=rE b _ t
  exact{m1++L,by rw[D,Array.append_assoc]}
 .let{m,hn,hl}:=I.loc
  refine{m,ns m hn,λi x v t D M=>?_}
  let{u,r,l}:=hl i x v t D M
  refine{u,r,?_};rcases l with l |⟨k,c,e,z⟩
  .exact .inl l
  .exact .inr {k,c,e,f x c e _ z}
 .let{v,z}:=I.cell x c e
  exact{v,f x c e v z}
 .let{m,{o,_,_,A,_},_}:=I.loc
  exact free _ o (λz=>(g _ z).2.1 rfl) A I.free
 .let{v,o,A,hd}:=I.cell x c e
  exact free c o (λz=>(g c z).2.2.1 x c e rfl) A (I.iL x c e)
 .let{e,n,ne,J,d}:=I.pin p G
  have h:p.1∉ch:=λz=>(g p.1 z).2.2.2 p G rfl;exact{keep p.1 p.2 ne J h e n,free p.1 p.2 h e n,ne,J,d}
theorem Inv.turned{t':Nat}{it:Addr}(I:Inv X pins σ H s)(k:∀b o,b≠it->s.heap.get? b=ρ o->h'.get? b=ρ o)(hn:H it=τ)(g:it≠X.env.locals)
 (j:it∈X.ex\/X.s₀.8<=it) (l:∀x c,X.env.cells.lookup x=ρ c->c≠it) (t:∀p∈X.pn++pins,p.1≠it):Inv X pins σ H {s with heap:=h',toks:=t'}:=by
 have a:∀b u,H b=ρ u->b≠it:=λb u e z=>by rw[z,hn]at e;cases e
 refine I.step (g':=s.gens) (d':=s.drawn) (ch:=[it]) (λb d=>?_) (λb o _ _ hc e _=>k b o (λz=>hc (by simp[z])) e) (λb o _ _ hc e _=>{o.slots,k b o (λz=>hc (by simp[z])) e}) (λ_ _ _ _ n=>n)
  (λb o hc e=>{o,k b o (λz=>hc (by simp[z])) e}) (λ_ _ e=>e) (λ_ _ _ e=>e) (λb ps e=>{#[],by rw[e];simp}) (λm f=>?_) (λb u e=>?_) I.bare
 .have e:b=it:=by simpa using d
  subst e;exact⟨j,g,l,t⟩
 .let{o,h,i,w,r}:=f
  exact{o,h,i,k _ o (æ g) w,r}
 .refine(I.b6 b u e).ur (λc v hc q=>k c v ?_ q) (λ_ q=>q) λ_ _ q=>q;rcases hc with z |z
  .rw[z];exact a b u e
  .exact a c _ z
theorem yv{M:Model}{A:Around}{E:Value->Shared->Prop}{i:Nat}{x:Str}{v:V}{u:Value}{Q:Unit->Shared->Prop}(I:Inv X pins σ H s)(hN:X.N.Nodup)(hi:X.N[i]?=ρ x)(t:Loc X.env.scope x)(r:RelV v u)
 (h:∀s',Inv X pins (σ.set i (ρ v)) H s'->(∃a,weR a s.heap s'.heap/\(a=X.env.locals\/X.env.cells.lookup x=ρ a))->Q .unit s') (hf:X.fn x=true\/X.env.scope.names.lookup x=ρ .local:=by first |exact .inl rfl |exact .inr rfl |assumption):wpAny M A (storeName X.env x u) Q E s:=by
 let{m,hn,hl}:=id I.loc
 have L:(X.env.scope.kind == .class ||(X.env.scope.kind == .module&&X.env.locals != X.env.globals))=false:=by rw[I.ok.kind];rfl
 have hiσ:i<σ.9:=by rw[I.len];exact(Ñ.mp hi).1
 have Ii:=I.Ii
 have g:∀{a:Addr} {h':Heap},(∃o,s.heap.get? a=ρ o/\H a=τ)->weR a s.heap h'->ku X.prog X.w H h':=λ{a h'} ha f b ob e=>by
  let{_,_,B}:=ha
  refine(I.b6 b ob e).ur (λc U hc q=>(f.2 c ?_).trans q) (λ_ q=>q) λ_ _ q=>q;rintro rfl;rcases hc with rfl |hc
  .rw[B]at e;cases e
  .rw[B]at hc;cases hc
 rcases t with hk |hk
 .refine wpAny_storeName_local hk hn (λh' Z f=>?_) L
  let{oL,_,_,hoL,_}:=id hn
  refine h _ {I.ok,I.os,I.bare,{λb o e n D t=>?_,λb o e n D t=>?_,I.base.free,λb o e t=>?_,I.base.rD,I.base.pD,I.base.rE},{_,Z,λj y v' l C e3=>?_},λy c e=>?_,I.free,I.iL,λp hp=>?_,g ⟨oL,hoL,I.free⟩ f,by simpa using I.len} {_,f,.inl rfl}
  .exact(f.2 b (Ù (â (Ì e) I.ok.above))).trans (I.base.keep b o e n D t)
  .let{sl,l}:=I.base.slot b o e n D t
   exact{sl,(f.2 b (Ù (â (Ì e) I.ok.above))).trans l}
  .let{o',l}:=I.base.there b o e t
   exact{o',(f.2 b (Ù (â (Ì e) I.ok.above))).trans l}
  .by_cases G:j=i
   .subst G;rw[hi]at l;cases l;rw[Λ hiσ]at C;cases C;exact{u,r,.inl {hk,by simp}}
   .rw[wcJ (æ G)]at C
    let{u',r',q}:=hl j y v' l C e3
    refine{u',r',?_};rcases q with⟨k,e⟩ |⟨k,c,e,z⟩
    .refine .inl {k,?_};have:y≠x:=λe=>G (uX hN l (e ▸ hi));simp[this,e]
    .exact .inr {k,c,e,z.sameBut f (Ii y c e)}
  .let{U,z}:=I.cell y c e
   exact{U,z.sameBut f (Ii y c e)}
  .let{e,n,ne,nf,d}:=I.pin p hp
   exact{(f.2 p.1 ne).trans e,n,ne,nf,d}
 .have J:X.fn x=true:=by
   rcases hf with z |z
   .exact z
   .rw[z]at hk;cases hk
  let{c,hc}:=I.ok.has x (.inl hk)
  let{U,z}:=I.cell x c hc
  refine wpAny_storeName_cell I.ok.kind hk hc z (λh' O f=>?_)
  let{oc,R,S}:=id z
  refine h {s with heap:=h'} {I.ok,I.os,I.bare,{λb o e n D t=>?_,λb o e n D t=>?_,I.base.free,λb o e t=>?_,I.base.rD,I.base.pD,I.base.rE},{m,hn.sameBut f (æ (Ii x c hc)),λj y v' l C e3=>?_},λy Y e=>?_,I.free,I.iL,λp hp=>?_,g {oc,R,I.iL x c hc} f,by simpa using I.len} {c,f,.inr hc}
  .exact(f.2 b (Ù (â (Ì e) (I.ok.Oa x c J hc)))).trans (I.base.keep b o e n D t)
  .let{sl,l}:=I.base.slot b o e n D t
   exact{sl,(f.2 b (Ù (â (Ì e) (I.ok.Oa x c J hc)))).trans l}
  .let{o',l}:=I.base.there b o e t
   exact{o',(f.2 b (Ù (â (Ì e) (I.ok.Oa x c J hc)))).trans l}
  .by_cases G:j=i
   .subst G;rw[hi]at l;cases l;rw[Λ hiσ]at C;cases C;exact{u,r,.inr {.inl hk,c,hc,O}}
   .rw[wcJ (æ G)]at C
    let{u',r',q}:=hl j y v' l C e3
    refine{u',r',?_};rcases q with q |⟨k,Y,e,z'⟩
    .exact .inl q
    .refine .inr {k,Y,e,z'.sameBut f ?_};rintro rfl;exact G (uX hN l (I.ok.inj _ _ _ e hc ▸ hi))
  .by_cases T:Y=c
   .subst T;exact{_,O}
   .let{w2,z2}:=I.cell y Y e
    exact{w2,z2.sameBut f T}
  .let{e,n,ne,nf,d}:=I.pin p hp
   refine{(f.2 p.1 ?_).trans e,n,ne,nf,d};intro q;rw[q,R]at e;have q':oc=p.2:=Ò e;exact d U (by rw[<-q'];exact S)
theorem hV{E:Value->Shared->Prop}{Q:Unit->Shared->Prop}(I:Inv X pins σ H s)(g:X.N.Nodup)(hi:X.N[i]?=ρ x)(j:Loc X.env.scope x)(r:RelV v u)
 (h:∀s',Inv X pins (σ.set i (ρ v)) H s'->Q .unit s') (l:X.fn x=true\/X.env.scope.names.lookup x=ρ .local:=by first |exact .inl rfl |exact .inr rfl |assumption):wpAny M A (storeName X.env x u) Q E s:=
 yv I g hi j r (λs' a _=>h s' a) l
theorem FA{P:Ê}{w:World}{K:Á}{T:Expr}(a it:Addr):Turn P w K T (Qo K a) [it] it (λi h=>h.IsListIter it a i) where
 mem:=by simp
 obj:=λi h st b g=>by
  have e:b=it:=by simpa using g
  subst e
  let{o,e,c,d}:=st
  exact{o,e,λv z=>by rw[d]at z;cases z}
 keep:=λi h l st k=>st.at λo e=>k it (by simp) o e
 item:=by
  intro X q hw r hc i f s σ H E I m st t;subst q hw r
  let{L,x,n,y}:=t
  let{A,B,p,M}:=I.list n
  let{u,N,O}:=B.get y
  let{C,f1,f2,D,G,J}:=m it (by simp)
  refine wpAny_pyNext_list_item st p.isList (x:=u) (by simpa using N) λl j sb=>?_;have Q:Inv X f σ H {s with heap:=l}:=I.turned (t':=s.toks) (λb o g e=>(sb.2 b g).trans e) C f1 D G J
  let{o,e,c,d}:=id j
  exact{u,rfl,yf (s:={s with heap:=l}) e c d ⋯ {x,H,Q,O,{rfl,λU R=>by rw[I.pL R n];exact y},j,λb g=>(m b g).1}}
 done:=by
   intro X q hw r hc i f s σ H E I m st t;subst q hw r
   let{L,n,y}:=t
   let{A,B,p,M}:=I.list n
   let{C,f1,f2,D,G,J}:=m it (by simp)
   have hl:=B.9;exact wpAny_pyNext_list_end (I.ok.hd hc) st p.isList (by simp;lia) λl S=>{rfl,I.turned (t':=s.toks) (λb o g e=>S b o g e) C f1 D G J}
 self:=λ_ _ _ _ _ st h=>wpAny_pyIter_listiter st h
theorem CH{P:Ê}{w:World}{K:Á}{C:Expr}(it:Addr)(lo:Int)(n:Nat):Turn P w K C (Nh lo n) [it] it (λi h=>wgo h it (lo+(i:Nat)*1) ((n:Int)-(i:Nat)) 1) where
 mem:=by simp
 obj:=λi h st b c=>by
  have e:b=it:=by simpa using c
  subst e
  exact{_,st,λv z=>by
   have y:Υ _=wgg v:=z
   cases y}
 keep:=λi h f st k=>k it (by simp) _ st
 item:=by
  intro X j hw l hc i a s σ H E I g st m;subst j hw l
  let{p,f1,f2,q,r,u}:=g it (by simp)
  have A:=Walks.range (prog:=X.prog) (w:=X.w) (I.ok.hd hc) it lo 1 n;refine A.item i s _ _ m st λv f x B d D=>?_
  let{t,rfl}:=B
  have G:Inv X a σ H {s with heap:=f,toks:=x}:=I.turned (λb o c e=>D b o (by simpa using c) e) p f1 q r u;refine{1,yf (s:={s with heap:=f,toks:=x}) (n:="range_iterator") d rfl rfl ⋯ {.int (lo+i),H,G,{t,?_},⟨rfl,rfl⟩,d,λb c=>(g b c).1}};rw[Int.mul_one]
 done:=by
   intro X j hw l hc i a s σ H E I g st m;subst j hw l
   let{p,f1,f2,q,r,u}:=g it (by simp)
   exact wgp (I.ok.hd hc) st (by have:n<=i:=m;lia) λf J=>{rfl,I.turned (t':=s.toks) (λb o c e=>J b o c e) p f1 q r u}
 self:=λ_ _ _ _ _ st h=>wgq st h
set_option genInjectivity true in
inductive fz(K:Á)(H:Hp):V->Value->Prop where
 |non:fz K H .non (.type "NoneType")
 |bl (x:Bool):fz K H (.bl x) (.type "bool")
 |int (i:Int):fz K H (.int i) (.type "int")
 |str (x:Str):fz K H (.str x) (.type "str")
 |flt (x:UInt64):fz K H (.flt x) (.type "float")
 |lst {a:Addr} {xs:List V} (e:H a=ρ (.lst xs)):fz K H (.ref a) (.type "list")
 |frz {a:Addr} {o:Obj} {xs:List V} (e:H a=ρ (.frz o (.lst xs))):fz K H (.ref a) (.type "list")
 |tup {a:Addr} {xs:List V} (e:H a=ρ (.tup xs)):fz K H (.ref a) (.type "tuple")
 |dK {a:Addr} {kvs:List (Key×V)} (e:H a=ρ (.dK kvs)):fz K H (.ref a) (.type "dict")
 |dT {a:Addr} {kvs:List (List Key×V)} (e:H a=ρ (.dT kvs)):fz K H (.ref a) (.type "dict")
 |ins {a C dx:Addr} {fs:List (Str×V)} (e:H a=ρ (.ins C dx fs)) (cl:AA K C) (ha:Ā K (.ref C) "__class__"=ρ (ρ (.builtin "object.__class__")))
   (hn:whC K (.builtin "object.__class__") "__get__"=ρ (ρ (.builtin "getset_descriptor.__get__"))) (pM:PySem.W.takesIn K (.builtin "object.__class__")=ρ true)
   (hm:PySem.W.mroIn K C (.type "object")=ρ true):fz K H (.ref a) (.ref C)
end
section
variable{X:Cx}{a b:Expr}{pos:Pos}{tA TY:TT}{rest:List Expr}
theorem CI(ha:PT X a tA)(j:PW X (.BoolOp .And (b::rest) pos) TY):PW X (.BoolOp .And (a::b::rest) pos) (UE tA TY):=by
 refine{?_};intro i d s σ H Q I h;refine isTrue_and (bQ (ha d s σ H _ I h) λc k ⟨e,f,g⟩=>?_)
 cases c with
 |true=>exact j i d k σ e Q f g
 |false=>exact⟨e,f,g⟩
theorem iy(ha:PT X a tA)(j:PW X (.BoolOp .Or (b::rest) pos) TY):PW X (.BoolOp .Or (a::b::rest) pos) (ZZ tA TY):=by
 refine{?_};intro i d s σ H Q I h;refine isTrue_or (bQ (ha d s σ H _ I h) λc k ⟨e,f,g⟩=>?_)
 cases c with
 |true=>exact⟨e,f,g⟩
 |false=>exact j i d k σ e Q f g
theorem ky(g:X.N.Nodup)(hi:X.N[i]?=ρ x)(j:Loc X.env.scope x)(l:X.fn x=true\/X.env.scope.names.lookup x=ρ .local:=by first |exact .inl rfl |exact .inr rfl |assumption):PG X (.Name x pos) (bR i):=by
 refine{?_};intro a s σ H v u Q I r h;exact wpAny_assign_Name (hV I g hi j r (λc b=>{_,H,b,h}) l)
theorem Il{i:Nat}{x:Str}{e:Expr}{j:TE}{g:Pos}(l:X.N.Nodup)(hi:X.N[i]?=ρ x)(p:Loc X.env.scope x)(he:PE X e j)(hs:Ċ e (ρ (.Name x g)) pos.line X.5=pure false:=by rfl)(r:X.fn x=true\/X.env.scope.names.lookup x=ρ .local:=by first |exact .inl rfl |exact .inr rfl |assumption) :
 PS X (.Assign [.Name x g] e pos) (LJ j (bR i)):=by
 refine{?_};intro a s σ H D I h;refine wdA (bQ (he a s σ H _ I h) λv m ⟨y,b,c,d,f⟩=>?_) hs;exact hV c l hi p d (λn k=>{_,b,k,f}) r
theorem vn{i:Nat}{x:Str}{e:Expr}{p:TE}{op:Operator}{t:QQ}{g:Pos}(C:X.N.Nodup)(hi:X.N[i]?=ρ x)(j:Loc X.env.scope x)(he:PE X e p)(J:TU X op t)(T:X.fn x=true\/X.env.scope.names.lookup x=ρ .local:=by first |exact .inl rfl |exact .inr rfl |assumption) :
 PS X (.AugAssign (.Name x g) op e pos) (V3 i p t):=by
 refine{?_};intro a s σ H D I h
 let{v,o,h}:=h
 let{m,hn,hl}:=I.loc
 have n:Qm X.env.scope x:=by rcases j with k |k;exact .inl k;exact .inr (.inl k)
 let{u,r,l}:=hl i x v hi o n
 refine wpAny_AugAssign_Name ?_
 have go:wpAny (model X.prog X.w) X.A (eval e X.5) (λw d=>wpAny (model X.prog X.w) X.A (inplaceOp op u w) (λr f=>wpAny (model X.prog X.w) X.A (storeName X.env x r) (λ_=>SP X a D .next) X.xe f) X.xe d) X.xe s:=by
  refine bQ (he a s σ H _ I h) λw q ⟨y,B,E,G,L⟩=>?_;refine bQ (J a q σ B v y u w _ E r G L) λz V ⟨Y,M,O,Q,R⟩=>?_;exact hV O C hi j Q (λZ S=>{_,M,S,R}) T
 rcases l with⟨hk,U⟩ |⟨hk,c,hc,b⟩
 .exact wgR I.ok.kind hk hn U go
 .rcases hk with hk |hk
  .exact whd I.ok.kind hk hc b go
  .rcases j with k |k
   .have:X.env.scope.names.lookup x=ρ .free:=hk;rw[k]at this;cases this
   .have:X.env.scope.names.lookup x=ρ .free:=hk;rw[k]at this;cases this
theorem jI{c:Expr}{body:List Stmt}{t:TT}{C:TS}(J:PassesOwn (model X.prog X.w) X.A X.env X.xe)(hc:PT X c t)(T:xG X body C):PS X (.While c body [] pos) (Ov t C):=by
 refine{?_};intro a s σ H D I h
 let{W,{E,G},g}:=h
 refine wpAny_While (codeAny_whileLoop (λn L=>∃i u,Inv X a i u L/\W n i u) ?_ E ⟨σ,H,I,G⟩);rintro n M ⟨e,x,O,Q⟩;refine ŵ J (bQ (hc a M e x _ O (g n e x Q)) λb R ⟨y,z,k⟩=>?_)
 cases b with
 |true=>
  let{N,B,k}:=k
  rw[if_pos rfl];refine ŵ J (bQ (T a R e y _ z k) λf S l=>?_)
  cases f with
  |next=>
   let{d,j,m,o}:=l
   let{p,q,r}:=B d j o
   exact⟨p,q,d,j,m,r⟩
  |cont=>
   let{d,j,m,o}:=l
   let{p,q,r}:=B d j o
   exact⟨p,q,d,j,m,r⟩
  |brk=>exact l
  |ret v=>exact l
 |false=>
  rw[if_neg ã];exact ĵ ⟨e,y,z,k⟩
theorem Im(I:Inv X g σ H s)(r:RelV x v)(ty:V8 X.K T x H) :
 s.TypeIs v T/\∀a,v=.ref a->∃ob,s.heap.get? a=ρ ob/\ob.dict=τ:=by
 cases x with
 |str z=>
  let{t,rfl}:=r
  cases(show T="str" from ty);exact{typeIs_str s z t,λ_ e=>nomatch e}
 |int i=>
  let{t,rfl}:=r
  cases(show T="int" from ty);exact{typeIs_int s i t,λ_ e=>nomatch e}
 |ref p=>
  cases r;rcases ty with⟨rfl,j,f⟩ |⟨rfl,o,hk,hc,hd⟩ |⟨rfl,hk⟩ |⟨rfl,S,n,hk⟩
  .let{h,_,pl,_}:=I.list f
   refine{pl.isList.typeIs,λa e=>?_};cases e
   let{o,n,e,c,hd,_}:=pl
   exact⟨o,e,hd⟩
  .refine{{o,I.gJ p o hk,hc},λa e=>?_};cases e;exact{o,I.gJ _ o hk,hd}
  .have z:∃o,s.heap.get? p=ρ o/\o.ExactDict:=by
    rcases hk with⟨b,hk⟩ |⟨b,hk⟩
    .let{_,_,_,_,o,_,_,e,ex,_}:=I.b6 p _ hk
     exact⟨o,e,ex⟩
    .let{_,_,_,_,o,_,_,e,ex,_}:=I.b6 p _ hk
     exact⟨o,e,ex⟩
   let{o,e,ex}:=z
   refine{⟨o,e,ex.1⟩,λa d=>?_};cases d;exact⟨o,e,ex.2.1⟩
  .let{o,_,_,_,e,ex,_}:=I.b6 p _ hk
   refine{⟨o,e,ex.1⟩,λa d=>?_};cases d;exact⟨o,e,ex.2.1⟩
 |_=>exact é ty
def XE(K:Á)(T:String)(r:V->List V->Hp->VK->Prop)(to:TE)(t:TA):TE:=λσ H Q=>to σ H λx H1=>V8 K T x H1/\t σ H1 λxs H2=>r x xs H2 Q
end
section
variable{fs ex:List Addr}{H H1:Hp}{h h1:Heap}
theorem Un.any(u:Un fs ex H H1 h h1){b:Addr}{ob:Obj}(q:h.get? b=ρ ob)(n:H b=τ)(g:b∉ex):∃sl,h1.get? b=ρ {ob with slots:=sl}:=by
 by_cases a:b∈fs
 .exact u.slot b ob q n a g
 .exact{ob.slots,u.keep b ob q n a g}
theorem pN:∀{xs:List V} {us:List Value},Vals xs us->xs.all eh=true->us.any (Cy x)=xs.any λy=>rG y x
 |_,_,.nil,_=>rfl
 |y::xs,u::us,.cons r t,f=>by
  rw[wfl,ś]at f;rw[δ,δ,Ie r f.1,pN t f.2]
noncomputable def pO(x:V)(xs:List V):Bool:=xs.any λy=>rG y x
theorem hX{X:Cx}{K:Á}(g:X.K=K):Qr X (Ra K):=by
 subst g;exact bM
theorem jJ(y:Str)(ps:List Str):pO (.str y) (ps.map V.str)=decide (y∈ps):=by
 unfold pO;rw[wfN]
 induction ps with
 |nil=>rfl
 |cons p ps a=>
  rw[δ,a];show ((p==y) ||decide (y∈ps))=decide (y∈p::ps)
  by_cases e:p=y
  .subst e;simp
  .have:(p==y)=false:=beq_eq_false_iff_ne.mpr e;have b:¬y=p:=λz=>e z.symm;rw[this,Τ];simp[b]
theorem vo(y:Int)(ns:List Int):pO (.int y) (ns.map V.int)=decide (y∈ns):=by
 unfold pO;rw[wfN]
 induction ns with
 |nil=>rfl
 |cons a l b=>
  rw[δ,b];show ((a==y) ||decide (y∈l))=decide (y∈a::l)
  by_cases e:a=y
  .subst e;simp
  .have:(a==y)=false:=beq_eq_false_iff_ne.mpr e;rw[this,Τ];simp[æ e]
end
section
variable{X:Cx}{pins:List (Addr×Obj)}{σ:List (Option V)}{H H':Hp}{s:Shared}{h':Heap}
theorem Inv.un{t':Nat}(I:Inv X pins σ H s)(u:Un X.fs [] H H' s.heap h')(b6:ku X.prog X.w H' h'):Inv X pins σ H' {s with heap:=h',toks:=t'}:=by
 let{m,{o,k,l,g,r},_}:=id I.loc
 let{sl,h}:=u.any g I.free (by simp)
 exact I.step (g':=s.gens) (d':=s.drawn) (ch:=[]) (λ_ z=>nomatch z) (λb o _ c _ e n=>u.keep b o e n c (by simp)) (λb o _ c _ e n=>u.slot b o e n c (by simp)) (λb o _ e n=>u.free b o e n (by simp)) (λb o _ e=>u.there b o e (by simp)) u.rD u.pD u.rE (λp i=>by
  let{q,d,f,a,j}:=i
  rw[g]at a;cases a
  exact{_,d,f,h,j}) b6 I.bare
theorem Inv.call{g':Array Ŀ}{t':Nat}{d':Drawn}{ch:List Addr}(I:Inv X pins σ H s)(u:Un (rA X.stack) ch H H' s.heap h')(b6:ku X.prog X.w H' h')(j:AllBare g')
 (g:∀b∈ch,(b∈X.ex\/X.s₀.8<=b)/\b≠X.env.locals/\(∀x c,X.env.cells.lookup x=ρ c->c≠b)/\∀p∈X.pn++pins,p.1≠b) :
 Inv X pins σ H' {s with heap:=h',gens:=g',drawn:=d',toks:=t'}:=by
 let{m,{o,t,v,i,r},_}:=id I.loc
 let{sl,d}:=u.any i I.free λz=>(g _ z).2.1 rfl
 exact I.step (ch:=ch) g (λb o d k hc e n=>u.keep b o e n (λz=>(à.mp (I.vh b z)).elim d k) hc) (λb o _ _ hc e n=>u.any e n hc) (λb o hc e n=>u.free b o e n hc) (λb o hc e=>u.there b o e hc) u.rD u.pD u.rE (λy l=>by
  let{A,f,h,a,q}:=l
  rw[i]at a;cases a
  exact{_,f,h,d,q}) b6 j
theorem Inv.vp(I:Inv X pins σ H s)(j:s'.os=s.os)(u:Un (rA X.stack) ch H H' s.heap s'.heap)(b6:ku X.prog X.w H' s'.heap)(l:AllBare s'.gens)
 (g:∀b∈ch,(b∈X.ex\/X.s₀.8<=b)/\b≠X.env.locals/\(∀x c,X.env.cells.lookup x=ρ c->c≠b)/\∀p∈X.pn++pins,p.1≠b):Inv X pins σ H' s':=by
 let{h',g',d',t',a}:=s'
 have e:a=s.os:=j;subst e;exact I.call (g':=g') (t':=t') (d':=d') u b6 l g
theorem yw{h:Heap}{g:Addr}{j:Str->Option Value}(n:h.Ns1 g j):∃od,h.get? g=ρ od/\∀name,wf9 name od=ρ (j name):=by
 let{o,c,l,d,hd,hk,_,f}:=n
 refine{o,d,λname=>?_};have e:=f name;unfold nsFind findBy at e;rw[<-Array.find?_toList]at e;unfold wf9;rw[hd];dsimp only;split
 .rename_i y q;rw[q]at e;exact congrArg ρ e
 .rename_i q;rw[q]at e
  have a:c.toList.any (·.refKey)=false:=by
   rw[whF];intro y i
   let{z,t,b}:=hk y (Array.mem_toList_iff.mp i)
   simp[DictEntry.refKey,b]
  have k:¬c.toList.any (·.refKey)=true:=by rw[a];exact ã
  rw[if_neg k];exact congrArg ρ e
theorem Cm.look{h:Heap}{x g C:Addr}{j:Str->Option Value}(I:Cm h x g C j):∃od,PySem.W.InstAt h x (Ų C g) C (ρ od)/\∀name,wf9 name od=ρ (j name):=
 let ⟨od,a,hl⟩:=yw I.ns
 {od,⟨I.obj,rfl,rfl,a⟩,hl}
structure dJ(k:Nat)(A:Around):Prop where
 hd:A.handled=τ
 dp:A.depth+3*k+5<recursionLimit
 un:A.units+16*k+200<ò
theorem dJ.mono(r:dJ k A)(h:j<=k):dJ j A:={r.hd,by have:=r.dp;lia,by have:=r.un;lia}
theorem dJ.deeper(r:dJ (k+1) A)(env:Env):dJ k (A.deeper env):=
 {r.hd,by have:=r.dp;show A.depth+1+3*k+5<_;lia,by have:=r.un;show A.units+3+16*k+200<_;lia}
theorem dJ.make(r:dJ (k+1) A)(C:Addr)(us:List Value)(g:List (Str×Value)):dJ k (A.under (.builtin "type.__call__" {.ref C::us,g})):=
 {r.hd,by have:=r.dp;rw[Cp];lia,by have:=r.un;rw[Cq];lia}
theorem dJ.depth(r:dJ k A):A.depth<recursionLimit:=by have:=r.dp;lia
theorem dJ.units(r:dJ k A):A.units+64<ò:=by have:=r.un;lia
theorem dJ.vq(r:dJ k A):A.units<ò:=by have:=r.un;lia
end
section
variable{te:Np}
theorem Inv.zI{X:Cx}(I:Inv X g σ H s)(j:s.8<=b)(hn:l b=τ):uZ X g l b:=by
 refine{hn,ı (â I.lt j),I.Vd j,.inr (Í I.sz j),λx c e z=>?_,λp a z=>?_}
 .let{v,q}:=I.cell x c e
  exact absurd (â q.lt (by rw[z];exact j)) (ă _)
 .exact absurd (â (Ì (I.pin p a).1) (by rw[z];exact j)) (ă _)
theorem di{K:Á}{a:Addr}{xs:List V}{g:TG}{C:TS}{D:Ends}{σ:St}{H:Hp}(Pv:Nat->St->Hp->Prop)(h0:Pv 0 σ H)(hl:∀i σ H,i<=xs.9->Pv i σ H->aO K H a xs)
 (hs:∀i x σ H,xs[i]?=ρ x->Pv i σ H->g x σ H λj t=>C (D.lp (Pv (i+1))) j t) (hd:∀σ H,Pv xs.length σ H->D.nx σ H) :
 ∃W:Nat->Nat->St->Hp->Prop,(∃m,W 0 m σ H)/\∀i m σ H,W i m σ H ->
  ((Qo K a).stop i H/\D.nx σ H)\/((Qo K a).go i H/\∃N:St->Hp->Prop,(∀l r,N l r->∃I,I<m/\W (i+1) I l r)/\∀x r,(Qo K a).uY i H x r->g x σ r λj t=>C (D.lp N) j t):=by
 refine{λi m σ H=>m=xs.9-i/\i<=xs.9/\Pv i σ H,{xs.9,by simp,Û _,h0},?_};rintro i m σ H ⟨rfl,hi,p⟩;have q:=hl i σ H hi p
 by_cases b:i<xs.9
 .refine .inr {{xs,xs[i],q,by simp[b]},Pv (i+1),λl r c=>{xs.9-(i+1),(),rfl,b,c},λx r y=>?_}
  let{e,y}:=y
  subst e;exact hs i x σ _ (y xs q) p
 .have e:i=xs.9:=();subst e;exact .inl {{xs,q,Ä _},hd σ H p}
def dO(X:Cx)(f:Value)(r:List V->Hp->VK->Prop):Prop:=
 ∀(pins:List (Addr×Obj)) (s:Shared) (σ:St) (H:Hp) (xs:List V) (us:List Value) (Q:VK),Inv X pins σ H s->Vals xs us->r xs H Q ->
  wpAny (model X.prog X.w) X.A (call f us) (EP X pins σ Q) X.xe s
structure aR(P:Ê)(w:World)(K:Á)(mg:Str->Option Value)(base:Heap)(CX:Fx)(k:Nat)(f:Addr)(fd:ï)(ps:List Str)(sp:Sp):Prop where
 len:∀vs H Q E,sp vs H Q E->vs.9=ps.9
 run:∀(A:Around) (outer:List Env) (s:Shared) (H:Hp) (args:Args) (us:List Value) (vs:List V) (Q:VK) (E:XK),dJ k A->CC P w K mg base A outer s H->BindsTo s fd args (ps.zip us)->Vals vs us->sp vs H Q E ->
  codeAny (model P w) A (.call (.ref f) args) (CR CX outer P w H s Q E) s
theorem CC.make{P:Ê}{w:World}{K:Á}{mg:Str->Option Value}{base:Heap}{A:Around}{outer:List Env}{s:Shared}{H:Hp}(e:CC P w K mg base A outer s H)(C:Addr)(us:List Value)(g:List (Str×Value)) :
 CC P w K mg base (A.under (.builtin "type.__call__" {.ref C::us,g})) outer s H:={by first |exact e.frames |(simpa [whq,Code.envs,whr,pushEnvs] using e.frames),e.mod,e.bs,e.HL,e.pE,e.Lp,e.b6,e.bare}
noncomputable def vr(CX:Fx)(P:Ê)(w:World)(K:Á)(mg:Str->Option Value)(base:Heap)(N:List Str)(qual:Str)(scope:Ă)(f:Addr)(cd:Value)(A:Around)(outer:List Env)(s:Shared)(H:Hp)(E:XK):Cx where
 prog:=P
 w:=w
 K:=K
 mg:=mg
 base:=base
 A:=A.deeper (envOfC qual scope s.heap.objs.size f cd)
 N:=N
 s₀:=s
 H₀:=H
 env:=envOfC qual scope s.heap.objs.size f cd
 outer:=outer
 stack:=envOfC qual scope s.heap.objs.size f cd::outer
 ex:=[]
 calm:=true
 fn:=λ_=>true
 pn:=[]
 xe:=λe s'=>wpAny (model P w) (A.deeper (envOfC qual scope s.heap.objs.size f cd)) («leaving» (envOfC qual scope s.heap.objs.size f cd) e) (λ_ Ve=>CX outer H s E e Ve) (λe' Ve=>CX outer H s E e' Ve) s'
def Ny(X:Cx)(id:String)(r:V->List V->Hp->VK->Prop):Prop:=
 ∀(pins:List (Addr×Obj)) (s:Shared) (σ:St) (H:Hp) (x:V) (xs:List V) (v:Value) (us:List Value) (Q:VK),Inv X pins σ H s->RelV x v->Vals xs us->r x xs H Q ->
  wpAny (model X.prog X.w) X.A (call (.builtin id) (v::us)) (EP X pins σ Q) X.xe s
inductive TZ(K:Á)(neg:Bool)(x y:V)(H:Hp)(Q:VK):Prop
 |mk (p xs) (_:y=.ref p) (_:(aO K H p xs\/gM K H p xs)) (_:eh x=true) (_:xs.all eh=true) (_:Q (.bl (if neg then !pO x xs else pO x xs)) H)
def XF(X:Cx)(id:String)(r:V->List V->Hp->VK->Prop):Prop:=
 ∀(pins:List (Addr×Obj)) (s:Shared) (σ:St) (H:Hp) (x:V) (xs:List V) (v:Value) (us:List Value) (Q:VK),Inv X pins σ H s->RelV x v->Vals xs us->r x xs H Q ->
  wpAny (model X.prog X.w) X.A (call (.builtin id) (v::us)) (EP X pins σ Q) X.xe s
noncomputable def RC(te:Np):CA:=λE D σ H=>te (E σ) σ H λ_ H1=>D.nx σ H1
end
section
variable{X:Cx}{pins:List (Addr×Obj)}{σ:St}{H:Hp}{s:Shared}{E:Value->Shared->Prop}
theorem Inv.kl(I:Inv X pins σ H s)(E:Value->Shared->Prop):Inv (X.kl E) pins σ H s:={I.ok.kl E,I.os,I.bare,I.base,I.loc,I.cell,I.free,I.iL,I.pin,I.b6,I.len}
theorem Inv.eP(I:Inv (X.kl E) pins σ H s):Inv X pins σ H s:=⟨I.ok.eP,I.os,I.bare,I.base,I.loc,I.cell,I.free,I.iL,I.pin,I.b6,I.len⟩
theorem SP.eP(h:SP (X.kl E) pins D f s'):SP X pins D f s':=by
 cases f with
 |next=>let{a,b,I,q}:=h;exact⟨a,b,I.eP,q⟩
 |brk=>let{a,b,I,q}:=h;exact⟨a,b,I.eP,q⟩
 |cont=>let{a,b,I,q}:=h;exact⟨a,b,I.eP,q⟩
 |ret u=>let{v,a,b,I,r,q}:=h;exact⟨v,a,b,I.eP,r,q⟩
theorem xG.HC{st:List Stmt}{t:TS}(h:xG X.HC st t):xG X st t:={λpins s σ H D I hw=>
 í (h pins s σ H D (I.kl _) hw) (λ_ _ q=>q.eP) λ_ _ z=>é z}
theorem Inv.Io(I:Inv X pins σ H s):CC X.prog X.w X.K X.mg X.base X.A X.stack s H:=
 {I.ok.frames,I.ok.mod,I.bs,Í I.ok.HL I.sz,I.stack,I.pI,I.b6,I.bare}
theorem rK:me X (ô .In) (TZ X.K false):=by
 intro c s σ H x y v u Q I d f h
 let{p,i,rfl,b,e,fs,q}:=h
 cases f;rcases b with b |b
 .let{a,r,pl,g}:=I.list b
  refine SeqAt.in_listAt (Cy x) pl.isList (λw hw=>mm d e r fs w (by grind)) {.bl _,H,I,rfl,?_};rw[show a.toArray.any (Cy x)=a.any (Cy x) by simp,pN r fs];exact q
 .let{a,r,pl,g}:=I.tuple b
  refine SeqAt.in_tupleAt (Cy x) pl (λw hw=>mm d e r fs w (by grind)) {.bl _,H,I,rfl,?_};rw[show a.toArray.any (Cy x)=a.any (Cy x) by simp,pN r fs];exact q
theorem kz:me X (ô .NotIn) (TZ X.K true):=by
 intro c s σ H x y v u Q I d f h
 let{p,i,rfl,b,e,fs,q}:=h
 cases f;rcases b with b |b
 .let{a,r,pl,g}:=I.list b
  refine SeqAt.notIn_listAt (Cy x) pl.isList (λw hw=>mm d e r fs w (by grind)) {.bl _,H,I,rfl,?_};rw[show a.toArray.any (Cy x)=a.any (Cy x) by simp,pN r fs];exact q
 .let{a,r,pl,g}:=I.tuple b
  refine SeqAt.notIn_tupleAt (Cy x) pl (λw hw=>mm d e r fs w (by grind)) {.bl _,H,I,rfl,?_};rw[show a.toArray.any (Cy x)=a.any (Cy x) by simp,pN r fs];exact q
theorem Inv.big(I:Inv X pins σ H s):Ė<s.8:=by
 have h:ó<s.8:=(I.mod.glob.keeps I.bk).lt;exact Nat.lt_trans ⋯ h
end
section
variable{κ:Type}[DecidableEq κ]
noncomputable def putK(kvs:List (κ×V))(k:κ)(v:V):List (κ×V):=
 if (kvs.any λkv=>decide (kv.1=k))=true then kvs.map (λkv=>if kv.1=k then(kv.1,v) else kv) else kvs++[(k,v)]
theorem iN(k:κ):∀kvs:List (κ×V),(kvs.any λg=>decide (g.1=k))=(bD kvs k).isSome
 |[]=>rfl
 |p::r=>by
  rw[δ]
  by_cases e:p.1=k
  .simp only[cu e,decide_eq_true e,Bool.true_or,Option.isSome_some]
  .rw[cw e,decide_eq_false e,Τ];exact iN k r
theorem vt(kvs:List (κ×V))(k j:κ)(y:V):bD (putK kvs k y) j=if j=k then ρ y else bD kvs j:=by
 delta putK
 by_cases a:(kvs.any λb=>decide (b.1=k))=true
 .rw[if_pos a,AG];rw[iN]at a
  by_cases e:j=k
  .let{x,c}:=wfL.mp a
   rw[if_pos e,e,c,weO,if_pos rfl]
  .rw[if_neg e]
   cases bD kvs j with
   |none=>rfl
   |some x=>rw[weO,if_neg e]
 .rw[if_neg a];refine yp k j y kvs ?_;rw[iN]at a
  cases q:bD kvs k with
  |none=>rfl
  |some x=>rw[q]at a;exact(a rfl).elim
theorem hZ(kvs:List (κ×V))(k:κ)(v:V):(putK kvs k v).9<=kvs.9+1:=by
 delta putK;split
 .rw[À];lia
 .rw[É,ê,weS];lia
theorem gb{kvs:List (κ×V)}{k:κ}(v:V)(h:bD kvs k=τ):putK kvs k v=kvs++[(k,v)]:=by simp_all [putK,iN,if_neg]
theorem KV.any{kvs:List (κ×V)}{vs:List (κ×Value)}(r:KV kvs vs)(k:κ):(kvs.any λg=>decide (g.1=k))=vs.any λg=>decide (g.1=k):=by
 unfold KV at r
 induction r with
 |nil=>rfl
 |cons h t a=>rw[δ,δ,a,h.1]
theorem KV.put{kvs:List (κ×V)}{vs:List (κ×Value)}(r:KV kvs vs)(k:κ){y:V}{u:Value}(g:RelV y u):KV (putK kvs k y) (stored vs k u):=by
 unfold putK stored;rw[r.any k]
 by_cases e:(vs.any λa=>decide (a.1=k))=true
 .rw[if_pos e,if_pos e];exact r.repl k g
 .rw[if_neg e,if_neg e];exact Paired.snoc r ⟨rfl,g⟩
end
theorem KT.put{H:Hp}{kvs:List (List Key×V)}{xs:List (List Key×Addr×Value)}(r:KT H kvs xs)(k:List Key){b:Addr}{y:V}{u:Value}(j:H b=ρ (.tup (k.map kV)))(g:RelV y u) :
 KT H (putK kvs k y) (storedH xs k b u):=by
 have e:(kvs.any λa=>decide (a.1=k))=(atKey xs k).isSome:=by
  rw[iN,(r.val k).jH,wfv]
 unfold putK storedH;rw[e]
 by_cases q:(atKey xs k).isSome=true
 .rw[if_pos q,if_pos q];exact r.repl k g
 .rw[if_neg q,if_neg q];exact Paired.snoc r ⟨rfl,j,g⟩
def kA(H:Hp)(a:Addr)(y v:V)(H':Hp):Prop:=
 (∃kvs k,H a=ρ (.dK kvs)/\y=kV k/\kvs.9<sizeLine/\H'=upd H a (.dK (putK kvs k v))) \/
 ∃kvs k b,H a=ρ (.dT kvs)/\y=.ref b/\H b=ρ (.tup (k.map kV))/\kvs.9<sizeLine/\H'=upd H a (.dT (putK kvs k v))
theorem kA.k{H:Hp}{a:Addr}{kvs:List (Key×V)}{k:Key}{v:V}(e:H a=ρ (.dK kvs))(hl:kvs.9<sizeLine):kA H a (kV k) v (upd H a (.dK (putK kvs k v))):=.inl ⟨kvs,k,e,rfl,hl,rfl⟩
theorem AQ{X:Cx}(I:Inv X j σ H s)(g:eN H a y o):s.TypeIs (.ref a) "dict":=by
 rcases g with⟨c,k,e,_,_⟩ |⟨c,k,b,e,_,_,_⟩
 .let{_,_,f,_,d}:=lD I.b6 e
  exact d.typeIs
 .let{_,_,h,_,d}:=vk I.b6 e
  exact d.typeIs
def Nz(td ty tv:TE):TS:=λD σ H=>tv σ H λv H1=>td σ H1 λx H2=>ty σ H2 λy H3=>∃a H4,x=.ref a/\kA H3 a y v H4/\D.nx σ H4
theorem AR{X:Cx}(hk:PE X k tk)(j:PE X v l)(p:TV X pos r vs g) :
 TV X pos (ρ k::r) (v::vs) ((tk,l)::g):={λa s σ H Q I h=>
 pairTrees_cons_walk (bQ (hk a s σ H _ I h) λu b ⟨x,c,d,e,f⟩=>bQ (j a b σ c _ d f) λA i ⟨y,m,n,o,q⟩=>
  bQ (p a i σ m _ n q) λB C ⟨ps,t,w,rel,z⟩=>{(x,y)::ps,t,w,.cons ⟨e,o⟩ rel,z})}
noncomputable def mq(kvs more:List (Key×V)):List (Key×V):=more.foldl (λacc kv=>putK acc kv.1 kv.2) kvs
theorem KV.merge:∀{more:List (Key×V)} {rs:List (Key×Value)} {kvs:List (Key×V)} {vs:List (Key×Value)},KV more rs->KV kvs vs->KV (mq kvs more) (merged vs rs):=by
 intro more rs kvs vs r;unfold KV at r
 induction r generalizing kvs vs with
 |nil=>intro q;exact q
 |@cons p q ps c h t a=>
  intro b
  have e:KV (putK kvs p.1 p.2) (stored vs q.1 q.2):=by
   have:=b.put p.1 h.2;rw[<-h.1];exact this
  exact a e
theorem xJ:∀(more kvs:List (Key×V)),(mq kvs more).9<=kvs.9+more.9:=by intro more;induction more<;>grind [putK,hZ,mq,ê]
def RD(V1:List (TE×TE)):TE:=λσ H Q=>∀p,H p=τ->Cr V1 σ (upd H p (.dK [])) λps H2=>H2 p=ρ (.dK [])/\∃kvs:List (Key×V),ps=kvs.map (λkv=>(kV kv.1,kv.2))/\kvs.9<=15/\Q (.ref p) (upd H2 p (.dK (mq [] kvs)))
theorem Ip{X:Cx}(I:Inv X j σ H s)(d:UL H a) :
 s.TypeIs (.ref a) "dict"/\(∀b,È a=.ref b->∃ob,s.heap.get? b=ρ ob/\ob.dict=τ)/\(a==Ė)=false:=by
 rcases d with⟨f,e⟩ |⟨f,e⟩
 .let{_,hd,i,_,c}:=lD I.b6 e
  refine{c.typeIs,λb q=>?_,hd};cases q
  let{ob,_,_,g,h,_}:=c
  exact⟨ob,g,h.2.1⟩
 .let{_,hd,k,_,c}:=vk I.b6 e
  refine{c.typeIs,λb q=>?_,hd};cases q
  let{ob,_,_,g,h,_}:=c
  exact⟨ob,g,h.2.1⟩
theorem Iq{P:Ê}{w:World}{K:Á}{mg I:Str->Option Value}{CX:Fx}{k:Nat}{fa a:Addr}{fd:ï}{x:Str}{sp:Sp}{g:Shared}{vs:List Value}{ns:List Int}
 (KX:K.In g.heap) (p:g.heap.Ns ó mg) (j:g.heap.Ns builtinsNs I) (J:∀x:Str,x≠"__name__"->I x=ð x) (t:g.heap.NoLimit) (hg:g.gens=#[])
 (ha:g.heap.get? a=ρ {cls:=.type "list",data:=.seq vs.6}) (hi:IntsAre vs ns) (hl:ns.9<=sizeLine) (hr:dJ k callerA)
 (F:∀base:Heap,K.In base->base.Ns ó mg->aR P w K mg base CX k fa fd [x] sp) (l:∀(s:Shared) (u:Value),BindsTo s fd {[u],[]} [(x,u)])
 (T:∀H:Hp,Only H->aO K H a (ns.map V.int)->sp [.ref a] H (λv _=>v=.bl true) λ_ _ _=>False)
 (U:∀H e s',CX [] H g (λ_ _ _=>False) e s'->False) :
 codeAny (model P w) callerA (.call (.ref fa) {[.ref a],[]}) (λr s'=>r=.ok (.ret (.bool true))/\OldK g.heap s'.heap/\s'.os=g.os/\AllBare s'.gens) g:=by
 have G:=yn hi;have f:=hi.9
 have core:∀H:Hp,Only H->aO K H a (ns.map V.int)->ku P w H g.heap->(∀b,H b≠τ->b=a)->(H a≠τ->K.lookup a=τ) ->
  codeAny (model P w) callerA (.call (.ref fa) {[.ref a],[]}) (λr s'=>r=.ok (.ret (.bool true))/\OldK g.heap s'.heap/\s'.os=g.os/\AllBare s'.gens) g:=by
  intro H L O b6 M Q;have Eu:∀{b:Addr} {o:Obj},g.heap.get? b=ρ o->H b=τ->(zt g.heap H).get? b=ρ o:=λe n=>HK e n
  have D:∀{b:Addr} {o:Obj} {i:Array DictEntry} {y:Nat},g.heap.get? b=ρ o->o.data=.dict i y->H b=τ:=λ{b o i y} e d=>by
   cases q:H b with
   |none=>rfl
   |some u=>
    have E:b=a:=M b (by rw[q];simp);subst E;rw[ha]at e;cases e;have R:Data.seq vs.toArray _=Data.dict i y:=d;cases R
  have c:∀{b:Addr} {m:Str->Option Value},g.heap.Ns b m->(zt g.heap H).Ns b m:=λ{b m} ⟨o,i,y,e,d,r⟩=>{o,i,y,Eu e (D e d),d,r}
  have A:K.In (zt g.heap H):=λb o e=>Eu (KX b o e) (by
   cases q:H b with
   |none=>rfl
   |some u=>
    have E:b=a:=M b (by rw[q];simp);subst E
    rw[Q (by rw[q];simp)]at e;cases e)
  have S:Mod K mg (zt g.heap H):={A,c p,{I,c j,J},let ⟨X,Y,Z⟩:=t;{X,c Y,Z}};have e0:CC P w K mg (zt g.heap H) callerA [] g H:={rfl,S,λb o e=>Li e,Ν (Fu _ _),trivial,λb j=>absurd (show b∈([]:List Addr) from j) (by simp),b6,.of_eq hg};refine Ī ((F _ A (c p)).run callerA [] g H {[.ref a],[]} [.ref a] [.ref a] _ _ hr e0 (l g (.ref a)) (.cons rfl .nil) (T H L O)) λr s' h=>?_
  cases r with
  |error e=>exact(U H e s' h).elim
  |ok fl=>
   cases fl with
   |next=>exact é h
   |brk=>exact é h
   |cont=>exact é h
   |ret u=>
    let{v,H',os,bare,un,B,r',q}:=h
    have q':v=.bl true:=q;subst q';obtain rfl:u=wfD true:=r';refine{rfl,OldK.of_keep λb o e=>?_,os,bare}
    cases q:H b with
    |none=>exact un.keep b o e q (by intro z;exact absurd (show b∈([]:List Addr) from z) (by simp)) (by simp)
    |some u=>
     rcases L b with z |⟨ob,xs,z⟩
     .rw[q]at z;cases z
     .have z2:=un.pD b ob _ z
      let{N,_}:=b6 b _ z
      let{e2,_}:=B b _ z2
      rw[e]at N;cases N;exact e2
 cases hk:K.lookup a with
 |some o=>
  have e:=KX a o hk;rw[ha]at e;cases e;refine core (λ_=>τ) (λ_=>.inl rfl) (.inr {_,vs.6,_,hk,rfl,rfl,rfl,by rw[å,f];exact hl,by simpa using G}) (λb u z=>by have C:(τ:Option HO)=ρ u:=z;cases C) (λb z=>absurd rfl z) λz=>absurd rfl z
 |none=>
  refine core (λb=>if b=a then ρ (.frz {cls:=.type "list",data:=.seq vs.6} (.lst (ns.map V.int))) else τ) (λb=>?_) (.inl (.inr {{cls:=.type "list",data:=.seq vs.6},if_pos rfl})) (λb u z=>?_) (λb z=>?_) λ_=>hk
  .by_cases j:b=a
   .exact .inr {_,_,if_pos j}
   .exact .inl (if_neg j)
  .by_cases j:b=a
   .have C:=(if_pos j).symm.trans z;cases C;subst j;exact{ha,by rw[À];exact hl,vs,_,G,ha}
   .have C:=(if_neg j).symm.trans z;cases C
  .by_cases j:b=a
   .exact j
   .exact absurd (if_neg j) z
theorem fA(g:dJ k A):A.units+1<ò:=ę (Nat.add_le_add_left (by decide:1<=64) _) g.units
theorem oQ:∀{names:List (Str×NameKind)} (g:List (Str×Addr)),(∀y∈names,y.2=.free->∃c,env.cells.lookup y.1=ρ c)->(∀y c,g.lookup y=ρ c->env.cells.lookup y=ρ c) ->
 ∃cl:List (Str×Addr),(forIn names g (λ(x:Str×NameKind) p=>(match x with |(name,kind)=>if kind == .free then do let c <-cellOf env name;pure (Α ((name,c)::p)) else pure (Α p):Sem (ForInStep (List (Str×Addr))))))=pure cl /\
  (∀y c,cl.lookup y=ρ c->env.cells.lookup y=ρ c)/\(∀y c,g.lookup y=ρ c->∃j,cl.lookup y=ρ j)/\∀y∈names,y.2=.free->∃c,cl.lookup y.1=ρ c
 |[],g,_,ha=>{g,rfl,ha,λy c e=>⟨c,e⟩,λ_ h=>nomatch h}
 |(n,k)::r,g,f,ha=>by
  rw[List.forIn_cons]
  by_cases hk:k=.free
  .let{c,hc}:=f (n,k) Ø hk
   have i:(k==Ģ)=true:=by rw[hk];rfl
   let{cl,l,m,d,o}:=oQ (env:=env) (names:=r) ((n,c)::g) (λy a=>f y (Ô _ a)) (λy j e=>by
    rw[ĉ]at e
    cases q:y==n with
    |true=>
     rw[q]at e;have:c=j:=Ò e;subst this;have:y=n:=eq_of_beq q;subst this;exact hc
    |false=>
     rw[q]at e
     exact ha y j e)
   refine{cl,?_,m,λy j e=>?_,λy a b=>?_}
   .rw[<-l];simp only[i,if_true];have s:cellOf env n=pure c:=by unfold cellOf;rw[hc]
    rw[s];rfl
   .by_cases q:y=n
    .subst q;exact d y c (by simp[ĉ])
    .refine d y j ?_;have:(y==n)=false:=beq_eq_false_iff_ne.mpr q;rw[ĉ,this];exact e
   .rcases à.mp a with rfl |a
    .exact d n c (by simp[ĉ])
    .exact o y a b
  .have i:(k==Ģ)=false:=by simpa using hk
   let{cl,l,m,d,o}:=oQ (env:=env) (names:=r) g (λy a=>f y (Ô _ a)) ha
   refine{cl,?_,m,d,λy a b=>?_}
   .rw[<-l];simp only[i,Ŗ,if_false];rfl
   .rcases à.mp a with rfl |a
    .exact absurd b hk
    .exact o y a b
theorem o1(g:∀y∈scope.names,y.2=.free->∃c,env.cells.lookup y.1=ρ c) :
 ∃cl,closureFor scope env=pure cl/\(∀y c,cl.lookup y=ρ c->env.cells.lookup y=ρ c)/\∀y∈scope.names,y.2=.free->∃c,cl.lookup y.1=ρ c:=by
 let{cl,b,d,_,f}:=oQ (env:=env) (names:=scope.names) [] g (λy c e=>by simp at e)
 refine{cl,?_,d,f};simp only[closureFor]
 first
  |(rw[b];rfl)
  |(have a:=b;simp only at a ⊢;rw[a];rfl)
  |(refine œ (congrArg (λm=>m >>= λh=>pure h) ?_) ?_;exact pure cl;exact b;rfl)
theorem zJ(g:∀y∈scope.names,y.2≠.cell)(h:(relabel scope env).names.lookup x=ρ .cell\/(relabel scope env).names.lookup x=ρ .free):∃k,(x,k)∈scope.names/\k=Ģ:=by
 unfold relabel at h;dsimp only at h
 have key:∀(names:List (Str×NameKind)),(∀y∈names,y.2≠.cell) ->
  ((names.map λ(n,k)=>if (k==Ģ&&env.scope.kind == .function&&env.kindOf n==ρ .cell) then(n,ι) else(n,k)).lookup x=ρ .cell \/
   (names.map λ(n,k)=>if (k==Ģ&&env.scope.kind == .function&&env.kindOf n==ρ .cell) then(n,ι) else(n,k)).lookup x=ρ .free)->∃k,(x,k)∈names/\k=Ģ:=by
  intro names
  induction names with
  |nil=>intro _ h;simp at h
  |cons y r f=>
   let{n,k}:=y
   intro hc h;have i:=f (λy j=>hc y (Ô _ j));rw[Ó]at h;dsimp only at h
   by_cases b:x=n
   .subst b
    by_cases hk:k=.free
    .exact⟨k,Ø,hk⟩
    .have l:(k==Ģ)=false:=by simpa using hk
     simp only[l,ζ,Ŗ,if_false,ĉ,beq_self_eq_true]at h;rcases h with h |h
     .exact absurd (Ò h) (hc (x,k) Ø)
     .exact absurd (Ò h) hk
   .have c:(x==n)=false:=beq_eq_false_iff_ne.mpr b
    have d:∀a:NameKind,wfe x ((if (k==Ģ&&env.scope.kind == .function&&env.kindOf n==ρ .cell)=true then(n,ι) else(n,k))::(r.map λ(n,k)=>if (k==Ģ&&env.scope.kind == .function&&env.kindOf n==ρ .cell) then(n,ι) else(n,k)))=ρ a ->
     (r.map λ(n,k)=>if (k==Ģ&&env.scope.kind == .function&&env.kindOf n==ρ .cell) then(n,ι) else(n,k)).lookup x=ρ a:=by
     intro a e;split at e
     .simpa only[ĉ,c] using e
     .simpa only[ĉ,c] using e
    let{m,o,p}:=i (h.imp (d _) (d _))
    exact{m,Ô _ o,p}
 exact key scope.names g h
theorem Ew(h:nZ J l g j r H Q):yu (bR 0) 1 J l g j r H Q:=
 let ⟨W,a,t⟩:=h
 {W,a,λi m d e w=>let ⟨p,q⟩:=t i m d e w;{p,q.imp id λ⟨a,b,c⟩=>{a,b,λx f k n y=>by revert k;refine Cw 1 _ ?_;exact λ_=>{{[ρ x],rfl,rfl},c x f y}}}}
theorem vv(h:scope.names.lookup x=ρ .free):(relabel scope env).names.lookup x=ρ .cell\/(relabel scope env).names.lookup x=ρ .free:=by
 unfold relabel;dsimp only
 have key:∀(names:List (Str×NameKind)),names.lookup x=ρ .free ->
  ((names.map λ(n,k)=>if (k==Ģ&&env.scope.kind == .function&&env.kindOf n==ρ .cell) then(n,ι) else(n,k)).lookup x=ρ .cell \/
   (names.map λ(n,k)=>if (k==Ģ&&env.scope.kind == .function&&env.kindOf n==ρ .cell) then(n,ι) else(n,k)).lookup x=ρ .free):=by
  intro names
  induction names with
  |nil=>intro h;simp at h
  |cons y r c=>
   let{n,k}:=y
   intro h;rw[Ó];dsimp only
   by_cases b:x=n
   .subst b
    have hk:k=.free:=by
     rw[ĉ]at h;simp only[beq_self_eq_true]at h;exact Ò h
    subst hk;split
    .left;simp[ĉ]
    .right;simp[ĉ]
   .have a:(x==n)=false:=beq_eq_false_iff_ne.mpr b;rw[ĉ,a]at h;have q:=c h;split
    .simpa only[ĉ,a] using q
    .simpa only[ĉ,a] using q
 exact key scope.names h
theorem et{Ok:Hp->Prop}{Q:Hp->Prop}(p:V->Bool)(g:V->V)(T:kq J Ok xs)(hl:H l=τ)(hz:xs.9<=sizeLine)(t:∀j,a8 H j->Ok j)
 (U:∀x r C,x∈xs->a8 H r->(∀j,a8 r j->C (p x) j)->tt (ρ x::I) r C)
 (he:∀x r C,x∈xs->p x=true->a8 H r->(∀j,a8 r j->C (g x) j)->te (ρ x::I) r C)
 (hd:∀j,a8 H j->j l=ρ (.lst ((xs.filter p).map g))->Q j):nZ J l I tt te H Q:=by
 refine{λi m n d=>m=xs.9-i/\i<=xs.9/\a8 H d/\d l=ρ (.lst n)/\n=((xs.take i).filter p).map g,{xs.9,by simp,Û _,a8.upd hl,a6,by simp},?_};rintro i m n d ⟨rfl,hi,c,h,k⟩;refine{h,?_}
 by_cases a:i<xs.9
 .refine .inr {T.go i d (t _ c) a,?_,λx r y=>?_}
  .rw[k,À];refine ę (Ħ _ _) ?_;rw[Ú];omega
  .let{e,s}:=T.uY i d x r (t _ c) a y
   subst e;have mem:x∈xs:=Ð s;have u:xs.take (i+1)=xs.take i++[x]:=by rw[ý,s];rfl
   refine U x _ _ mem c λw f=>?_
   cases q:p x with
   |false=>
    rw[if_neg ã];refine{xs.9-(i+1),1.0,rfl,a,c.trans f,f _ _ h,?_};rw[u,ń,k];simp[q]
   |true=>
    rw[if_pos rfl];refine he x _ _ mem q (c.trans f) λz v=>?_;refine{v _ _ (f _ _ h),xs.9-(i+1),1.0,rfl,a,?_,a6,?_}
    .intro b o e;rw[ae (af e hl)];exact v _ _ (f _ _ (c _ _ e))
    .rw[u,ń,k];simp[q]
 .have e:i=xs.9:=1.0;subst e;refine .inl {T.stop d (t _ c),hd d c ?_};rw[h,k,ë]
theorem Ir(hk:kvs.map (·.1)=g.map (Å:Str->Key))(rel:KV kvs vs)(hl:us.9=vs.9)
 (l:∀(j:Nat) (u:Value),us[j]?=ρ u->∃k x,vs[j]?=ρ (k,x)/\(bA P w).is k u=true):StrsAre us g:=by
 have e:vs.map (·.1)=g.map (Å:Str->Key):=rel.keys ▸ hk;clear hk rel
 induction g generalizing us vs with
 |nil=>
  have:vs=[]:=by cases vs with |nil=>rfl |cons a b=>simp at e
  subst this;have:us=[]:=wen.mp hl;subst this;exact .nil
 |cons k g i=>
  cases vs with
  |nil=>simp at e
  |cons v vs=>
   cases us with
   |nil=>simp at hl
   |cons u us=>
    rw[Ó,Ó]at e;injection e with m n
    let{f,x,o,p}:=l 0 u rfl
    have c:v=(f,x):=by simpa using o
    subst c;have d:f=(Å k:Key):=m;subst d
    let{t,rfl}:=whc (x:=k) (v:=u) p
    exact .cons k t (i (by simpa using hl) (λj q h=>l (j+1) q (by simpa using h)) n)
theorem yx:∀{kvs:List (Key×V)} {vs:List (Key×Value)} {us:List Value},KV kvs vs->us.9=vs.9 ->
 (∀(j:Nat) (u:Value),us[j]?=ρ u->∃k x,vs[j]?=ρ (k,x)/\(bA P w).is k u=true)->Vals (kvs.map λg=>kV g.1) us
 |_,_,us,.nil,hl,_=>by
  have:us=[]:=wen.mp hl;subst this;exact .nil
 |_,_,us,.cons (a:=p) (b:=q) r t,hl,d=>by
  cases us with
  |nil=>simp at hl
  |cons u us=>
   let{f,x,l,m}:=d 0 u rfl
   have c:q=(f,x):=by simpa using l
   subst c;refine .cons ?_ (yx t (by simpa using hl) λj n h=>d (j+1) n (by simpa using h));have e:p.1=f:=r.1;show RelV (kV p.1) u;rw[e];rcases cq m with⟨i,t,rfl,rfl⟩ |⟨y,t,rfl,rfl⟩
   .exact⟨t,rfl⟩
   .exact⟨t,rfl⟩
theorem vx{X:Cx}{g:List (Addr×Obj)}{σ:St}{H:Hp}{s:Shared}{l:List Addr}{x y:V}{u v:Value}{j:Heap}(tk:Nat)(I:Inv X g σ H s)(p:∀b∈l,uZ X g H b)(kp:∀b o,b∉l->s.heap.get? b=ρ o->j.get? b=ρ o)
 (t:j.get? s.8=ρ {cls:=.type "tuple",data:=.seq #[u,v]}) (C:RelV y u) (J:RelV x v) (hl:∀b∈l,b<s.8) :
 H s.8=τ/\Inv X g σ (upd H s.heap.objs.size (.tup [y,x])) {s with heap:=j,gens:=s.gens,drawn:=s.drawn,toks:=tk}/\∀b∈l,upd H s.heap.objs.size (.tup [y,x]) b=τ:=by
 have d:=I.b6.fresh (Ä s.8);have e:∀b o,H b=ρ o->b∉l:=λb o q z=>by rw[(p b z).1]at q;cases q
 have f:ku X.prog X.w (upd H s.heap.objs.size (.tup [y,x])) j:=by
  intro b o q
  by_cases a:b=s.8
  .subst a;rw[a6]at q;cases q;exact{by show 2<=sizeLine;decide,[u,v],.cons C (.cons J .nil),{_,t,rfl,1}}
  .rw[ae a]at q;refine(I.b6 b o q).ur (λc v hc r=>?_) (λc r=>by rw[ae (af r d)];exact r) λc i r=>by rw[ae (af r d)];exact r
   rcases hc with z |z
   .rw[z]at r ⊢;exact kp b v (e b o q) r
   .exact kp c v (e c _ z) r
 refine{d,?_,λb a=>by rw[ae (Ù (hl b a))];exact(p b a).1}
 refine I.step (ch:=l) (λb a=>?_) (λb o _ _ hc q _=>kp b o hc q) (λb o _ _ hc q _=>{o.slots,kp b o hc q}) (λb o _ q n=>by rw[ae (Ù (Ì q))];exact n) (λb o hc q=>{o,kp b o hc q})
  (λb i r=>by rw[ae (af r d)];exact r) (λb o u r=>by rw[ae (af r d)];exact r) (λb ps r=>{#[],by rw[ae (af r d),r];simp})
  (λm ⟨o,k,A,h,r⟩=>{o,k,A,kp _ o (λz=>(p _ z).2.1 rfl) h,r}) f I.bare
 let{_,f1,_,B,D,E}:=p b a
 exact⟨B,f1,D,E⟩
theorem mr{K:Á}{a:Addr}{xs:List V}{g:TG}{C:TS}{D:Ends}{σ:St}{H:Hp}(Pv:Nat->St->Hp->Prop)(h0:Pv 0 σ H)(hl:∀i σ H,i<=xs.9->Pv i σ H->aO K H a xs)
 (hs:∀i x σ H T,xs[i]?=ρ x->Pv i σ H->H T=τ->g (.ref T) σ (upd H T (.tup [.int (i:Nat),x])) λj t=>C (D.lp (Pv (i+1))) j t) (hd:∀σ H,Pv xs.length σ H->D.nx σ H) :
 ∃W:Nat->Nat->St->Hp->Prop,(∃m,W 0 m σ H)/\∀i m σ H,W i m σ H ->
  ((Qp K a).stop i H/\D.nx σ H)\/((Qp K a).go i H/\∃N:St->Hp->Prop,(∀l r,N l r->∃I,I<m/\W (i+1) I l r)/\∀x r,(Qp K a).uY i H x r->g x σ r λj t=>C (D.lp N) j t):=by
 refine{λi m σ H=>m=xs.9-i/\i<=xs.9/\Pv i σ H,{xs.9,by simp,Û _,h0},?_};rintro i m σ H ⟨rfl,hi,p⟩;have q:=hl i σ H hi p
 by_cases b:i<xs.9
 .refine .inr {{xs,xs[i],q,by simp[b]},Pv (i+1),λl r c=>{xs.9-(i+1),1.0,rfl,b,c},λx r y=>?_}
  let{T,d,f,h,k,y}:=y
  subst h k;exact hs i d σ _ T (y xs q) p f
 .have e:i=xs.9:=1.0;subst e;exact .inl {{xs,q,Ä _},hd σ H p}
noncomputable def sU(σ:List Str)(v:Str):List Str:=if σ.any (· == v)=true then σ else σ++[v]
noncomputable def dn(val:Nat->Str)(i:Nat):List Str:=((Ö i).map val).foldl sU []
theorem j8(val:Nat->Str)(i:Nat):dn val (i+1)=sU (dn val i) (val i):=by
 delta dn;rw[Δ,Ü,weo];rfl
theorem yy(val:Nat->Str):∀i,(dn val i).9<=i
 |0=>Ä _
 |i+1=>by
  rw[j8];delta sU;have a:=yy val i;split
  .lia
  .grind
theorem FC(σ:List Str)(v k:Str):(sU σ v).any (· == k)=(σ.any (· == k) ||decide (k=v)):=by
 delta sU
 by_cases h:σ.any (· == v)=true
 .rw[if_pos h]
  by_cases e:k=v
  .subst e;rw[h];simp
  .simp[e]
 .rw[if_neg h,List.any_append]
  by_cases e:k=v
  .subst e;simp
  .have a:(v==k)=false:=by simpa [beq_iff_eq] using(λb:v=k=>e b.symm)
   simp[a,e]
theorem zK(σ:List Str)(v:Str):(sU σ v).9=if σ.any (· == v) then σ.length else σ.9+1:=by
 delta sU;split<;>simp
theorem CJ{X:Cx}(g:X.env.scope=l)(r:X.N=N)(h:oO l scope N x ys p=true):cb X scope x ys p:=by
 unfold oO at h;simp only[ś]at h
 let{{{{{{{b,d},f},k},m},n},o},s}:=h
 refine{?_,λy a=>?_,λy a e=>?_,of_decide_eq_true m,λy a e=>?_,of_decide_eq_true n,of_decide_eq_true o,λj y c=>?_}
 .cases e:scope.kind<;>rw[e]at b<;>first |rfl |cases b
 .have:=õ.mp d y a;simpa using this
 .have:=õ.mp f y a;simpa [e] using this
 .have:=õ.mp k y a;have q:l.names.lookup y.1=ρ .cell\/l.names.lookup y.1=ρ .free:=by simpa [e] using this
  show X.env.scope.names.lookup y.1=ρ .cell\/X.env.scope.names.lookup y.1=ρ .free;rw[g];exact q
 .have hl:j<ys.9:=(Ñ.mp c).1;have:=õ.mp s j (Ą.mpr hl);rw[c]at this
  cases e:p[j]? with
  |none=>rw[e]at this;cases this
  |some i=>
   rw[e]at this;simp only[ś,wie,decide_eq_true_eq]at this;exact{i,rfl,by rw[r];exact this.1.1,by rw[g];exact this.1.2,this.2}
theorem iO{X:Cx}{K:Á}(g:X.K=K):me X (ô .In) (TZ K false):=by
 subst g;exact rK
theorem xK{X:Cx}{K:Á}(g:X.K=K):me X (ô .NotIn) (TZ K true):=by
 subst g;exact kz
noncomputable def lE(ks:List Str):List (Key×V):=ks.map λk=>((Å k:Key),V.bl true)
theorem CK(g:List Str):(lE g).map (·.1)=g.map (Å:Str->Key):=by
 delta lE;rw[Î];rfl
theorem FD(g:List Str):(lE g).9=g.9:=by delta lE;rw[À]
noncomputable def mw(es:List (Key×V))(Oy:List Str):Bool:=(es.map (·.2)).any λe=>pO e (Oy.map V.str)
theorem Iu{e:V}{a b:List Str}(h:∀k∈a,k∈b)(q:pO e (a.map V.str)=true):pO e (b.map V.str)=true:=by
 unfold pO at q ⊢
 let{y,c,d}:=ō.mp q
 let{k,hk,rfl}:=Æ.mp c
 exact ō.mpr {_,Æ.mpr {k,h k hk,rfl},d}
theorem CM{g:List (Key×V)}{a b:List Str}(h:∀k∈a,k∈b)(q:mw g a=true):mw g b=true:=by
 unfold mw at q ⊢
 let{y,c,d}:=ō.mp q
 exact ō.mpr {y,c,Iu h d}
structure RE(ks:List Str)(es:Str->List (Key×V))(ls:List Str):Prop where
 sub:ls.Sublist ks
 FE:∀k∈ls,mw (es k) ls=true
 most:∀Oy:List Str,(∀k∈Oy,k∈ks/\mw (es k) Oy=true)->∀k∈Oy,k∈ls
theorem iG(h:k∈mv.map (·.1)):∃a,(k,a)∈mv/\bD (cN mv) (Å k:Key)=ρ (.ref a):=by
 induction mv with
 |nil=>simp at h
 |cons m mv c=>
  let{j,b}:=m
  by_cases e:j=k
  .subst e;exact{b,Ø,cu rfl}
  .have d:k∈mv.map (·.1):=by
    rcases à.mp h with z |z
    .exact absurd z.symm e
    .exact z
   let{a,ha,q}:=c d
   refine{a,Ô _ ha,?_};unfold cN;rw[Ó,cw (λz=>e (Ě z))];exact q
theorem Iv{Ok:Hp->Prop}{Q:Hp->Prop}(R:V->Prop)(r:kq J Ok xs)(hl:H l=τ)(C:xs.9<=sizeLine)(j:∀g,a8 H g->Ok g)
 (he:∀x p I,x∈xs->a8 H p->(∀y g,R y->a8 p g->I y g)->T (ρ x::t) p I)
 (hd:∀ys g,a8 H g->ys.9=xs.9->(∀y∈ys,R y)->g l=ρ (.lst ys)->Q g):nZ J l t xI T H Q:=by
 refine{λi m ys a=>m=xs.9-i/\i<=xs.9/\a8 H a/\a l=ρ (.lst ys)/\ys.9=i/\∀y∈ys,R y,{xs.9,by simp,Û _,a8.upd hl,a6,rfl,λy f=>(nomatch f)},?_};rintro i m ys a ⟨rfl,hi,d,h,k,n⟩;refine{h,?_}
 by_cases c:i<xs.9
 .refine .inr {r.go i a (j _ d) c,(),λx p y=>?_}
  let{e,u}:=r.uY i a x p (j _ d) c y
  subst e;delta xI;dsimp only;rw[if_pos rfl];refine he x _ _ (Ð u) d λz v C s=>?_;refine{s _ _ h,xs.9-(i+1),(),rfl,c,?_,a6,by simp[k],λy f=>?_}
  .intro b o e;rw[ae (af e hl)];exact s _ _ (d _ _ e)
  .rcases ä.mp f with q |q
   .exact n y q
   .have:y=z:=by simpa using q
    subst this;exact C
 .have e:i=xs.9:=();subst e;exact .inl {r.stop a (j _ d),hd ys a d k n h}
noncomputable def roundF(ss:List Str)(es:Str->List (Key×V))(Oy:List Str):List Str:=ss.filter λp=>mw (es p) Oy
noncomputable def rounds(ss:List Str)(es:Str->List (Key×V)):Nat->List Str
 |0=>ss
 |n+1=>roundF ss es (rounds ss es n)
theorem L6.low{lo j:Nat}{H:Hp}{h:Heap}{e C:Addr}{od:Option Addr}(F:L6 lo H h e C od)(hl:j<=lo):L6 j H h e C od:=by
 let{g,n,i,sl,k,l,f}:=F
 refine{Í hl g,n,i,sl,k,l,?_};rcases f with f |⟨T,m,o,a,b,c,d⟩
 .exact .inl f
 .exact .inr {T,m,o,a,Í hl b,c,d}
theorem o4{X:Cx}(g:Es X E):Passes (uM X.prog X.w) X E:=λa σ H s k d I h=>by
 let{e,C,f,i,rfl,c,bare,un,b6,F,j}:=h
 exact g a σ i d e C f (I.vp c un b6 bare λb z=>absurd z (by simp)) (F.low I.sz) j
theorem CQ{X:Cx}(I:Inv X g σ H s)(e:H d=ρ (.frz o (.dK kvs)))(j:o.data=.dict p ep) :
 ∃vs,KV kvs vs/\s.heap.DictAt (bA X.prog X.w) d vs ep:=by
 let{f,_}:=I.b6 d _ e
 let{_,_,vs,rel,h,a,i,b,k,c,l}:=lD I.b6 (.inr ⟨o,e⟩)
 refine{vs,rel,h,a,b,k,?_,l};rw[f]at b;cases b;rw[c]at j;cases j;exact c
theorem eN.f{H:Hp}{a:Addr}{o:Obj}{kvs:List (Key×V)}{k:Key}(e:H a=ρ (.frz o (.dK kvs))):eN H a (kV k) (bD kvs k):=.inl {kvs,k,.inr ⟨o,e⟩,rfl,rfl}
noncomputable def rL(f:Str->V)(ks:List Str):List (Key×V):=ks.map λp=>((Å p:Key),f p)
theorem vy(f:Str->V)(h:k∈g):bD (rL f g) (Å k:Key)=ρ (f k):=by
 induction g with
 |nil=>simp at h
 |cons j g a=>
  by_cases e:j=k
  .subst e;exact cu rfl
  .unfold rL;rw[Ó,cw (λz=>e (Ě z))];exact a (by rcases à.mp h with z |z;exact absurd z.symm e;exact z)
theorem AU(f:Str->V)(g:List Str):(rL f g).9=g.9:=by unfold rL;rw[À]
theorem yz(f:Str->V)(g:List Str)(k:Str):rL f (g++[k])=rL f g++[((Å k:Key),f k)]:=by unfold rL;rw[Ü];rfl
noncomputable def LN(f:Str->Int):V->V:=λv=>match v with
 |.str z=>.int (f z)
 |_=>.non
theorem rM(f:Str->Int)(g:List Str):(g.map V.str).map (LN f)=(g.map f).map V.int:=by
 rw[Î,Î];rfl
theorem AV{R:It->Hp->Prop}(h:g d=ρ (.dK kvs)\/∃o,g d=ρ (.frz o (.dK kvs)))
 (k:∀o j,j d=ρ (.frz o (.dK kvs))->(∀c,c≠d->j c=g c)->R (LD d o kvs) j) :
 (g d=ρ (.dK kvs)/\∀o,R (LD d o kvs) (upd g d (.frz o (.dK kvs))))\/∃o,g d=ρ (.frz o (.dK kvs))/\R (LD d o kvs) g:=by
 rcases h with h |⟨o,h⟩
 .exact .inl {h,λo=>k o _ a6 λc hc=>ae hc}
 .exact .inr {o,h,k o _ h λc _=>rfl}
theorem b8.keep(t:b8 H rs g)(k:∀r xs,H r=ρ (.tup xs)->j r=ρ (.tup xs)):b8 j rs g:={t.1,λi r xs a b=>k _ _ (t.2 i r xs a b)}
theorem eN.rd{H:Hp}{a:Addr}{kvs:List (Key×V)}{k:Key}(e:Rd H a (.dK kvs)):eN H a (kV k) (bD kvs k):=.inl ⟨kvs,k,e,rfl,rfl⟩
theorem FG(h:vd kvs=true)(e:bD kvs k=ρ v):eh v=true:=by
 unfold bD at e
 cases q:kvs.find? λa=>decide (a.1=k) with
 |none=>rw[q]at e;cases e
 |some a=>
  rw[q]at e;have:=õ.mp h a (List.mem_of_find?_eq_some q);cases e;exact this
theorem oR{α:Type}(p:Nat->Bool)(x:α):∀(k:Nat) (xs:List α),bj p k (xs++[x])=bj p k xs++(if p (k+xs.9) then[x] else[])
 |k,[]=>by
  show (if p k then x::[] else[])=[]++_;rw[wdY];rfl
 |k,y::xs=>by
  have e:k+(y::xs).9=k+1+xs.9:=by grind
  rw[e];show (if p k then y::bj p (k+1) (xs++[x]) else bj p (k+1) (xs++[x]))=(if p k then y::bj p (k+1) xs else bj p (k+1) xs)++_;rw[oR p x (k+1) xs];cases p k<;>rfl
theorem nL{α:Type}(p:Nat->Bool):∀(k:Nat) (xs:List α),(bj p k xs).9<=xs.9
 |_,[]=>Ä _
 |k,x::xs=>by
  have:=nL p (k+1) xs;show (if p k then x::bj p (k+1) xs else bj p (k+1) xs).9<=xs.9+1
  cases p k with
  |true=>show (bj p (k+1) xs).9+1<=_;omega
  |false=>show (bj p (k+1) xs).9<=_;omega
theorem yA{α β:Type}(f:α->β)(p:Nat->Bool):∀(k:Nat) (xs:List α),bj p k (xs.map f)=(bj p k xs).map f
 |_,[]=>rfl
 |k,x::xs=>by
  show (if p k then f x::bj p (k+1) (xs.map f) else bj p (k+1) (xs.map f))=(if p k then x::bj p (k+1) xs else bj p (k+1) xs).map f;rw[yA f p (k+1) xs];cases p k<;>rfl
theorem bz.pick{K:Á}{H:Hp}(p:Nat->Bool):∀(k:Nat) (g:List kj) (xs:List V),bz K H g xs->bz K H (bj p k g) (bj p k xs)
 |_,[],xs,h=>by
  have e:xs=[]:=h;subst e;rfl
 |k,d::g,_,h=>by
  let{v,a,rfl,c,hl}:=h
  have b:=bz.pick p (k+1) g a hl;show bz K H (if p k then d::bj p (k+1) g else bj p (k+1) g) (if p k then v::bj p (k+1) a else bj p (k+1) a)
  cases p k with
  |true=>exact{v,_,rfl,c,b}
  |false=>exact b
theorem under(n:Nat){P:Int->Prop}(h:∀k:Fin n,P ((k.val:Nat):Int))(d:Int)(a:0<=d)(b:d<(n:Int)):P d:=by
 let{k,rfl}:=wg6 a
 exact h {k,Int.ofNat_lt.mp b}
theorem ax{X:Cx}(ys:List Str)(ix:List Nat)(h:oO X.env.scope scope X.N x ys ix=true:=by kernel_rfl):cb X scope x ys ix:=CJ rfl rfl h
inductive Vf(a:Addr)(y z:V)(H:Hp)(Q:VK):Prop
 |mk (kvs k) (_:H a=ρ (.dK kvs)) (_:y=kV k) (_:(putK kvs k z).9<=sizeLine) (_:∀v,bD kvs k=ρ v->Q v H) (_:bD kvs k=τ->Q z (upd H a (.dK (putK kvs k z))))
def RF(td ty tx:TE):TE:=λσ H Q=>td σ H λx H1=>∃a,x=.ref a/\UL H1 a/\ty σ H1 λy H2=>tx σ H2 λz H3=>Vf a y z H3 Q
section
variable{X:Cx}{e:Expr}{es:List Expr}{te:TE}{t:TJ}{pos:Pos}
theorem bc(he:PE X e te)(hs:Ċ e τ pos.line X.5=pure false:=by rfl):PS X (.Expr e pos) (Rv te):=by
 refine{?_};intro a s σ H D I h;exact wpAny_Expr_any (bQ (he a s σ H _ I h) λv f ⟨x,b,c,g,d⟩=>⟨σ,b,c,d⟩) I.quiet hs
theorem aw(he:PE X e te):PS X (.Return (ρ e) pos) (V5 te):=by
 refine{?_};intro a s σ H D I h;exact wpAny_Return_some (bQ (he a s σ H _ I h) λv g ⟨x,b,c,d,f⟩=>⟨x,σ,b,c,d,f⟩)
theorem CT(l:X.A.units<ò):me X (ô .Eq) (UW X.K):=by
 intro m s σ H x y v u Q I C D h
 let{a,b,f,g,rfl,rfl,ha,E,G,J,q}:=h
 cases C;cases D
 let{d,n,o,_}:=I.list ha
 let{c,p,r,_}:=I.list E
 have L:=n.9;have U:=p.9
 by_cases hl:f.9=g.9
 .refine wif (e:=λj=>rG (f.getD j .non) (g.getD j .non)) o.isList r.isList (by simp only[å];lia) l (λj M N=>?_) ?_
  .have i:j<d.9:=by simpa using M
   have k:j<c.9:=by simpa using N
   have t:f[j]?=ρ (f.getD j .non):=by rw[Ë];simp[show j<f.length by lia]
   have w:g[j]?=ρ (g.getD j .non):=by rw[Ë];simp[show j<g.length by lia]
   let{O,z,R}:=n.get t
   let{S,B,T}:=p.get w
   have g1:d.toArray[j]=O:=by
    have:d[j]?=ρ d[j]:=by simp[i]
    rw[this]at z;simpa using Ò z
   have g2:c.toArray[j]=S:=by
    have:c[j]?=ρ c[j]:=by simp[k]
    rw[this]at B;simpa using Ò B
   rw[g1,g2];exact zC R T (õ.mp G _ (Ð t)) (õ.mp J _ (Ð w))
  .rw[oP hl]at q;refine{.bl _,H,I,rfl,?_};rw[å,<-L];exact q
 .refine SeqAt.eq_list_lengthsAt o.isList r.isList (by simp only[å,bne_iff_ne];lia) l {.bl false,H,I,rfl,?_};rw[AI hl]at q;exact q
noncomputable def Vg(z:Str)(t:TJ):TJ:=λacc σ H Q=>(acc++z).9<=sizeLine/\t (acc++z) σ H Q
noncomputable def Vh(te:TE)(t:TJ):TJ:=λacc σ H Q=>te σ H λv H1=>(∃i,v=.int i/\i.natAbs.log2<1920/\(acc++(toString i:String)).length<=sizeLine/\t (acc++(toString i:String)) σ H1 Q)\/(∃z,v=.str z/\z.9<=sizeLine/\(acc++z).9<=sizeLine/\t (acc++z) σ H1 Q)
theorem zL(h:PJ X (e::g::es) t):PE X (.JoinedStr (e::g::es) pos) (λσ H Q=>t Str.empty σ H λz j=>Q (.str z) j):={λa s σ H Q I q=>
 JoinedStr_many (bQ (h a s σ H _ _ I q) λu f ⟨z,b,c,r,d⟩=>{.str z,b,c,r,d})}
theorem AP.eP{E:Value->Shared->Prop}{Q:List V->Hp->Prop}(h:AP (X.kl E) g σ Q us s'):AP X g σ Q us s':=by
 let{a,b,I,r,q}:=h
 exact⟨a,b,I.eP,r,q⟩
end
section
variable{C:Addr}{sp:Sp}{x m:Str}{ta:TE}{t:TA}
theorem CV{α:Type}{M:Model}{A:Around}{m:Sem α}{Q:α->Shared->Prop}{E:Value->Shared->Prop}{s:Shared}(h:wpAny M A m Q (λ_ _=>False) s):wpAny M A m Q E s:=í h (λ_ _ x=>x) λ_ _ z=>z.elim
noncomputable def Oz(C:Addr)(m:Str)(sp:Sp)(ta:TE)(t:TA):Np:=λE σ H Q=>ta σ H λx H1=>Xy C m x H1 (t σ H1 λvs H2=>sp (x::vs) H2 Q E)
noncomputable def OA(C:Addr)(sp:Sp)(t:TA):Np:=λE σ H Q=>t σ H λvs H1=>∀x dx,H1 x=τ->H1 dx=τ->dx≠x ->
 sp (.ref x::vs) (upd (upd H1 dx (.own x)) x (.ins C dx [])) (λv H2=>v=.non/\Q (.ref x) H2) E
inductive RG(x y:V)(H:Hp)(Q:VK):Prop
 |mk (l b xs zs) (_:x=.ref l) (_:y=.ref b) (_:Rd H l (.lst xs)) (_:Rd H b (.lst zs)) (_:xs.9+zs.9<=sizeLine) (_:∀p,H p=τ->Q (.ref p) (upd H p (.lst (xs++zs))))
end
section
variable{M:Model}{A:Around}{E:Value->Shared->Prop}{s:Shared}{base:Heap}{env:Env}{outer:List Env}{L e C:Addr}{od:Option Addr}{lo:Nat}{H:Hp}
structure CW(lo:Nat)(H:Hp)(fs:List Addr)(h h':Heap):Prop where
 keep:∀b o,h.get? b=ρ o->(b<lo\/H b≠τ)->b∉fs->h'.get? b=ρ o
 slot:∀b o,h.get? b=ρ o->b∈fs->∃sl,h'.get? b=ρ {o with slots:=sl}
theorem yB{Q:Unit->Shared->Prop}
 (RH:A.frames=ρ (env::outer)) (hl:s.heap.FunFrames base (env::outer)) (hf:env.frame=ρ L) (RJ:lo<=s.8) (RK:∀b,s.8<=b->H b=τ) (RL:lo<=e) (Vi:H e=τ)
 (he:s.heap.get? e=ρ oe) (yC:oe.cls=.ref C) (XG:oe.dict=od) (hd:oe.data=.fields vs) (hsz:1<vs.size)
 (h:∀h',L6 lo H h' e C od->CW lo H ((env::outer).filterMap (·.frame)) s.heap h'->Q .unit {s with heap:=h'}) :
 wpAny M A (do let a <-frameOf env;let pl <-entryPlaceOf L U0;let b <-whe head a .none (rawInt L) .none pl;setField (.ref e) 1 b) (λ_ s'=>wpAny M A (wgh (.ref e) τ) Q E s') E s:=by
 have RM:e∉(env::outer).filterMap (·.frame):=λhm=>by
  let{_,o,ho,Vj}:=hl.mem hm
  rw[he]at ho;injection ho with ho;subst ho;exact Vj vs hd
 refine Â (wpAny_frameOf_fun RH hl hf λh₁ RN=>?_);refine Â (wpAny_entryPlaceOf λpl hpl=>?_);unfold whe newFields;refine Â (wfw ?_ (hpl.sizeOk5 _ _ _ _ _));have XH:h₁.get? e=ρ oe:=(RN.2.1 e RM).trans he;have XI:=Õ (h:=h₁) {cls:=.type "traceback",dict:=τ,data:=.fields ([head,.ref L,.none,rawInt L,.none]++(if pl.isEmpty then Ý 6 Ĉ else pl)).6} XH;refine wfa XI hd hsz ?_;have Vk:h₁.objs.size≠e:=ı (Ì XH);have XJ:=wdq hd (·.setIfInBounds 1 (È h₁.7));have XM:=Ū (μ (·.setIfInBounds 1 (È h₁.7))) XI (weG XJ)
 have XO:=(đ (h₁.push {cls:=.type "traceback",dict:=τ,data:=.fields ([head,.ref L,.none,rawInt L,.none]++(if pl.isEmpty then Ý 6 Ĉ else pl)).6})
  (μ (·.setIfInBounds 1 (È h₁.7))) (æ Vk)).trans (è h₁ rfl)
 unfold wgh;refine Â (Ι XM XJ (x:=.ref h₁.7) (by simp[hsz]) ?_);rw[if_pos (show (È h₁.objs.size != Ĉ)=true from by simp)];refine wfa XO rfl (by simp only[å,É,ê,weS]<;>lia) (h _ ?_ ?_)
 .refine{RL,Vi,vs.setIfInBounds 1 (.ref h₁.7),oe.slots,?_,by simpa using hsz,.inr {h₁.7,_,_,by simp[hsz],by rw[RN.1];exact RJ,RK _ (by rw[RN.1];exact Ä _),Vk,
   Ū _ XO (weG (wdq rfl _)),wdq rfl _,by first |(simp;done) |(rcases hpl with rfl |⟨_,_,_,_,_,_,_,rfl⟩<;>simp)}}
  rw[đ _ _ Vk,XM]
  let{c,d,dt,sl}:=oe
  dsimp only at yC XG hd;subst yC XG hd;rfl
 .have keep:∀b o,b≠e->h₁.get? b=ρ o ->
   (((h₁.push {cls:=.type "traceback",dict:=τ,data:=.fields ([head,.ref L,.none,rawInt L,.none]++(if pl.isEmpty then Ý 6 Ĉ else pl)).6}).update e (μ (·.setIfInBounds 1 (È h₁.7)))).update h₁.7
     (μ (·.setIfInBounds 3 ((τ:Option Addr).elim Ĉ λf=>rawInt f)))).get? b=ρ o:=λb o hbe hb=>by
   have hbT:h₁.objs.size≠b:=ı (Ì hb);rw[đ _ _ hbT,đ _ _ (æ hbe)];exact Õ _ hb
  refine{λb o hb hx Vj=>keep b o ?_ ((RN.2.1 b Vj).trans hb),λb o hb hm=>?_}
  .rintro rfl;rcases hx with hx |hx
   .exact absurd (â hx RL) (ă _)
   .exact hx Vi
  .let{sl,hs}:=RN.2.2 b o hb
   exact{sl,keep b _ (λz=>RM (z ▸ hm)) hs}
theorem vz{Q:Unit->Shared->Prop}(p:A.frames=ρ (env::outer))(hl:s.heap.FunFrames base (env::outer))(I:env.frame=ρ L)(r:lo<=s.8)(g:∀b,s.8<=b->H b=τ)
 (F:L6 lo H s.heap e C od) (h:∀h',L6 lo H h' e C od->CW lo H ((env::outer).filterMap (·.frame)) s.heap h'->Q .unit {s with heap:=h'}) :
 wpAny M A (noteFrame (.ref e) env) (λ_ s'=>wpAny M A (wgh (.ref e) τ) Q E s') E s:=by
 let{m,n,z,sl,v,t,k}:=F
 unfold noteFrame;simp only[I];rcases k with k |⟨T,N,B,G,u,x,y,w,i,k⟩
 .refine Â (Ι v rfl k ?_);rw[if_neg ⋯];exact yB p hl I r g m n v rfl rfl rfl t h
 .refine Â (Ι v rfl G ?_);rw[if_pos (show (È T != Ĉ)=true from by simp)];refine Â (Ι w i k ?_);rw[if_neg (show ¬((Ĉ==rawInt L)=true) from by simp[rawInt])];refine Â (wfa w i (wfn.mp k).1 ?_);have other:∀b,b≠T->(s.heap.update T (μ (·.setIfInBounds 3 Ĉ))).get? b=s.heap.get? b:=λb a=>đ _ _ (æ a)
  have c:∀b o,s.heap.get? b=ρ o->(∀z,o.data≠.fields z)->b≠T:=λb o a d q=>by
   rw[q,w]at a;injection a with a;subst a;exact d B i
  have f:(s.heap.update T (μ (·.setIfInBounds 3 Ĉ))).7=s.8:=Heap.size_after_update ..;refine yB (s:={s with heap:=s.heap.update T (μ (·.setIfInBounds 3 Ĉ))}) p (hl.of_keeps λb o a d=>{o,(other b (c b o a d)).trans a,rfl}) I (by show lo<=_;rw[f];exact r) (λb a=>g b (by rw[<-f];exact a)) m n ((other e (æ y)).trans v) rfl rfl rfl t λh' J P=>h h' J {λb o a l hn=>P.keep b o ((other b ?_).trans a) l hn,λb o a D=>P.slot b o ((other b ?_).trans a) D}
  .rintro rfl;rcases l with l |l
   .exact absurd (â l u) (ă _)
   .exact l x
  .rintro rfl
   let{_,O,j,d}:=hl.mem D
   rw[w]at j;injection j with j;subst j
   exact d B i
theorem oS{Q:Unit->Shared->Prop}(F:L6 lo H s.heap e C od)(h:∀h',L6 lo H h' e C od->(∀b o,s.heap.get? b=ρ o->(b<lo\/H b≠τ)->h'.get? b=ρ o)->Q .unit {s with heap:=h'}) :
 wpAny M A (wgh (.ref e) τ) Q E s:=by
 let{g,i,p,sl,n,j,f}:=F
 unfold wgh;rcases f with f |⟨T,v,u,r,a,k,l,t,d,f⟩
 .refine Â (Ι n rfl f ?_);rw[if_neg ⋯];exact Ï (h _ {g,i,p,sl,n,j,.inl f} λb o q _=>q)
 .have c:3<u.size:=(wfn.mp f).1;refine Â (Ι n rfl r ?_);rw[if_pos (show (È T != Ĉ)=true from by simp)];refine wfa t d c (h _ {g,i,p,sl,?_,j,.inr {T,_,_,r,a,k,l,Ū _ t (weG (wdq d _)),wdq d _,by simp[c]}} λb o q m=>?_)
  .exact(đ _ _ l).trans n
  .refine(đ _ _ ?_).trans q;rintro rfl;rcases m with m |m
   .exact absurd (â m a) (ă _)
   .exact m k
end
section
variable{X:Cx}{st:Stmt}{rest:List Stmt}{t u:TS}
theorem a5(g:PS X st t)(j:xG X rest u):xG X (st::rest) (Ow t u):=by
 refine{?_};intro a s σ H D I h;refine ş (bQ (g a s σ H (D.L7 (u D)) I h) λf c q=>?_)
 cases f with
 |next=>
  let{b,d,e,q}:=q
  exact j a c b d D e q
 |ret v=>exact q
 |brk=>exact q
 |cont=>exact q
theorem a9(g:PS X st t):xG X [st] t:=by
 refine{?_};intro a s σ H D I h;refine ş (bQ (g a s σ H D I h) λf b q=>?_)
 cases f with
 |next=>exact ĵ q
 |ret v=>exact q
 |brk=>exact q
 |cont=>exact q
theorem Ex(g:PS X st t)(j:xG X rest u):xG X (st::rest) (Vc t u):=by
 refine{?_};intro a s σ H D I h
 let{Z,d,e}:=h
 refine ş (bQ (g a s σ H (D.L7 Z) I d) λf i q=>?_)
 cases f with
 |next=>
  let{b,c,k,q}:=q
  exact j a i b c D k (e b c q)
 |ret v=>exact q
 |brk=>exact q
 |cont=>exact q
end
section
variable{X:Cx}{st:Stmt}{rest:List Stmt}{tx ty:CA}
theorem mx(g:Ru X st tx):AO X [st] tx:=by
 refine{?_};intro a s σ H D E I h;refine ş (í (g a s σ H D E I h) (λf b q=>?_) λ_ _ z=>z)
 cases f with
 |next=>exact ĵ q
 |ret v=>exact q
 |brk=>exact q
 |cont=>exact q
noncomputable def Vl(tx ty:CA):CA:=λE D σ H=>tx E (D.L7 (ty E D)) σ H
theorem yD(g:Ru X st tx)(j:AO X rest ty):AO X (st::rest) (Vl tx ty):=by
 refine{?_};intro a s σ H D E I h;refine ş (í (g a s σ H (D.L7 (ty E D)) E I h) (λf c q=>?_) λ_ _ z=>z)
 cases f with
 |next=>
  let{b,d,e,q}:=q
  exact j a c b d D E e q
 |ret v=>exact q
 |brk=>exact q
 |cont=>exact q
end
section
variable{fs ex:List Addr}{H:Hp}{h h':Heap}{a:Addr}{o:HO}
theorem Un.kept(k:∀b u,h.get? b=ρ u->h'.get? b=ρ u):Un fs ex H H h h':=
 {λb ob q _ _ _=>k b ob q,λb ob q _ _ _=>{ob.slots,k b ob q},λ_ _ _ n _=>n,λb ob q _=>{ob,k b ob q},λ_ _ q=>q,λ_ _ _ q=>q,λ_ ps q=>{#[],by rw[q];simp}}
theorem Un.refl:Un fs ex H H h h:=Un.kept λ_ _ q=>q
theorem Un.laid(k:∀b u,h.get? b=ρ u->h'.get? b=ρ u)(g:h.7<=a)(hn:H a=τ):Un fs ex H (upd H a o) h h' where
 keep:=λb u q _ _ _=>k b u q
 slot:=λb u q _ _ _=>{u.slots,k b u q}
 free:=λb u q n _=>by rw[ae (Ù (â (Ì q) g))];exact n
 there:=λb u q _=>{u,k b u q}
 rD:=λb c q=>by rw[ae (af q hn)];exact q
 pD:=λb u c q=>by rw[ae (af q hn)];exact q
 rE:=λb ps q=>{#[],by rw[ae (af q hn),q];simp}
end
section
variable{X:Cx}{pins:List (Addr×Obj)}{σ:List (Option V)}{H:Hp}{s:Shared}{h':Heap}
theorem Inv.tok(I:Inv X pins σ H s)(t:Nat):Inv X pins σ H {s with toks:=t}:=I.un (h':=s.heap) (t':=t) Un.refl I.b6
theorem Inv.kept(I:Inv X pins σ H s)(k:∀b u,s.heap.get? b=ρ u->h'.get? b=ρ u):Inv X pins σ H {s with heap:=h',toks:=t'}:=I.un (Un.kept k) (I.b6.kept k)
theorem Inv.laid(I:Inv X pins σ H s)(k:∀b u,s.heap.get? b=ρ u->h'.get? b=ρ u)(g:s.8<=a)(new:bP X.prog X.w (upd H a o) h' a o) :
 Inv X pins σ (upd H a o) {s with heap:=h',toks:=t'}:=I.un (Un.laid k g (I.b6.fresh g)) (I.b6.laid k g new)
theorem aj{i j pos}:PE X (.Constant (.int i) j pos) (tC (.int i)):={λ_ _ _ H _ I h=>wpAny_Constant_int {.int i,H,I.tok _,{_,rfl},h}}
theorem cI{x j pos}:PE X (.Constant (.str x) j pos) (tC (.str x)):={λ_ _ _ H _ I h=>whu {.str x,H,I.tok _,{_,rfl},h}}
theorem Iw:TU X .Add (ipI λi j=>i+j):=by
 intro a s σ H x y v u Q I b c h
 let{i,j,d,e,q}:=h
 subst d;subst e
 let{t,rfl}:=b
 let{f,rfl}:=c
 exact iadd_int {.int _,H,I.tok _,{_,rfl},q}
theorem CY:Qr X UK:=by
 intro value slice a s σ H x y v u Q I b d h e
 let{z,i,c,rfl,rfl,m,f,q}:=h
 let{t,rfl}:=b
 let{n,rfl}:=d
 let{j,g,o,p,k,l}:=zx f
 have hl:z.cps.toList.9=z.9:=by simp[Ű]
 rw[hl]at g k l;have hn:=oN
 exact tail_any (typeIs_str s z t) slot_str_getitem.lookup (getItem_str (c:=c) (by
  grind) (by grind) {.str {#[c]},H,I.tok _,{_,rfl},q}) e
theorem CZ:PJ X [] UQ:={λb s σ H a Q I h=>joinParts_nil {a,H,I.tok _,{_,rfl},h.2} h.1}
end
section
variable{X:Cx}{tg:Expr}
theorem aS{l:Expr}{g:TE}(hl:PE X l g):PI X tg l (QR X.K g):=by
 refine{?_};intro c s σ H R I h;refine bQ (hl c s σ H _ I h) λv d ⟨x,i,f,j,k⟩=>?_
 let{a,e,{t,m},q}:=k
 subst e;cases j
 let{n,u,p,w}:=f.list m
 refine υ p.isList ?_;refine{d.8,[d.8],_,_,i,rfl,f.kept (t':=d.toks) λb o e=>Õ _ e,FA a _,{_,è _ rfl,rfl,rfl},λb r=>?_,q};have e:b=d.8:=by simpa using r
 subst e;exact f.zI (Ä _) (f.b6.fresh (Ä _))
theorem AW{g:List (Addr×Obj)}{σ:St}{H:Hp}{s:Shared}{R:It->Hp->Prop}{E:Value->Shared->Prop}{lo hi:Int}{t u v:Tok}{tk:Nat}(I:Inv X g σ H s)(j:-(2^62)<=lo)(l:lo<2^62)(p:-(2^62)<=hi)(r:hi<2^62)
 (q:R (Nh lo (hi-lo).toNat) H):wpAny (model X.prog X.w) X.A (pyIter (.ref s.8)) (Qq X g σ tg R) E {s with heap:=s.heap.push {cls:=.type "range",data:=.fields #[.int lo t,.int hi u,.int 1 v]},toks:=tk}:=by
 refine wpAny_pyIter_range (wis ..) (small_one j l p r) ?_;have a:Inv X g σ H {s with heap:=s.heap.push {cls:=.type "range",data:=.fields #[.int lo t,.int hi u,.int 1 v]},toks:=tk}:=I.kept λb o e=>Õ _ e
 refine{(s.heap.push {cls:=.type "range",data:=.fields #[.int lo t,.int hi u,.int 1 v]}).7,[(s.heap.push {cls:=.type "range",data:=.fields #[.int lo t,.int hi u,.int 1 v]}).7],_,_,H,rfl,
  a.kept (t':=tk) λb o e=>Õ _ e,CH _ lo (hi-lo).toNat,?_,λb c=>?_,q}
 .have d:lo+((0:Nat):Int)*1=lo:=by simp
  have f:(((hi-lo).toNat:Nat):Int)-((0:Nat):Int)=wdc lo hi 1:=by rw[wh7];split<;>lia
  show wgo _ _ (lo+((0:Nat):Int)*1) ((((hi-lo).toNat:Nat):Int)-((0:Nat):Int)) 1;rw[d,f];exact è _ rfl
 .have e:b=(s.heap.push {cls:=.type "range",data:=.fields #[.int lo t,.int hi u,.int 1 v]}).7:=by simpa using c
  subst e;exact a.zI (Ä _) (a.b6.fresh (Ä _))
theorem cR(g:Gl X "range")(l:X.mg "range"=τ)(ha:PA X [a] C)(hs:starEach [a] X.5=[(false,eval a X.5)]:=by rfl):PI X tg (.Call (.Name "range" p) [a] [] pos) (QS C):=by
 refine{?_};intro b s σ H R I h;refine Call_ (gN I g l boot_range (Ÿ (bQ (ha pos b s σ H _ I h) λm n ⟨o,u,d,f,c⟩=>?_) hs rfl))
 let{j,e,c,i,q}:=c
 subst e
 cases f with
 |cons r k=>
  cases k
  let{t,rfl}:=r
  exact call_range_1 (AW d () () c i (by simpa using q))
theorem rN(l:Gl X "range")(C:X.mg "range"=τ)(ha:PA X [a,b] J)(hs:starEach [a,b] X.5=[(false,eval a X.5),(false,eval b X.5)]:=by rfl)(g:starEach [b] X.5=[(false,eval b X.5)]:=by rfl) :
 PI X tg (.Call (.Name "range" p) [a,b] [] pos) (QT J):=by
 refine{?_};intro c s σ H R I h;refine Call_ (gN I l C boot_range (Ÿ (bQ (ha pos c s σ H _ I h) λw x ⟨y,z,k,m,d⟩=>?_) (by rw[hs,g]) (by rw[g];rfl)))
 let{i,j,e,{d,n,o,u},q}:=d
 subst e
 cases m with
 |cons r f=>
  cases f with
  |cons v f=>
   cases f
   let{t,rfl}:=r
   let{A,rfl}:=v
   exact call_range_2 (AW k d n o u q)
theorem D0(C:PassesOwn (model X.prog X.w) X.A X.env X.xe)(hc:X.calm=true)(hi:PI X tg iter wi)(hg:PG X tg g)(j:xG X body tb)
 (hs:∀x,Ś iter X.env x=pure x:=by intro _;rfl):PS X (.For tg iter body [] pos) (Rt wi g tb):=by
 refine{?_};intro a s σ H D I h;refine wpAny_For (bQ (hi a s σ H _ I h) λv s1 h1=>bQ h1 λUZ s2 h2=>?_) hs
 let{it,E,tn,J,H2,e,I2,T,R,f2,W,{m0,w0},G}:=h2
 subst e;have k:∀{y:Hp},(∀b∈E,y b=τ)->∀b∈E,uZ X a y b:=λhn b j=>{hn b j,(f2 b j).2};refine codeAny_forLoop_any (λn s'=>∃i l y,Inv X a l y s'/\tn i s'.heap/\(∀b∈E,y b=τ)/\W i n l y) ?_ m0 ⟨0,σ,H2,I2,R,λb j=>(f2 b j).1,w0⟩;rintro n s3 ⟨i,p,Q,I3,L,M,w3⟩;rcases G i n p Q w3 with⟨stop,qn⟩ |⟨go,N,hN,step⟩
 .refine ŵ C (bQ (T.done X rfl rfl rfl hc i a s3 p Q X.xe I3 (k M) L stop) λr s4 ⟨S,I4⟩=>?_);subst S;exact ĵ ⟨p,Q,I4,qn⟩
 .refine ŵ C (bQ (T.item X rfl rfl rfl hc i a s3 p Q X.xe I3 (k M) L go) λr s4 ⟨u,S,h4⟩=>?_);subst S;refine ŵ C (bQ h4 λ_ s5 ⟨x,H5,I5,r5,y5,B,U⟩=>?_);have V:=I5.pinned (k U) (T.obj _ _ B);refine ŵ C (bQ (hg _ s5 p H5 x u _ V r5 (step x H5 y5)) λ_ s6 ⟨Y,H6,I6,q6⟩=>?_);refine ŵ C (bQ (j _ s6 Y H6 _ I6 q6) λf Z z=>?_)
  have again:∀{c:St} {q:Hp},Inv X (a++va E s5.heap) c q Z->N c q->∃m,m<n/\∃i l y,Inv X a l y Z/\tn i Z.heap/\(∀b∈E,y b=τ)/\W i m l y:=λ{c q} t O=>by
   let{m',hm,w7}:=hN c q O
   refine{m',hm,i+1,c,q,t.pK,T.keep _ _ _ B λb j o e=>(t.pin (b,o) (ÿ _ (ÿ _ (km j e)))).1,λb j=>?_,w7}
   let{o,e,d}:=T.obj _ _ B b j
   exact(t.pin (b,o) (ÿ _ (ÿ _ (km j e)))).2.1
  cases f with
  |next=>let{c,q,t,O}:=z;exact again t O
  |cont=>let{c,q,t,O}:=z;exact again t O
  |brk=>let{c,q,t,z}:=z;exact⟨c,q,t.pK,z⟩
  |ret v=>let{x7,c,q,t,r7,z}:=z;exact⟨x7,c,q,t.pK,r7,z⟩
theorem U1{f:Value->Value->Sem Value}{C:Int->Int->Prop}{g:Int->Int->Int}
 (rule:∀(i j:Int) (t u:Tok) (s:Shared) (Q:Value->Shared->Prop) (E:Value->Shared->Prop),C i j->Q (.int (g i j) s.toks) {s with toks:=s.toks+1}->wpAny (model X.prog X.w) X.A (f (.int i t) (.int j u)) Q E s) :
 me X f (rI C λi j=>.int (g i j)):=by
 intro a s σ H x y v u Q I b c h
 let{i,j,rfl,rfl,hc,q}:=h
 let{t,rfl}:=b
 let{d,rfl}:=c
 exact rule i j t d s _ _ hc {.int (g i j),H,I.tok _,{_,rfl},q}
theorem RO{f:Value->Value->Sem Value}{g:Int->Int->Int}
 (rule:∀(i j:Int) (t u:Tok) (s:Shared) (Q:Value->Shared->Prop) (E:Value->Shared->Prop),Q (.int (g i j) s.toks) {s with toks:=s.toks+1}->wpAny (model X.prog X.w) X.A (f (.int i t) (.int j u)) Q E s) :
 me X f (Ni λi j=>.int (g i j)):=by
 intro a s σ H x y v u Q I b c h
 let{i,j,rfl,rfl,q}:=h
 let{t,rfl}:=b
 let{d,rfl}:=c
 exact rule i j t d s _ _ {.int (g i j),H,I.tok _,{_,rfl},q}
theorem bZ:me X (binaryOp .Add) (Ni λi j=>.int (i+j)):=RO λ_ _ _ _ _ _ _ q=>add_int q
theorem gf:me X (binaryOp .Sub) (Ni λi j=>.int (i-j)):=RO λ_ _ _ _ _ _ _ q=>sub_int q
theorem fo:me X (binaryOp .Mult) (rI Lr λi j=>.int (i*j)):=U1 λ_ _ _ _ _ _ _ hc q=>mul_int q hc.ok
theorem j9:me X (binaryOp .FloorDiv) (rI UJ λi j=>.int (i/j)):=U1 λi j _ _ _ _ _ hc q=>by
 have a:(0:Int)<j:=hc.1;have b:j<1073741824:=hc.2;exact floordiv_int 1.0 (by rw[wfo i 1.0];exact q) (.inl (wgr 1.0))
theorem cJ:me X (binaryOp .Mod) (rI (λ_ j=>0<j) λi j=>.int (i%j)):=U1 λi j _ _ _ _ _ hc q=>by
 have a:(0:Int)<j:=hc;exact mod_int' () (by rw[Int.fmod_eq_emod_of_nonneg i ()];exact q)
theorem unI{f:Value->Sem Value}{g:Int->Int}
 (rule:∀(i:Int) (t:Tok) (s:Shared) (Q:Value->Shared->Prop) (E:Value->Shared->Prop),Q (.int (g i) s.toks) {s with toks:=s.toks+1}->wpAny (model X.prog X.w) X.A (f (.int i t)) Q E s) :
 V0 X f (rU λi=>.int (g i)):=by
 intro a s σ H x v Q I b h
 let{i,rfl,q}:=h
 let{t,rfl}:=b
 exact rule i t s _ _ {.int (g i),H,I.tok _,{_,rfl},q}
theorem Iy:V0 X (unaryOp .USub) (rU λi=>.int (-i)):=unI λ_ _ _ _ _ q=>neg_int q
theorem cV:me X (binaryOp .Add) (λx y H Q=>∃i j,x=.str i/\y=.str j/\i.9+j.9<=sizeLine/\Q (.str (i++j)) H):=by
 intro a s σ H x y v u Q I b c h
 let{i,j,rfl,rfl,d,q}:=h
 let{t,rfl}:=b
 let{e,rfl}:=c
 exact add_str (λe f=>{.str (i++j),H,I.tok _,{_,rfl},q}) d
theorem AX:me X (inplaceOp .Add) (λx y H Q=>∃i j,x=.str i/\y=.str j/\i.9+j.9<=sizeLine/\Q (.str (i++j)) H):=by
 intro a s σ H x y v u Q I b c h
 let{i,j,rfl,rfl,d,q}:=h
 let{t,rfl}:=b
 let{e,rfl}:=c
 exact iadd_str (λe f=>{.str (i++j),H,I.tok _,{_,rfl},q}) d
theorem nM(hc:X.calm=true):dO X (.builtin "max") (λxs H Q=>∃i j,xs=[.int i,.int j]/\Q (.int (if j>i then j else i)) H):=by
 intro b s σ H xs c Q I r h
 let{i,j,rfl,q}:=h
 let{u,d,rfl,{t,rfl},{e,rfl}}:=vals2 r
 refine max_two_ints (I.ok.hd hc) λf g k=>{_,H,I.kept k,?_,q}
 by_cases a:j>i
 .rw[if_pos a,if_pos a];exact{_,rfl}
 .rw[if_neg a,if_neg a];exact{_,rfl}
theorem rP(hc:X.calm=true):dO X (.builtin "min") (λxs H Q=>∃i j,xs=[.int i,.int j]/\Q (.int (if j<i then j else i)) H):=by
 intro b s σ H xs c Q I r h
 let{i,j,rfl,q}:=h
 let{u,d,rfl,{t,rfl},{e,rfl}}:=vals2 r
 refine min_two_ints (I.ok.hd hc) λf g k=>{_,H,I.kept k,?_,q}
 by_cases a:j<i
 .rw[if_pos a,if_pos a];exact{_,rfl}
 .rw[if_neg a,if_neg a];exact{_,rfl}
theorem FH{CX:Fx}{P:Ê}{w:World}{K:Á}{mg:Str->Option Value}{base:Heap}{N ps:List Str}{g:Str}{scope:Ă}{f:Addr}{cd:Value}{A:Around}{outer:List Env}{s s1:Shared}{H:Hp}{E:XK}{us:List Value}{vs:List V}
 (S:uJ N ps scope) (hd:A.handled=τ) (j:CC P w K mg base A outer s H) (hl:vs.9=ps.9) (r:Vals vs us)
 (x:InCallC s s.heap.objs.size (bindL (envOfC g scope s.heap.objs.size f cd).kindOf (ps.zip us) λ_=>τ) (cellsFrom (s.8+1) scope.names []) (bindC (envOfC g scope s.heap.objs.size f cd).kindOf (ps.zip us) λ_=>τ) s1) :
 Inv (vr CX P w K mg base N g scope f cd A outer s H E) [] (start N vs) H s1:=by
 have D:ps.9<=N.9:=by have:=congrArg γ S.pre;rw[Ú]at this;lia
 let{B,I,rfl,hk}:=x.done
 have l:∀b:Addr,b∉(vr CX P w K mg base N g scope f cd A outer s H E).ex:=λb z=>absurd (show b∈([]:List Addr) from z) (by simp)
 refine{{j.mod,S.kind,rfl,rfl,Ä _,λy z c B d=>?_,λy m=>?_,λy c _ h=>?_,λ_=>hd,Around.frames_deeper j.frames,.inr ⟨rfl,rfl⟩,λb z=>absurd z (l b),j.bs,j.HL,λb _ _=>l b,λb z=>absurd z (l b),j.pE,j.Lp},
  rfl,j.bare,Un.kept hk,{_,x.toInCall.ns,λi y v B d J=>?_},λy c h=>{_,x.cell y c h},j.b6.fresh (Ä _),λy c h=>?_,λp o=>absurd (show p∈([]:List (Addr×Obj)) from o) (by simp),j.b6.kept hk,?_}
 .exact name_of_addr x.apart (wcR B) (wcR d)
 .have m:scope.names.lookup y=ρ .cell\/scope.names.lookup y=ρ .free:=m;rcases m with m |m
  .exact AF m
  .exact absurd rfl (S.Oc _ (wcR m))
 .exact weQ (x.above y c (wcR h))
 .have hi:i<vs.9:=by
   unfold start at d
   by_cases hi:i<vs.9
   .exact hi
   .rw[ü (by simpa using hi)]at d;rw[List.getElem?_replicate]at d;split at d<;>cases d
  have ha:vs[i]?=ρ v:=by
   unfold start at d;rw[ā (by simpa using hi),Ç]at d
   cases e:vs[i]? with
   |none=>rw[e]at d;cases d
   |some a=>rw[e]at d;cases d;rfl
  let{u,C,G}:=r.get ha
  have o:ps[i]?=ρ y:=by
   rw[<-S.pre,we9 ()];exact B
  have t:ps.Nodup:=by rw[<-S.pre];exact S.nd.sublist (Ĩ _ _)
  refine{u,G,?_};rcases S.par y (Ð o) with k |k
  .exact .inl {k,yj t o C k}
  .let{c,e}:=AF (n:=s.8+1) k
   refine .inr {.inl k,c,e,?_};have q:=x.cell y c e;rw[yk t o C (by show scope.names.lookup y≠_;rw[k];decide)]at q;exact q
 .exact j.b6.fresh (weQ (x.above y c (wcR h)))
 .unfold start;show _=N.9;rw[É,À,č]
  lia
theorem NA{CX:Fx}{P:Ê}{w:World}{K:Á}{mg:Str->Option Value}{base:Heap}{k:Nat}{f:Addr}{name g:Str}{l:Arguments}{body:List Stmt}{scope:Ă}{dV kV C pm j ct oc:Value}{an od:Option Addr}
 {T:Array (Option Value)} {N ps:List Str} {sp:Sp} (lk:K.lookup f=ρ {oc,od,.func (Ņ name g l body scope dV kV C pm an j ct),T}) (U:wek K j g=true) (S:uJ N ps scope)
 (len:∀vs H Q E,sp vs H Q E->vs.9=ps.9)
 (p:∀(A:Around) (outer:List Env) (s:Shared) (H:Hp) (vs:List V) (Q:VK) (E:XK),dJ k (A.deeper (envOfC g scope s.heap.objs.size f j))->sp vs H Q E ->
   ∃t,xG (vr CX P w K mg base N g scope f j A outer s H E) body t/\t (Ends.fn Q) (start N vs) H) :
 aR P w K mg base CX (k+1) f (Ņ name g l body scope dV kV C pm an j ct) ps sp:=by
 refine{len,λA outer s H args O vs Q E z i R r m=>?_};have hl:=len _ _ _ _ m;have L:K.In s.heap:=i.mod.Ln.keeps λb o e=>(i.bs b o e).1;have B:s.heap.NoLimit:=i.mod.nolimit.keeps λb o e=>(i.bs b o e).1
 have c:∀y∈ps.zip O,scope.names.lookup y.1=ρ .local\/(scope.names.lookup y.1=ρ .cell/\((cellsFrom (s.8+1) scope.names []).lookup y.1).isSome=true):=λ⟨n,v⟩ X=>by
  rcases S.par n (wge X).1 with q |q
  .exact .inl q
  .exact .inr {q,wgl _ _ _ (.inl q)}
 refine codeAny_call_function z.depth (L _ _ lk) rfl S.co S.gen rfl (PySem.W.codeRec_of L U) (R _ _ _ _ ?_);refine wpAny_newFunctionEnv_cells S.kind c λenv Y M x=>?_;subst Y;refine{B.keeps x.toInCall.keep,codeAny_func ?_}
 let{t,Z,hq}:=p A outer s H vs Q E (z.deeper _) m
 have I:Inv (vr CX P w K mg base N g scope f j A outer s H E) [] (start N vs) H M:=FH S z.hd i hl r x;refine í (Z [] M (start N vs) H _ I hq) (λfl D d=>?_) λe D d=>d
 have fin:∀{a:St} {h:Hp} {v:V} {u:Value},Inv (vr CX P w K mg base N g scope f j A outer s H E) [] a h D->RelV v u->Q v h->CE outer P w H s Q u D:=
  λ{a h v u} J G q=>⟨v,h,J.os,J.bare,J.base,J.b6,G,q⟩
 cases fl with
 |ret u=>
  let{v,a,h,J,G,q}:=d
  exact fin J G q
 |next=>
  let{a,h,J,q}:=d
  exact fin (v:=V.non) (u:=Ĉ) J rfl q
 |brk=>
  let{_,_,_,q}:=d
  exact é q
 |cont=>
  let{_,_,_,q}:=d
  exact é q
theorem pP:dO X (.builtin "len") (λxs H Q=>∃p ys,xs=[.ref p]/\(aO X.K H p ys\/gM X.K H p ys)/\Q (.int ys.9) H):=by
 intro e s σ H xs i Q I r h
 let{p,ys,rfl,a,q}:=h
 let{u,rfl,f}:=vals1 r
 cases f;have hn:=oN;rcases a with a |a
 .let{c,d,pl,g}:=I.list a
  have b:=d.9;exact wf5 pl.isList (by grind) {.int ys.9,H,I.tok _,{s.toks+1,by grind},q}
 .let{c,d,pl,g}:=I.tuple a
  have b:=d.9;exact len_tuple pl (by grind) {.int ys.9,H,I.tok _,{s.toks+1,by grind},q}
theorem zM:dO X (.builtin "len") (λxs H Q=>∃z,xs=[.str z]/\z.9<=sizeLine/\Q (.int z.9) H):=by
 intro a s σ H xs b Q I r h
 let{z,rfl,c,q}:=h
 let{u,rfl,t,rfl}:=vals1 r
 have hn:=oN;exact len_str () {.int z.9,H,I.tok _,{_,rfl},q}
theorem dQ:dO X (.type "list") (λxs H Q=>∃p ys,xs=[.ref p]/\(aO X.K H p ys\/gM X.K H p ys)/\∀l,H l=τ->Q (.ref l) (upd H l (.lst ys))):=by
 intro g s σ H xs x Q I r h
 let{p,ys,rfl,i,q}:=h
 let{u,rfl,v}:=vals1 r
 cases v
 have fin:∀(a:List Value),Vals ys a->ys.9<=sizeLine->∀(c:Heap) (d:Nat),(∀b t,s.heap.get? b=ρ t->c.get? b=ρ t) ->
  c.get? s.8=ρ {cls:=.type "list",dict:=τ,data:=.seq a.toArray d,slots:=#[]}->EP X g σ Q (.ref s.8) {s with heap:=c}:=λa f j c d kp e=>
  {.ref s.8,_,I.laid (t':=s.toks) kp (Ä _) (show bP X.prog X.w _ c _ (.lst ys) from ⟨j,a,d,f,e⟩),rfl,q _ (I.b6.fresh (Ä _))}
 rcases i with i |i
 .let{a,f,pl,j}:=I.list i
  have k:=f.9
  let{o,m,hc,n,hd}:=pl.isList
  exact call_list_seq p (.inl rfl) m hc hd (λc d kp e=>fin a f j c d kp e) (by grind)
 .let{a,f,pl,j}:=I.tuple i
  have k:=f.9
  let{o,m,hc,n,hd}:=pl
  exact call_list_seq p (.inr rfl) m hc hd (λc d kp e=>fin a f j c d kp e) (by grind)
theorem a8.refl(H:Hp):a8 H H:=λ_ _ h=>h
theorem yE:Ny X "dict.values" (λx xs H Q=>∃d kvs,x=.ref d/\xs=[]/\H d=ρ (.dK kvs)/\∀v,H v=τ->Q (.ref v) (upd H v (pF v d))):=by
 intro a s σ H x xs v j Q I f g h
 let{d,kvs,rfl,rfl,hd,q}:=h
 cases f;have:=g.zero;subst this
 let{l,lo,i,rel,c}:=sT I.b6 hd
 refine wfO wea c.typeIs PySem.F.entry_dict_values (PySem.F.args_dict_values_1 _) (meets_dict_values (bA X.prog X.w) d lo) {⟨i,c⟩,?_};refine{.ref s.8,_,I.laid (t':=s.toks) (o:=pF s.heap.objs.size d) (λb o e=>Õ _ e) (Ä _) {{_,è _ rfl,rfl,rfl},{_,è _ rfl},λm n ⟨o,e,r⟩ k=>{o,k o e,r}},rfl,q _ (I.b6.fresh (Ä _))}
theorem Ey:Ny X "str.join" (λx xs H Q=>∃z p ts,x=.str z/\xs=[.ref p]/\aO X.K H p (Ķ V.str ts)/\(ts.map (·.9)).sum+ts.9*z.9<=16777216/\Q (.str (Ő z ts)) H):=by
 intro a s σ H x xs v l Q I b c h
 let{z,p,ts,rfl,rfl,d,e,q}:=h
 let{t,rfl}:=b
 let{u,rfl,f}:=c.one
 cases f
 let{g,i,pl,_}:=I.list d
 exact join_list pl.isList (by simpa using Ct i) e λj k=>{.str _,H,I.tok k,⟨j,rfl⟩,q}
theorem AY:dO X (.builtin "len") (λxs H Q=>∃p n,xs=[.ref p]/\H p=ρ (Ly X.prog X.w p n)/\Q (.int n) H):=by
 intro c s σ H xs g Q I r h
 let{p,n,rfl,d,q}:=h
 let{u,rfl,f}:=vals1 r
 cases f
 let{{S,o,i,j,k,e,hex,hd,_,_,b,a,hn},_}:=(show bP X.prog X.w H s.heap p (Ly X.prog X.w p n) from I.b6 p _ d)
 refine call_len_set e hex hd a (by unfold ū at b;omega) {.int n,H,I.tok _,{s.toks+1,?_},q};rw[hn]
theorem comp_map{Ok:Hp->Prop}{Q:Hp->Prop}(g:V->V)(I:kq J Ok xs)(hl:H l=τ)(T:xs.9<=sizeLine)(t:∀j,a8 H j->Ok j)
 (he:∀x p r,x∈xs->a8 H p->(∀j,a8 p j->r (g x) j)->U (ρ x::C) p r)
 (hd:∀j,a8 H j->j l=ρ (.lst (xs.map g))->Q j):nZ J l C xI U H Q:=
 et (λ_=>true) g I hl T t (λx p r _ _ q=>q p (a8.refl _)) (λx p r a _ s q=>he x p r a s q) (λj s h=>hd j s (by rw[h,ĝ.mpr (λ_ _=>rfl)]))
theorem sV:dO X (.type "range") (λxs H Q=>∃j:Int,xs=[.int j]/\∀p,H p=τ->Q (.ref p) (upd H p (.rng 0 j))):=by
 intro a s σ H xs c Q I r h
 let{j,rfl,q}:=h
 let{u,rfl,t,rfl}:=vals1 r
 refine call_range_1 {.ref s.8,_,I.laid (λb ob q=>Õ _ q) (Ä _) (show bP X.prog X.w _ _ _ (.rng 0 j) from {_,_,_,è _ rfl}),rfl,q _ (I.b6.fresh (Ä _))}
theorem D1:dO X (.type "dict") (λxs H Q=>∃d kvs,xs=[.ref d]/\Rd H d (.dK kvs)/\∀l,H l=τ->Q (.ref l) (upd H l (.dK kvs))):=by
 intro a s σ H xs n Q I r h
 let{d,kvs,rfl,hd,q}:=h
 let{u,rfl,f}:=vals1 r
 cases f
 let{c,lo,g,rel,i}:=lD I.b6 hd
 refine kt_call_dict (knd:=bA X.prog X.w) lo i (by rw[<-rel.9];exact c) λp j k=>?_;have m:=(vf (P:=X.prog) (w:=X.w) (H:=H) s.heap I.big);refine{.ref s.8,upd H s.heap.objs.size (.dK kvs),I.laid (t':=s.toks) (λb o e=>?_) (Ä _) ⟨c,m.2.1,g,rel,j⟩,rfl,q _ (I.b6.fresh (Ä _))};exact k.extBut b o (Ù (Ì e)) (Õ _ e)
theorem LO:TU X .Add (λx y H Q=>∃i j,x=.str i/\y=.str j/\i.9+j.9<=sizeLine/\Q (.str (i++j)) H):=λa s σ H x y v u Q I b c h=>AX a s σ H x y v u Q I b c h
theorem vA:me X (binaryOp .FloorDiv) (rI Rg λi j=>.int (i/j)):=U1 λi j _ _ _ _ _ hc q=>by
 have a:(0:Int)<j:=hc.1;exact floordiv_int 1.0 (by rw[wfo i 1.0];exact q) (.inl (PyProof.noPylong_of_log2 hc.2))
theorem Ez{σ:St}:∀{ps:List (Int×Int)} {H Q},(∀g j,a8 H g->j.9=ps.9->(∀(i:Nat) p,ps[i]?=ρ p->∃q,j[i]?=ρ (.ref q)/\g q=ρ (.tup [.int p.1,.int p.2]))->Q j g)->ve ps σ H Q
 |[],H,_,k=>k H [] (a8.refl _) rfl λ_ _ h=>nomatch h
 |_::_,_,_,k=>{(by show 2<=sizeLine;decide),λq f=>Ez λg j s e a=>k g (.ref q::j) ((a8.upd f).trans s) (congrArg (· + 1) e) λ
  |0,_,h=>{q,rfl,by cases h;exact s _ _ a6}
  |i+1,p,h=>a i p h}
theorem rQ{α:Type}(p:Nat->Bool):∀(k:Nat) (xs:List α),(bj p k xs).Sublist xs
 |_,[]=>wfx _
 |k,x::xs=>by
  show (if p k then x::bj p (k+1) xs else bj p (k+1) xs).Sublist (x::xs)
  cases p k with
  |true=>exact(rQ p (k+1) xs).cons₂ x
  |false=>exact(rQ p (k+1) xs).cons x
theorem eu{α:Type}{p:Nat->Bool}{k:Nat}{xs:List α}{x:α}(h:x∈bj p k xs):x∈xs:=(rQ p k xs).subset h
end
section
variable{P:Ê}{w:World}{K:Á}{mg:Str->Option Value}{base:Heap}
theorem zy.ok{x g:Str}{st:Stmt}{f:Addr}{fd:ï}{N ps:List Str}{k:Nat}{sp:Sp}(F:zy K x g st f fd)(S:uJ N ps (aL st))(len:∀vs H Q E,sp vs H Q E->vs.9=ps.9)
 (l:∀(j:Value) (A:Around) (outer:List Env) (s:Shared) (H:Hp) (vs:List V) (Q:VK) (E:XK),dJ k (A.deeper (envOfC g (aL st) s.heap.objs.size f j))->sp vs H Q E ->
   ∃t,xG (vr d4 P w K mg base N g (aL st) f j A outer s H E).HC (cn st) t/\t (Ends.fn Q) (start N vs) H):aR P w K mg base d4 (k+1) f fd ps sp:=by
 let{i,m,kV,c,pm,n,j,ct,d,rfl,lk,a}:=F.ex
 refine NA lk a S len λA outer s H vs Q E e b=>?_
 let{t,h,q}:=l j A outer s H vs Q E e b
 exact⟨t,h.HC,q⟩
theorem zy.binds{x g:Str}{st:Stmt}{f:Addr}{fd:ï}{ps:List Str}(F:zy K x g st f fd)
 (h:∀(kV j pm:Value) (p:Option Addr) (l ct:Value) (us:List Value),us.9=ps.9->bindArgs (Ņ x g (dP st) (cn st) (aL st) .none kV j pm p l ct) {us,[]}=pure (ps.zip us)):Binds K fd ps []:=by
 let{c,d,kV,j,pm,p,l,ct,a,rfl,lk,b}:=F.ex
 exact .all (h kV j pm p l ct)
theorem Iz{x g:Str}{st:Stmt}{f:Addr}{C:Value}{od t:Option Addr}{r:Array (Option Value)}{kV p pm j ct:Value}(l:K.lookup f=ρ {C,od,.func (Ņ x g (dP st) (cn st) (aL st) .none kV p pm t j ct),r})
 (c:wek K j g=true) (k:ź K (.ref f)=true):zy K x g st f (Ņ x g (dP st) (cn st) (aL st) .none kV p pm t j ct):={⟨C,od,kV,p,pm,t,j,ct,r,rfl,l,c⟩,k}
theorem jK(d:Addr)(o:Obj)(kvs:List (Key×V)):kq (LD d o kvs) (λH=>H d=ρ (.frz o (.dK kvs))) (kvs.map λg=>kV g.1) where
 go:=λi H ok h=>{ok,by rwa[À]at h}
 uY:=λi H x a ok h q=>by
  let{rfl,g,e,rfl}:=q
  refine{rfl,?_};rw[Ç,e];rfl
 stop:=λH ok=>{ok,by rw[À];exact Ä _}
theorem pQ{X:Cx}:∀{g:List Expr} {is:List Int},uL g=ρ is->PA X g (Nq is)
 |[],is,h=>by
  obtain rfl:[]=is:=Ò h;exact fG
 |e::g,is,h=>by
  unfold uL at h;split at h
  .rename_i heq;exact nomatch heq
  .rename_i i j p a heq;cases heq
   cases q:uL g with
   |none=>rw[q]at h;cases h
   |some b=>
    rw[q]at h;obtain rfl:=Ò h;exact a7 aj (pQ q)
  .cases h
end
section
variable{X:Cx}{es:List Expr}{t:TA}{pos:Pos}
theorem eD{g}(h:PA X es t):PE X (.Tuple es g pos) (Ri t):=by
 refine{?_};intro a s σ H Q I i;refine wpAny_Tuple_spliced (bQ (h pos a s σ H _ I i) λj c ⟨k,d,f,r,z,q⟩=>{by rw[<-r.9];exact z,?_});have l:d c.8=τ:=f.b6.fresh (Ä _);refine{.ref c.8,upd d c.heap.objs.size (.tup k),f.laid (t':=c.toks) (λb u e=>Õ _ e) (Ä _) ?_,rfl,q _ l};exact{z,j,r,{_,è _ rfl,rfl,1}}
theorem bI(h:PA X es t):PE X (.List es pos) (Rj t):=by
 refine{?_};intro a s σ H Q I g;refine wpAny_List_spliced (bQ (h pos a s σ H _ I g) λi c ⟨j,d,f,r,z,q⟩=>{by rw[<-r.9];exact z,?_});have k:d c.8=τ:=f.b6.fresh (Ä _);refine{.ref c.8,upd d c.heap.objs.size (.lst j),f.laid (t':=c.toks) (λb u e=>Õ _ e) (Ä _) ?_,rfl,q _ k};exact⟨z,i,0,r,è _ rfl⟩
theorem dF:PE X (.Dict [] [] pos) Od:={λb s σ H Q I h=>
 wpAny_Dict_empty {.ref s.8,_,I.laid (a:=s.8) (o:=.dK []) (t':=s.toks) (λ_ _ q=>Õ _ q) (Ä _) (vf s.heap I.big),rfl,h _ (I.b6.fresh (Ä _))}}
theorem D2{P:Ê}{w:World}{K:Á}{U:Expr}{it:Addr}{n:Nat}{Pv:Nat->Value->Prop}{St:Nat->Heap->Prop}{val:Nat->V}
 (T:∀A:Around,A.handled=τ->Walks P w A it [it] [it] n Pv St)
 (g:∀i h,St i h->∃(o:Obj) (nm:String) (vs:Array Value),h.get? it=ρ o/\o.cls=.type nm/\o.data=.fields vs/\Nm nm)
 (j:∀i h h',St i h->(∀o,h.get? it=ρ o->h'.get? it=ρ o)->St i h')
 (l:∀(A:Around) (i:Nat) (s:Shared) (Q:Value->Shared->Prop) (E:Value->Shared->Prop),St i s.heap->Q (.ref it) s->wpAny (model P w) A (pyIter (.ref it)) Q E s)
 (p:∀i u,Pv i u->RelV (val i) u):Turn P w K U (TQ n val) [it] it (λi h=>St i h/\i<=n) where
 mem:=by simp
 obj:=λi h st b f=>by
  have e:b=it:=by simpa using f
  subst e
  let{o,nm,vs,e,c,d,_}:=g i h st.1
  exact{o,e,λv z=>by rw[d]at z;cases z}
 keep:=λi h h' st k=>{j i h h' st.1 λo e=>k it (by simp) o e,st.2}
 item:=by
  intro X t hw x hc i a s σ H E I q st r;subst t hw x
  let{y,f1,f2,B,C,D}:=q it (by simp)
  refine(T X.A (I.ok.hd hc)).item i s _ _ r st.1 λv h' G L m J=>?_;have M:Inv X a σ H {s with heap:=h',toks:=G}:=I.turned (λb o f e=>J b o (by simpa using f) e) y f1 B C D
  let{o,nm,vs,e,c,d,hn}:=g _ _ m
  exact{1,yf (s:={s with heap:=h',toks:=G}) e c d hn {val i,H,M,p i v L,⟨rfl,rfl⟩,⟨m,r⟩,λb f=>(q b f).1}}
 done:=by
   intro X t hw x hc i a s σ H E I q st r;subst t hw x
   let{y,f1,f2,B,C,D}:=q it (by simp)
   have e:i=n:=by
    have N:=st.2;have O:n<=i:=r
    lia
   subst e;exact(T X.A (I.ok.hd hc)).done s _ _ st.1 λh' G J=>{rfl,I.turned (λb o f e=>J b o (by simpa using f) e) y f1 B C D}
 self:=λA i s Q E st h=>l A i s Q E st.1 h
theorem AZ(hc:X.calm=true):dO X (.builtin "any") (λxs H Q=>∃p bs,xs=[.ref p]/\aO X.K H p (Ķ V.bl bs)/\Q (.bl (bs.any id)) H):=by
 intro d s σ H xs o Q I r h
 let{p,bs,rfl,j,q}:=h
 let{u,rfl,k}:=vals1 r
 cases k
 let{a,l,pl,t}:=I.list j
 have f:=sS l;have hl:=pl.isList;have m:=I.ok.hd hc;have c:p<s.8:=by let{_,e,_}:=hl;exact Ì e
 refine call_any_walk (υ hl ?_)
 refine{s.8,[s.8,p],[s.8],a.toArray.size,_,_,λi=>(bs[i]?).getD false,rfl,wfF (A:=X.A.in1) m _ p (Ù c) a.6,
  {{_,è _ rfl,rfl,rfl},hl.push _},λi v w x y n g=>?_,λz B hk=>?_}
 .let{b,e,rfl}:=f.get i v (by simpa using n)
  simp only[e,wi2]at g;exact ř g
 .have e:((Ö a.toArray.size).any λi=>(bs[i]?).getD false)=bs.any id:=by
   rw[å,f.9];exact LSm.range_any bs
  rw[e];exact{.bl _,H,I.kept (LSm.kept_iter hk),rfl,q}
theorem B1(hc:X.calm=true):dO X (.builtin "all") (λxs H Q=>∃p bs,xs=[.ref p]/\aO X.K H p (Ķ V.bl bs)/\Q (.bl (bs.all id)) H):=by
 intro d s σ H xs o Q I r h
 let{p,bs,rfl,j,q}:=h
 let{u,rfl,k}:=vals1 r
 cases k
 let{a,l,pl,t}:=I.list j
 have f:=sS l;have hl:=pl.isList;have m:=I.ok.hd hc;have c:p<s.8:=by let{_,e,_}:=hl;exact Ì e
 refine call_all_walk (υ hl ?_)
 refine{s.8,[s.8,p],[s.8],a.toArray.size,_,_,λi=>(bs[i]?).getD true,rfl,wfF (A:=X.A.in1) m _ p (Ù c) a.6,
  {{_,è _ rfl,rfl,rfl},hl.push _},λi v w x y n g=>?_,λz B hk=>?_}
 .let{b,e,rfl}:=f.get i v (by simpa using n)
  simp only[e,wi2]at g;exact ř g
 .have e:((Ö a.toArray.size).all λi=>(bs[i]?).getD true)=bs.all id:=by
   rw[å,f.9];exact LSm.range_all bs
  rw[e];exact{.bl _,H,I.kept (LSm.kept_iter hk),rfl,q}
theorem zN(hc:X.calm=true):dO X (.builtin "sorted") (λxs H Q=>∃d kvs g,xs=[.ref d]/\H d=ρ (.dK kvs)/\kvs.map (·.1)=Ķ (Å:Str->Key) g/\g.9<64 /\
 ∀l ss,H l=τ->ss.Perm g->wg5 ss=true->Q (.ref l) (upd H l (.lst (ss.map V.str)))):=by
 intro k s σ H xs U Q I r h
 let{d,kvs,g,rfl,hd,hk,v,q}:=h
 let{u,rfl,N}:=vals1 r
 cases N
 let{D,lo,x,rel,O}:=sT I.b6 hd
 let{ep,y}:=O.dictAt
 have R:=I.ok.hd hc;have n:kvs.9=g.9:=by have:=congrArg γ hk;simpa using this
 have hn:x.9<=sizeLine:=by rw[<-rel.9];exact D
 refine Calls.call_function_entry kind_sorted plain_sorted entry_sorted (args_sorted1 _) ?_;unfold ķ.«sorted»;refine Â (m:=checkCount "sorted" 1 1 _) (Ï ?_);refine Â (PySem.W.kdu_collect (A:=X.A.in1) (wi3 (knd:=bA X.prog X.w) (kvs:=x) (ep:=ep) lo) R y hn λi E a z c=>?_);have hl:a.toList.9=x.9:=by rw[Ŷ];exact c.1
 refine Â (wpAny_newList ?_ (by rw[hl];exact hn));have B:StrsAre a.toList g:=Ir (P:=X.prog) (w:=X.w) hk rel hl λj u e=>c.2 j u (by rw[<-Ź];exact e);have f:(i.push (seqObj "list" a.toList.toArray 0)).get? i.7=ρ (seqObj "list" a.toList.toArray 0):=è _ rfl;have p:a.toList.9<64:=by rw[hl,<-rel.9,n];exact v
 refine Â (þ (wpAny_call_entry slot_list_sort {_,f,rfl} entry_list_sort (list_sort_treeK strKind_oneLt f B.keysOf (λG J rest e=>keyKind_strs (by rw[<-e];exact B)) p λC a1 a2=>{1,?_}) (args_list_sort _)))
 let{t,b1,L,S}:=sorted_out_str B a1 a2
 have M:Inv X k σ H {s with heap:=i,toks:=E}:=I.kept z
 let{e,T}:=sortedHeap_at (out:=(arrOf C).map (·.2)) f
 refine Ï {1,{.ref i.7,upd H i.objs.size (.lst (t.map V.str)),M.laid (t':=E) (λb o q=>?_) (Ä _) {?_,_,e,yo b1,?_},rfl,q _ t (M.b6.fresh (Ä _)) L S}}
 .have lt:b<i.7:=Ì q;rw[sortedHeap_old (Ù lt) (by rw[size_push'];exact wep lt)];exact Õ _ q
 .rw[À,L.length_eq,<-n];exact D
 .rw[wd4];exact T
theorem kC(hc:X.calm=true):dO X (.type "list") (λxs H Q=>∃d kvs,xs=[.ref d]/\H d=ρ (.dK kvs)/\∀l,H l=τ->Q (.ref l) (upd H l (.lst (kvs.map λg=>kV g.1)))):=by
 intro k s σ H xs y Q I r h
 let{d,kvs,rfl,hd,q}:=h
 let{u,rfl,n}:=vals1 r
 cases n
 let{m,lo,f,rel,o}:=sT I.b6 hd
 let{ep,i}:=o.dictAt
 have p:=I.ok.hd hc;have hn:f.9<=sizeLine:=by rw[<-rel.9];exact m
 refine wi4 (wi3 (knd:=bA X.prog X.w) (kvs:=f) (ep:=ep) lo) p i hn λt v b c kp x a=>?_;have hl:b.toList.9=f.9:=by rw[Ŷ];exact a.1
 refine{.ref s.8,_,I.laid (t':=v) kp (Ä _) (show bP X.prog X.w _ t _ (.lst (kvs.map λg=>kV g.1)) from {?_,b.toList,c,yx (P:=X.prog) (w:=X.w) rel hl λj u e=>a.2 j u (by rw[<-Ź];exact e),?_}),rfl,q _ (I.b6.fresh (Ä _))}
 .rw[À];exact m
 .rw[wd4];exact x
theorem D3(hc:X.calm=true):dO X (.type "list") (λxs H Q=>∃v d kvs,xs=[.ref v]/\H v=ρ (pF v d)/\H d=ρ (.dK kvs)/\∀l,H l=τ->Q (.ref l) (upd H l (.lst (kvs.map (·.2))))):=by
 intro k s σ H xs D Q I r h
 let{v,d,kvs,rfl,n,hd,q}:=h
 let{u,rfl,o}:=vals1 r
 cases o
 let{m,lo,b,rel,p}:=sT I.b6 hd
 let{ep,i}:=p.dictAt
 let{g,_}:=(show bP X.prog X.w H s.heap v (pF v d) from I.b6 v _ n)
 have x:=I.ok.hd hc;have hn:b.9<=sizeLine:=by rw[<-rel.9];exact m
 refine wi4 (whv (knd:=bA X.prog X.w) (kvs:=b) (ep:=ep)) x ⟨g,i⟩ hn λy z a c kp A f=>?_;have hl:a.toList.9=b.9:=by rw[Ŷ];exact f.1
 have e:a.toList=b.map (·.2):=PySem.W.kdl_vals_eq a.toList hl λj u e=>f.2 j u (by rw[<-Ź];exact e)
 have B:∀{kvs:List (Key×V)} {b:List (Key×Value)},KV kvs b->Vals (kvs.map (·.2)) (b.map (·.2)):=λ{kvs b} r=>by
  induction r with
  |nil=>exact .nil
  |cons r t C=>exact .cons r.2 C
 refine{.ref s.8,_,I.laid (t':=z) kp (Ä _) (show bP X.prog X.w _ y _ (.lst (kvs.map (·.2))) from {?_,a.toList,c,by rw[e];exact B rel,?_}),rfl,q _ (I.b6.fresh (Ä _))}
 .rw[À];exact m
 .rw[wd4];exact A
theorem vB(hc:X.calm=true):dO X (.type "list") (λxs H Q=>∃(p:Addr) (n:Nat),xs=[.ref p]/\H p=ρ (.rng 0 (n:Int))/\n<=sizeLine/\∀l,H l=τ->Q (.ref l) (upd H l (.lst ((Ö n).map λi=>V.int (i:Nat))))):=by
 intro m s σ H xs b Q I r h
 let{p,n,rfl,x,hn,q}:=h
 let{u,rfl,y}:=vals1 r
 cases y
 let{t,u,v,e}:=I.b6 p _ x
 have f:n<=2^24:=by rw[Ē]at hn;lia
 refine call_list_range (I.ok.hd hc) (n:=n) (show IsRange s.heap p 0 (n:Int) 1 t u v from e) (small_one () () () ()) (by rw[wh7];split<;>lia) f λg z d c kp A a=>?_
 have B:∀(b:List Value) (k:Nat),(∀(j:Nat) (u:Value),b[j]?=ρ u->∃t,u=.int ((k+j:Nat):Int) t)->Vals ((wff k b.9).map λi=>V.int (i:Nat)) b:=by
  intro b
  induction b with
  |nil=>intro k _;exact .nil
  |cons u b C=>
   intro k h
   let{t,e}:=h 0 u rfl
   rw[ê,wfP,Ó];refine .cons ⟨t,e⟩ (C (k+1) λj u g=>?_)
   let{t,e}:=h (j+1) u (by simpa using g)
   exact{t,by rw[e];congr 1;lia}
 have hl:d.toList.9=n:=by rw[Ŷ];exact a.1
 have o:=B d.toList 0 λj u e=>by
  let{t,D}:=a.2 j u (by rw[<-Ź];exact e)
  exact{t,by rw[D];congr 1;lia}
 rw[hl,<-wgS]at o;refine{.ref s.8,_,I.laid (t':=z) kp (Ä _) (show bP X.prog X.w _ g _ (.lst ((Ö n).map λi=>V.int (i:Nat))) from {?_,d.toList,c,o,?_}),rfl,q _ (I.b6.fresh (Ä _))}
 .rw[À,ì];exact hn
 .rw[wd4];exact A
theorem EA:me X (binaryOp .Mult) (λx y H Q=>∃z n,x=.str z/\y=.int n/\MulOk z n/\Q (.str (Ĝ z n)) H):=by
 intro a s σ H x y v u Q I b c h
 let{z,n,rfl,rfl,ok,q}:=h
 let{t,rfl}:=b
 let{e,rfl}:=c
 exact SB.mul ok λd k=>{.str _,H,I.tok k,⟨d,rfl⟩,q}
theorem my(hc:X.calm=true):dO X (.builtin "sum") (λxs H Q=>∃p ns,xs=[.ref p]/\aO X.K H p (Ķ V.int ns)/\Q (.int ns.sum) H):=by
 intro b s σ H xs j Q I r h
 let{p,ns,rfl,d,q}:=h
 let{u,rfl,f}:=vals1 r
 cases f
 let{a,g,pl,k}:=I.list d
 let{c,e,rfl}:=kn g
 have hl:s.heap.IsList p (intItems c.6):=by
  have:intItems c.6=a.6:=by rw[e];unfold intItems;simp
  rw[this];exact pl.isList
 refine sum_intListG (I.ok.hd hc) hl λl m i hk=>?_;refine{.int _,H,I.kept hk,{i,?_},q};rw[preSum_eq,ŉ (by simp)]
theorem IA:TU X .Mult ipM:=by
 intro a s σ H x y v u Q I b c h
 let{i,j,d,e,hc,q}:=h
 subst d;subst e
 let{t,rfl}:=b
 let{f,rfl}:=c
 exact imul_int {.int _,H,I.tok _,{_,rfl},q} hc.ok
theorem FI(hc:X.calm=true):dO X (.builtin "max") (λxs H Q=>∃p ns,xs=[.ref p]/\aO X.K H p (Ķ V.int ns)/\ns≠[]/\∀M,M∈ns->(∀a∈ns,a<=M)->Q (.int M) H):=by
 intro g s σ H xs w Q I r h
 let{p,ns,rfl,i,c,q}:=h
 let{u,rfl,k}:=vals1 r
 cases k
 let{d,l,pl,x}:=I.list i
 let{b,e,rfl}:=kn l
 have hl:s.heap.IsList p (intItems b.6):=by
  have:intItems b.6=d.6:=by rw[e];unfold intItems;simp
  rw[this];exact pl.isList
 have f:0<b.toArray.size:=by
  rw[å];exact Nat.pos_of_ne_zero λz=>c (by rw[Ŵ z];rfl)
 refine max_intList (I.ok.hd hc) hl f λv y A m hk=>?_
 let{t,rfl}:=whU m
 let{B,n}:=argBest_gt (numAt b.6) (b.toArray.size-1)
 refine{.int _,H,I.kept hk,⟨t,rfl⟩,q _ ?_ λa ha=>?_}
 .rw[numAt_eq];exact getD_mem (by rw[À];simp only[å]at *;omega)
 .let{j,o,rfl}:=mem_getD ha
  rw[À]at o;have:=n j (by simp only[å]at *;omega);rw[numAt_eq]at this;exact this
def jy(K:Á)(J:It)(l:Addr)(σf:St)(tt:TT)(te:TE)(H:Hp)(Q:Hp->Prop):Prop:=
 ∃W:Nat->Nat->List V->Hp->Prop,(∃m,W 0 m [] (upd H l (.lst [])))/\∀i m ys H2,W i m ys H2->H2 l=ρ (.lst ys) /\
  ((J.stop i H2/\Q H2)\/(J.go i H2/\ys.9<sizeLine/\∀x H3,J.uY i H2 x H3->∃p a b,x=.ref p/\gM K H3 p [a,b]/\tt (ρ a::ρ b::σf) H3 λok H4=>
    if ok=true then te (ρ a::ρ b::σf) H4 λy H5=>H5 l=ρ (.lst ys)/\∃m',m'<m/\W (i+1) m' (ys++[y]) (upd H5 l (.lst (ys++[y])))
    else ∃m',m'<m/\W (i+1) m' ys H4))
def OB(K:Á)(wi:TI)(ix:List Nat)(tt:TT)(te:TE):TE:=λσ H Q=>wi σ H λJ H1=>∀l,H1 l=τ->jy K J l (pick σ ix) tt te H1 (λH2=>Q (.ref l) H2)
theorem B4{P:Ê}{w:World}{K:Á}{C:Expr}(it:Addr)(lo c:Int)(n:Nat):Turn P w K C (Lz lo c n) [it] it (λi h=>wgo h it (lo+(i:Nat)*c) ((n:Int)-(i:Nat)) c) where
 mem:=by simp
 obj:=λi h st b d=>by
  have e:b=it:=by simpa using d
  subst e
  exact{_,st,λv z=>by
   have A:Υ _=wgg v:=z
   cases A}
 keep:=λi h g st k=>k it (by simp) _ st
 item:=by
  intro X l hw m hc i a s σ H E I j st p;subst l hw m
  let{q,f1,f2,r,u,x}:=j it (by simp)
  have B:=Walks.range (prog:=X.prog) (w:=X.w) (I.ok.hd hc) it lo c n;refine B.item i s _ _ p st λv g y D f G=>?_
  let{t,rfl}:=D
  have J:Inv X a σ H {s with heap:=g,toks:=y}:=I.turned (λb o d e=>G b o (by simpa using d) e) q f1 r u x;exact{1,yf (s:={s with heap:=g,toks:=y}) (n:="range_iterator") f rfl rfl ⋯ {.int (lo+(i:Nat)*c),H,J,⟨t,rfl⟩,⟨rfl,rfl⟩,f,λb d=>(j b d).1}}
 done:=by
   intro X l hw m hc i a s σ H E I j st p;subst l hw m
   let{q,f1,f2,r,u,x}:=j it (by simp)
   exact wgp (I.ok.hd hc) st (by have:n<=i:=p;lia) λg L=>{rfl,I.turned (t':=s.toks) (λb o d e=>L b o d e) q f1 r u x}
 self:=λ_ _ _ _ _ st h=>wgq st h
def LQ(K:Á)(wi:TI)(ix:List Nat)(tt:TT)(te:TE)(i:Nat):TS:=λD σ H=>wi σ H λJ H1=>∀l,H1 l=τ->jy K J l (pick σ ix) tt te H1 (λH2=>D.nx (σ.set i (ρ (.ref l))) H2)
def vC(K:Á)(J:It)(l:Addr)(σf:St)(tt:TT)(te:TE)(H:Hp)(Q:Hp->Prop):Prop:=
 ∃W:Nat->Nat->List V->Hp->Prop,(∃m,W 0 m [] (upd H l (.lst [])))/\∀i m ys H2,W i m ys H2->H2 l=ρ (.lst ys) /\
  ((J.stop i H2/\Q H2)\/(J.go i H2/\ys.9<sizeLine/\∀x H3,J.uY i H2 x H3->∃p a b c,x=.ref p/\gM K H3 p [a,b,c]/\tt (ρ a::ρ b::ρ c::σf) H3 λok H4=>
    if ok=true then te (ρ a::ρ b::ρ c::σf) H4 λy H5=>H5 l=ρ (.lst ys)/\∃m',m'<m/\W (i+1) m' (ys++[y]) (upd H5 l (.lst (ys++[y])))
    else ∃m',m'<m/\W (i+1) m' ys H4))
def OC(K:Á)(wi:TI)(ix:List Nat)(tt:TT)(te:TE):TE:=λσ H Q=>wi σ H λJ H1=>∀l,H1 l=τ->vC K J l (pick σ ix) tt te H1 (λH2=>Q (.ref l) H2)
theorem forA(hi:PI X j iter l)(r:PG X j g)(I:xG X body J)(T:PassesOwn (model X.prog X.w) X.A X.env X.xe:=by exact wdr)(hc:X.calm=true:=by rfl)(hs:∀x,Ś iter X.env x=pure x:=by intro _;rfl):PS X (.For j iter body [] pos) (Rt l g J):=D0 T hc hi r I hs
end
section
variable{X:Cx}{pins:List (Addr×Obj)}{σ:St}{H:Hp}{s:Shared}{ys:List V}
theorem Inv.OD(I:Inv X pins σ H s)(j:Vals ys g)(p:ys.9<=sizeLine) :
 Inv X pins σ (upd H s.heap.objs.size (.lst ys)) {s with heap:=s.heap.push {cls:=.type "list",data:=.seq g.6},toks:=t'}:=
 I.laid (λ_ _ q=>Õ _ q) (Ä _) ⟨p,g,0,j,è _ rfl⟩
theorem FJ{P:Ê}{w:World}{K:Á}{g:List Expr}{k:Nat}{pos:Pos}(a e it:Addr)(j:e≠it):Turn P w K (.Tuple g k pos) (Qp K a) [e,it] e (λi h=>(∃old,IsEnum h e it (i:Nat) old)/\h.IsListIter it a i) where
 mem:=by simp
 obj:=λi h st b f=>by
  let{{old,c},o,t,hc,hd}:=st
  rcases à.mp f with rfl |f
  .exact{_,c,λv z=>by
    have Q:Υ _=wgg v:=z
    cases Q}
  .have R:b=it:=by simpa using f
   subst R;exact{o,t,λv z=>by rw[hd]at z;cases z}
 keep:=λi h O st k=>{st.1.imp λold c=>k e (by simp) _ c,st.2.at λo q=>k it (by simp) o q}
 item:=by
  intro X A hw B hc i l s σ H E I C st D;subst A hw B
  let{S,x,r,G}:=D
  let{J,L,p,T}:=I.list r
  let{u,U,V}:=L.get G
  let{{old,c},hit}:=st
  refine wpAny_pyNext_enum_item c hit p.isList (x:=u) (by simpa using U) j λO t m Y Z hk=>?_;refine{1,wdR t λXQ M d=>?_}
  let{_,N,_}:=id hit
  have n:e<s.8:=Ì c
  let{fr,I1,hn}:=vx (y:=.int (i:Nat)) (s.toks+1) I C (λb o h q=>(d.2 b (zz h).1).trans (hk b o (zz h).1 (zz h).2 q)) ((d.2 _ (ı n)).trans Y) {_,rfl} V (Of n (Ì N))
  exact{.ref s.8,_,I1,rfl,{s.8,x,fr,rfl,rfl,λys hy=>by rw[I.pL hy r];exact G},{{u,by simpa using M},m.at λo q=>(d.2 it (æ j)).trans q},hn}
 done:=by
   intro X A hw B hc i l s σ H E I C st D;subst A hw B
   let{S,r,G}:=D
   let{J,L,p,T}:=I.list r
   have hl:=L.9
   let{{old,c},hit}:=st
   let{g0,g1,g2,g3,g4,g5}:=C it (by simp)
   exact wpAny_pyNext_enum_end (I.ok.hd hc) c hit p.isList (wgs (by simp;lia)) λO eb=>{rfl,I.turned (t':=s.toks) (λb o f e=>eb b o f e) g0 g1 g3 g4 g5}
 self:=λ_ _ _ _ _ st h=>let ⟨⟨_,c⟩,_⟩:=st;Γ c h
theorem kD{g:List Expr}{k:Nat}{j:Pos}{l:Expr}{r:TA}{p pos:Pos}(t:Gl X "enumerate")(C:X.mg "enumerate"=τ)(ha:PA X [l] r)(hs:starEach [l] X.5=[(false,eval l X.5)]:=by rfl) :
 PI X (.Tuple g k j) (.Call (.Name "enumerate" p) [l] [] pos) (Rl X.K r):=by
 refine{?_};intro c s σ H R I h;refine Call_ (gN I t C ic (Ÿ (bQ (ha pos c s σ H _ I h) λD d ⟨E,m,i,o,v⟩=>?_) hs rfl))
 let{a,G,e,w,q}:=v
 subst e
 let{u,rfl,x}:=vals1 o
 cases x
 let{y,J,pl,L}:=i.list w
 refine call_enumerate_list pl.isList λz n hit A kp=>Γ n ?_;have B:Inv X c σ m {d with heap:=z}:=i.kept (t':=d.toks) kp;refine{d.8+1,[d.8+1,d.8],_,_,m,rfl,B,FJ a _ _ (ı (ň _)),{{_,n},hit},λb M=>?_,q}
 have f:d.8<=b:=by
  grind
 exact i.zI f (i.b6.fresh f)
theorem Inv.RP{φ:Heap->Prop}(I:Inv X pins σ H s)(hn:H x=τ)(g:X.s₀.8<=x)(hl:x≠X.env.locals)(hc:∀y c,X.env.cells.lookup y=ρ c->c≠x)(j:∀p∈X.pn++pins,p.1≠x)(ok:bP X.prog X.w (upd H x (.ext φ)) s.heap x (.ext φ)) :
 Inv X pins σ (upd H x (.ext φ)) s:=by
 have u:=I.base;refine{I.ok,I.os,I.bare,{u.keep,u.slot,λb o q n h=>?_,u.there,λb f q=>?_,λb o v q=>?_,λb ps q=>?_},I.loc,I.cell,by rw[ae (æ hl)];exact I.free,λy c e=>by rw[ae (hc y c e)];exact I.iL y c e,λp d=>?_,λa o e=>?_,I.len}
 .rw[ae (λz=>by rw[z]at q;exact absurd (â (Ì q) g) (ă _))];exact u.free b o q n h
 .have e:=u.rD b f q;rw[ae (af e hn)];exact e
 .have e:=u.pD b o v q;rw[ae (af e hn)];exact e
 .let{m,e}:=u.rE b ps q
  exact{m,by rw[ae (af e hn)];exact e}
 .let{a1,a2,a3}:=I.pin p d
  exact{a1,by rw[ae (j p d)];exact a2,a3}
 .by_cases z:a=x
  .subst z;rw[a6]at e;cases e;exact ok
  .rw[ae z]at e;refine(I.b6 a o e).ur (λb u _ q=>q) (λb q=>?_) λb f q=>?_
   .rw[ae (af q hn)];exact q
   .rw[ae (af q hn)];exact q
theorem Inv.IB{m:Str->Option Value}(I:Inv X pins σ H s)(J:X.N.Nodup)(C:X.N[j]?=ρ n)(hk:X.env.scope.names.lookup n=ρ .local)
 (T:∃m,s.heap.Ns X.env.locals m/\(∀(i:Nat) (x:Str) (v:V),X.N[i]?=ρ x->σ[i]?=ρ (ρ v)->Qm X.env.scope x->∃u,RelV v u/\Look X.env s.heap m x u)/\h'.Ns X.env.locals (λx=>if x=n then v else m x))
 (hs:weR X.env.locals s.heap h'):Inv X pins (σ.set j τ) H {s with heap:=h',toks:=tk}:=by
 let{m,hn,hl,r}:=T
 have Ii:=I.Ii
 let{Q,_,_,A,_}:=id hn
 refine{I.ok,I.os,I.bare,{λb o e n t h=>?_,λb o e n t h=>?_,I.base.free,λb o e h=>?_,I.base.rD,I.base.pD,I.base.rE},{_,r,λi y B g l D=>?_},λy c e=>?_,I.free,I.iL,λp E=>?_,λb ob e=>?_,by simpa using I.len}
 .exact(hs.2 b (Ù (â (Ì e) I.ok.above))).trans (I.base.keep b o e n t h)
 .let{sl,g}:=I.base.slot b o e n t h
  exact{sl,(hs.2 b (Ù (â (Ì e) I.ok.above))).trans g}
 .let{G,g}:=I.base.there b o e h
  exact{G,(hs.2 b (Ù (â (Ì e) I.ok.above))).trans g}
 .by_cases f:i=j
  .subst f;have:i<σ.9:=by rw[I.len];exact(Ñ.mp C).1
   rw[Λ this]at l;cases l
  .rw[wcJ (æ f)]at l
   let{L,M,q}:=hl i y B g l D
   refine{L,M,?_};rcases q with⟨k,e⟩ |⟨k,c,e,z⟩
   .refine .inl {k,?_};have:y≠n:=λe=>f (uX J g (e ▸ C));simp[this,e]
   .exact .inr {k,c,e,z.sameBut hs (Ii y c e)}
 .let{w,z}:=I.cell y c e
  exact{w,z.sameBut hs (Ii y c e)}
 .let{e,n,ne,O,d}:=I.pin p E
  exact{(hs.2 p.1 ne).trans e,n,ne,O,d}
 .refine(I.b6 b ob e).ur (λc w hc q=>(hs.2 c ?_).trans q) (λ_ q=>q) λ_ _ q=>q;rintro rfl;have a:=I.free;rcases hc with rfl |hc
  .rw[a]at e;cases e
  .rw[a]at hc;cases hc
theorem B5{K:Á}{J:It}(h:jy K J l g j r H Q):yu (HN K 2 (ml (bR 0) (ml (bR 1) HM))) 2 J l g j r H Q:=
 let ⟨W,a,t⟩:=h
 {W,a,λi m ys f w=>let ⟨p,q⟩:=t i m ys f w;{p,q.imp id λ⟨a,b,c⟩=>{a,b,λx k n u y=>by revert n;refine Cw 2 _ ?_;exact λ_ _=>let ⟨p,v,d,e,o,s⟩:=c x k y;{p,[v,d],e,o,rfl,v,[d],rfl,d,[],rfl,rfl,{[ρ v,ρ d],rfl,rfl},s}}}}
theorem zO:me X (binaryOp .Add) RG:=by
 intro d s σ H x y v u Q I g i h
 let{l,b,t,w,rfl,rfl,j,k,A,q}:=h
 cases g;cases i
 let{z,c,n,r,e}:=j.ok I.b6
 let{B,a,C,f,m}:=k.ok I.b6
 have hl:=r.9;have o:=f.9;refine wi5 e m ?_ (by grind);have p:c.6++a.6=(c++a).6:=by simp
 rw[p];exact{.ref _,_,I.OD (t':=s.toks) (r.append f) (by grind),rfl,q _ I.fresh}
theorem IC{K:Á}{J:It}(h:vC K J l g j r H Q):yu (HN K 3 (ml (bR 0) (ml (bR 1) (ml (bR 2) HM)))) 3 J l g j r H Q:=
 let ⟨W,a,t⟩:=h
 {W,a,λi m ys k w=>let ⟨p,q⟩:=t i m ys k w;{p,q.imp id λ⟨a,b,c⟩=>{a,b,λx n o z y=>by revert o;refine Cw 3 _ ?_;exact λ_ _ _=>let ⟨p,v,f,d,e,u,s⟩:=c x n y;{p,[v,f,d],e,u,rfl,v,[f,d],rfl,f,[d],rfl,d,[],rfl,rfl,{[ρ v,ρ f,ρ d],rfl,rfl},s}}}}
end
section
variable{tx ty:CA}{tc:TT}{b:List Stmt}
abbrev L8(X:Cx)(ifs:List Expr)(t:TT):Prop:=Bx (∀(pins:List (Addr×Obj)) (s:Shared) (σ:St) (H:Hp) (Q:Bool->Hp->Prop),Inv X pins σ H s->t σ H Q ->
  wpAny (model X.prog X.w) X.A (forIn ifs true λc r=>if r=true then do let ok <-isTrue c X.env (eval c X.5);pure (Α ok) else pure (Α r)) (TP X pins σ Q) X.xe s)
theorem bf{X:Cx}:L8 X [] xI:={λ_ _ _ H _ I h=>wpAny_tests_nil ⟨H,I,h⟩}
theorem hF{X:Cx}(h:PT X c t):L8 X [c] t:={λa s σ H Q I hw=>wpAny_tests_one (h a s σ H Q I hw)}
theorem xM{X:Cx}{K:Á}(g:X.K=K):dO X (.builtin "len") (λxs H Q=>∃p ys,xs=[.ref p]/\(aO K H p ys\/gM K H p ys)/\Q (.int ys.9) H):=by
 subst g;exact pP
noncomputable def xIf(tc:TT)(tx ty:CA):CA:=λE D σ H=>tc σ H λb H1=>if b=true then tx E D σ H1 else ty E D σ H1
theorem LR{X:Cx}{ps:List (Int×Int)}(h:PA X g (ve ps)):PA X (.Tuple [.Constant (.int i) l p,.Constant (.int j) r t] C pt::g) (ve ((i,j)::ps)):=a7 (eD (a7 aj (a7 aj fG))) h
end
section
variable{X:Cx}{pins:List (Addr×Obj)}{σ:St}{H:Hp}{s:Shared}{e:Addr}
theorem Cx.Ok.marked(ok:X.Ok):(X.marked e).Ok:=
 {ok.mod,ok.kind,ok.glob,ok.blt,ok.above,ok.inj,ok.has,ok.Oa,λz=>Bool.noConfusion z,ok.frames,ok.Qn,ok.TL,ok.bs,ok.HL,ok.Ck,ok.Fv,ok.pE,ok.Lp}
theorem Inv.marked(I:Inv X pins σ H s):Inv (X.marked e) pins σ H s:=⟨I.ok.marked,I.os,I.bare,I.base,I.loc,I.cell,I.free,I.iL,I.pin,I.b6,I.len⟩
theorem Inv.unmarked(ok:X.Ok)(I:Inv (X.marked e) pins σ H s):Inv X pins σ H s:=⟨ok,I.os,I.bare,I.base,I.loc,I.cell,I.free,I.iL,I.pin,I.b6,I.len⟩
theorem Vm(e:h.get? x=ρ {.ref C,od,.fields vs,sl}):bP P w H h x (XC x C od):=
 {⟨vs,sl,e⟩,{_,e},λd f ⟨a,b,c⟩ k=>{a,b,k _ c}}
end
section
variable{X:Cx}{pins:List (Addr×Obj)}{σ:St}{H:Hp}{s:Shared}{l:Addr}{xs:List V}
theorem Inv.IE(I:Inv X pins σ H s)(j:H l=ρ (.lst xs)):xs.9<=sizeLine/\∃(g:List Value) (n:Nat),Vals xs g/\xs.9=g.9/\s.heap.get? l=ρ {cls:=.type "list",data:=.seq g.toArray n}:=by
 let{z,g,n,r,e}:=I.b6 l _ j
 exact⟨z,g,n,r,r.9,e⟩
theorem oU:me X (binaryOp .Add) Va:=by
 intro d s σ H x y v u Q I f g h
 let{l,b,t,w,rfl,rfl,i,j,A,q}:=h
 cases f;cases g
 let{z,c,n,r,hl,e}:=I.IE i
 let{B,a,C,k,m,o}:=I.IE j
 refine wi5 e o ?_ (by rw[å,å];omega);have p:c.6++a.6=(c++a).6:=by simp
 rw[p];exact{.ref _,_,I.OD (t':=s.toks) (r.append k) (by rw[É];omega),rfl,q _ I.fresh}
theorem IG:me X (binaryOp .Mult) Vb:=by
 intro p s σ H x y v u Q I A B h
 let{l,k,L,rfl,rfl,C,D,E,w,q}:=h
 cases A
 let{t,rfl}:=B
 let{z,b,n,r,hl,e}:=I.IE C
 have d:b.toArray.size*k.toNat<=sizeLine:=by rw[å,<-hl];exact w
 have f:¬b.toArray.size*k.toNat>(2^63-1)/8:=by
  have:(sizeLine:Nat)<=(2^63-1)/8:=⋯
  lia
 have g:¬(!Builtin.List.listFitsIndex k)=true:=by
  rw[fitsIndex_both D E];exact ã
 have c:¬we4 (b.toArray.size*k.toNat)=true:=by
  rw[HR d];exact ã
 have i:wid (λj o=>j++o) #[] (Ý (if b.toArray.isEmpty=true then 0 else k.toNat) b.6)=(Ý k.toNat b).flatten.6:=by
  have G:∀m:Nat,wid (λj o=>j++o) #[] (Ý m b.6)=(Ý m b).flatten.6:=λm=>by
   grind [foldl_rep]
  rw[G]
  cases b with
  |nil=>simp
  |cons a M=>grind
 refine wpAny_binaryOp_repeat_ref (T:="list") (U:="int") ⋯ {_,e,rfl} (λJ=>typeIs_int J k t) noFill_list_mul F.fills_int_mul F.slot_int_rmul repeat_list F.slot_int_index.lookup
  (ο F.slot_int_rmul (typeIs_int s k t) F.entry_int_rmul (F.args_int_rmul_2 _ _) (int___rmul___int_list k t l b.toArray n)
    {e,rfl,{_,e,rfl},ο F.slot_list_mul {_,e,rfl} F.entry_list_mul (F.args_list_mul_2 _ _) (AutoListH.list___mul___list_int_3 l b.toArray n k t g f c) {e,?_}})
 rw[i];exact{.ref _,_,I.OD (t':=s.toks) (r.rep k.toNat) (by rw[Lw,whw];exact w),rfl,q _ I.fresh}
end
section
variable{X:Cx}{x:Str}{pos:Pos}{e:Expr}{te:Np}{i:Nat}{pos':Pos}
theorem eE(hc:X.calm=true)(h:TR X g t)
 (hn:(Ţ g X.5).9=n:=by rfl) (j:(Ţ g X.5).findIdx? (·.1)=τ:=by rfl):PG X (.Tuple g k pos) (HN X.K n t):=by
 refine{?_};intro c s σ H v u Q I r hw
 let{a,f,i,l,hl,hw}:=hw
 subst i;cases r
 let{m,d,p,y}:=I.tuple l
 refine assign_Tuple_tuple (I.ok.hd hc) p (by simp[hn,<-hl,d.9]) j λq w=>?_;have x:Inv X c σ H {s with heap:=q}:=I.kept (t':=s.toks) λb o e=>w b o (Ù (Ì e)) e;exact h c _ σ H f _ Q x (by simpa using d) hw
noncomputable def Vn(te:Np)(i:Nat):CA:=λE D σ H=>te (E σ) σ H λv H1=>D.nx (σ.set i (ρ v)) H1
theorem vD(he:TX X e te)(hs:Ċ e τ pos.line X.5=pure false:=by rfl):Ru X (.Expr e pos) (RC te):=by
 refine{?_};intro a s σ H D E I h;exact wpAny_Expr_any (í (he a s σ H _ (E σ) I h) (λv b ⟨x,c,d,g,f⟩=>⟨σ,c,d,f⟩) λi b z=>⟨σ,z⟩) I.quiet hs
end
section
variable{X:Cx}{pins:List (Addr×Obj)}{σ:St}{H:Hp}{s:Shared}{a:Addr}{y d:V}{u r:Value}{o:Option V}{A:Around}{E:Value->Shared->Prop}
theorem Vo{Q:Value->Shared->Prop}(p:A.units+1<ò)(I:Inv X pins σ H s)(g:eN H a y o)(j:RelV y u)(h:∀s',Inv X pins σ H s'->Q (.bool o.isSome) s') :
 wpAny (model X.prog X.w) A (ô .In u (.ref a)) Q E s:=by
 rcases g with⟨c,k,e,d,l⟩ |⟨c,k,b,e,d,i,l⟩
 .subst d
  let{z,hd,m,rel,f}:=lD I.b6 e
  refine wpAny_in_of (sR j) hd f.mapOf ?_;rw[<-(rel.val k).jH,<-l];exact h _ (I.tok _)
 .subst d;cases(show u=È b from j)
  let{z,hd,n,rel,f}:=vk I.b6 e
  refine wpAny_in_heap (wds p) (rH I.b6 i) hd f ?_;have q:=(rel.val k).jH;rw[wfv]at q;rw[<-q,<-l];exact h _ (I.tok _)
theorem LU{Q:Value->Shared->Prop}(p:A.units+1<ò)(I:Inv X pins σ H s)(g:eN H a y o)(j:RelV y u)(h:∀s',Inv X pins σ H s'->Q (.bool (!o.isSome)) s') :
 wpAny (model X.prog X.w) A (ô .NotIn u (.ref a)) Q E s:=by
 rcases g with⟨c,k,e,d,l⟩ |⟨c,k,b,e,d,i,l⟩
 .subst d
  let{z,hd,m,rel,f}:=lD I.b6 e
  refine wpAny_notIn_of (sR j) hd f.mapOf ?_;rw[<-(rel.val k).jH,<-l];exact h _ (I.tok _)
 .subst d;cases(show u=È b from j)
  let{z,hd,n,rel,f}:=vk I.b6 e
  refine wpAny_notIn_heap (wds p) (rH I.b6 i) hd f ?_;have q:=(rel.val k).jH;rw[wfv]at q;rw[<-q,<-l];exact h _ (I.tok _)
theorem OG{Q:Value->Shared->Prop}(t:A.units+1<ò)(I:Inv X pins σ H s)(g:eN H a y o)(j:RelV y u)(rd:RelV d r)(h:∀p s',Inv X pins σ H s'->RelV (o.getD d) p->Q p s') :
 wpAny (model X.prog X.w) A (call (.builtin "dict.get") [.ref a,u,r]) Q E s:=by
 rcases g with⟨f,k,e,i,l⟩ |⟨f,k,b,e,i,m,l⟩
 .subst i
  let{z,hd,q,rel,c}:=lD I.b6 e
  refine wfO weH c.typeIs wgt (wg7 _ _ _) (meets_dict_get_default (bA X.prog X.w) a (sR j) hd r) {_,c.mapOf,h _ _ (I.tok _) ?_};rw[l];exact(rel.val k).getD rd
 .subst i;cases(show u=È b from j)
  let{z,hd,n,rel,c}:=vk I.b6 e
  refine wfO weH c.typeIs wgt (wg7 _ _ _) (meetsH_dict_get_default (Ψ (bA X.prog X.w)) a b hd r) {wds t,k,n,rH I.b6 m,c,h _ _ (I.tok _) ?_};rw[l];exact(rel.val k).getD rd
end
section
variable{X:Cx}{pins:List (Addr×Obj)}{σ:St}{H:Hp}{s₂:Shared}{scope:Ă}{x:Str}{xs ys:List Str}{ix:List Nat}{cl:List (Str×Addr)}{fp:List Addr}{L:Addr}
theorem LV(B:cb X scope x ys ix)(I:Inv X pins σ H s₂)(j:∀b∈fp,uZ X pins H b)(l:∀b∈fp,b<s₂.8)(r:s₂.8<=L)
 (g:∀y c,cl.lookup y=ρ c->X.env.cells.lookup y=ρ c) (p:∀y∈scope.names,y.2=.free->∃c,cl.lookup y.1=ρ c):(bH X scope N cl L s₂ H fp (X.pn++pins)).Ok where
 mod:=I.ok.mod
 kind:=B.kind
 glob:=I.ok.glob
 blt:=I.ok.blt
 above:=r
 inj:=λa b c i m=>I.ok.inj a b c (g a c i) (g b c m)
 has:=λa ha=>by
  let{k,f,hk}:=zJ (env:=X.5) B.HZ (x:=a) ha
  exact p (a,k) f hk
 Oa:=λ_ _ h=>nomatch h
 hd:=I.ok.hd
 frames:=I.ok.frames
 Qn:=.inl rfl
 TL:=λb d=>{Ù (â (l b d) r),λy c h=>(j b d).2.2.2.2.1 y c (g y c h)}
 bs:=I.bs
 HL:=Í I.ok.HL I.sz
 Ck:=λb o e d=>by
  rcases(j b d).2.2.2.1 with z |z
  .exact I.ok.Ck b o e z
  .exact absurd (â (â (Ì e) I.ok.HL) z) (ă _)
 Fv:=λb d f=>by
  rcases à.mp (I.vh b f) with z |z
  .exact(j b d).2.1 z
  .exact(j b d).2.2.1 z
 pE:=I.stack
 Lp:=I.pI
theorem IH{m₁:Str->Option Value}(B:cb X scope x ys ix)(I:Inv X pins σ H s₂)(hf:∀b∈fp,uZ X pins H b)(J:∀b∈fp,b<s₂.8)(T:s₂.8<=L)
 (g:∀y c,cl.lookup y=ρ c->X.env.cells.lookup y=ρ c) (C:∀y∈scope.names,y.2=.free->∃c,cl.lookup y.1=ρ c)
 (kp:∀b o,s₂.heap.get? b=ρ o->t.get? b=ρ o) (U:t.Ns L m₁) (hl:l=s₂.8) (Vp:l≠L) (ho:t.get? l=ρ {cls:=.type "list",data:=.seq ([]:List Value).toArray n₀}) :
 Inv (bH X scope (xs++ys) cl L s₂ H fp (X.pn++pins)) [] (Ý xs.length τ++pick σ ix) (upd H l (.lst [])) {s₂ with heap:=t,toks:=tk}:=by
 subst hl;have Q:=I.b6.fresh (Ä s₂.8);refine{LV B I hf J T g C,rfl,I.bare,Un.laid kp (Ä _) Q,{m₁,U,λi y v D E Z=>?_},λy c e=>?_,?_,λy c e=>?_,λp O=>?_,I.b6.laid kp (Ä _) {Û _,[],n₀,.nil,ho},?_}
 .obtain⟨j,rfl⟩:∃j,i=xs.9+j:=by
   by_cases z:i<xs.9
   .rw[ā (by simpa using z)]at E;simp[z]at E
   .exact{i-xs.9,()}
  have G:ys[j]?=ρ y:=by
   have D:(xs++ys)[xs.9+j]?=ρ y:=D;rwa[ü (Nat.le_add_right _ _),wcQ]at D
  let{i,hi,R,hk,a}:=B.slots j y G
  have f:(σ[i]?).join=ρ v:=by
   have:(pick σ ix)[j]?=ρ (ρ v):=by rwa[ü (by simp),č,wcQ]at E
   unfold pick at this;rw[Ç,hi]at this;exact Ò this
  have s:σ[i]?=ρ (ρ v):=by
   cases q:σ[i]? with
   |none=>rw[q]at f;cases f
   |some z=>rw[q]at f;rw[show z=ρ v from f]
  let{m,hn,M}:=I.loc
  have N:Qm X.env.scope y:=.inr (hk.imp id id)
  let{u,r,l}:=M i y v R s N
  refine{u,r,.inr {vv a,?_}};rcases l with⟨k,_⟩ |⟨_,c,hc,h⟩
  .have A:X.env.scope.names.lookup y=ρ .local:=k;rcases hk with z |z
   .rw[z]at A;cases A
   .rw[z]at A;cases A
  .let{S,w}:=C (y,.free) (wcR a) rfl
   have:=g y S w;rw[hc]at this;cases this
   let{o,q,d}:=h
   exact{c,w,o,kp c o q,d}
 .let{v,o,q,d}:=I.cell y c (g y c e)
  exact{v,o,kp c o q,d}
 .show upd H s₂.heap.objs.size (.lst []) L=τ;rw[ae (æ Vp)];exact I.b6.fresh T
 .let{v,o,q,d}:=I.cell y c (g y c e)
  rw[ae (Ù (Ì q))];exact I.iL y c (g y c e)
 .rw[û]at O
  let{q,n,ne,V,d}:=I.pin p O
  have lt:=Ì q;refine{kp _ _ q,by rw[ae (Ù lt)];exact n,Ù (â lt T),λY=>?_,d};rcases à.mp (I.vh p.1 Y) with z |z
  .exact ne z
  .exact V z
 .simp[pick,B.len,bH]
theorem EB(B:cb X scope x ys ix)(cl L s H ex pn):PG (bH X scope ([x]++ys) cl L s H ex pn) (.Name x g) (bR 0):=
 have a:(relabel scope X.5).names.lookup x=ρ .local:=Ξ B.var
 ky B.nd rfl (.inl a) (.inr a)
end
section
variable{P:Ê}{w:World}{K:Á}{mg:Str->Option Value}{base:Heap}{N:List Str}{qual:Str}{scope:Ă}{f:Addr}{cd:Value}{A:Around}{outer:List Env}{s:Shared}{H:Hp}{E:XK}
theorem ku.past{lo:Nat}{H:Hp}{fs:List Addr}{h h':Heap}(x:ku P w H h)(p:CW lo H fs h h')(g:∀b∈fs,H b=τ):ku P w H h':=λa o e=>
 (x a o e).ur (λb u c q=>p.keep b u q (.inr (by grind)) λd=>by
   grind) (λ_ q=>q) λ_ _ q=>q
theorem bE:Es (vr (uM P w) P w K mg base N qual scope f cd A outer s H E) E:=by
 intro v σ l x e C y I F B;show wpAny (model P w) _ («leaving» _ (.ref e)) (λ_ d=>uM P w outer H s E (.ref e) d) (λD d=>uM P w outer H s E D d) x;unfold «leaving»;have g:∀b,x.8<=b->l b=τ:=λb a=>I.b6.fresh a;refine Â (vz (lo:=s.8) (H:=l) (base:=base) (outer:=outer) I.ok.frames I.stack rfl I.sz g F λJ G p=>?_);have m:=I.pI
 have h:∀b o,s.heap.get? b=ρ o->b∉rA outer->b∉(envOfC qual scope s.heap.objs.size f cd::outer).filterMap (·.frame):=λb o a hn j=>by
  rcases à.mp (show b∈s.8::rA outer from j) with z |z
  .exact absurd (Ì a) (by rw[z];exact ă _)
  .exact hn z
 refine{e,C,y,l,rfl,I.os,I.bare,?_,I.b6.past p m,G,B};have u:=I.base;refine{λb o a n c i=>?_,λb o a n c i=>?_,λb o a n i=>u.free b o a n i,λb o a i=>?_,u.rD,u.pD,u.rE}
 .exact p.keep b o (u.keep b o a n c i) (.inl (Ì a)) (h b o a c)
 .let{sl,k}:=u.slot b o a n c i
  let{q,r}:=p.slot b _ k (show b∈s.8::rA outer from Ô _ c)
  exact⟨q,r⟩
 .let{t,k}:=u.there b o a i
  by_cases j:b∈(envOfC qual scope s.heap.objs.size f cd::outer).filterMap (·.frame)
  .let{sl,r}:=p.slot b t k j
   exact{_,r}
  .exact{t,p.keep b t k (.inl (Ì a)) j}
theorem vE(r:KV g j)(C:vd g=true):∀{l:List (Key×V)} {I:List (Key×Value)},KV l I->vd l=true->wig A s j I (hitsD g l)
 |_,_,.nil,_=>.nil
 |_,_,@Paired.cons _ _ _ p q ps c h t,fa=>by
  let{k,v}:=p
  let{d,u}:=q
  let{f,i}:=h
  obtain rfl:k=d:=f;have f1:eh v=true:=õ.mp fa (k,v) (Ø ..);have f2:vd ps=true:=õ.mpr λz m=>õ.mp fa z (Ô _ m);have n:=vE r C t f2;have a:=r.val k;delta hitsD;rw[wfl];show wig A s j ((k,u)::c) ((match bD g k with |some y=>rG v y |none=>false)&&_)
  cases e:bD g k with
  |none=>
   rw[e]at a
   cases b:valueAt j k with
   |none=>exact .miss b
   |some y=>rw[b]at a;exact é a
  |some y=>
   rw[e]at a
   cases b:valueAt j k with
   |none=>rw[b]at a;exact é a
   |some o=>
    rw[b]at a;exact .hit b (zC i a f1 (FG C e)) n
end
section
variable{X:Cx}{pins:List (Addr×Obj)}{σ:St}{H:Hp}{s:Shared}{a:Addr}{y v:V}{u:Value}{A:Around}{E:Value->Shared->Prop}
theorem FK{Q:Value->Shared->Prop}(C:A.units+1<ò)(I:Inv X pins σ H s)(g:eN H a y (ρ v))(t:RelV y u)(h:∀j s',Inv X pins σ H s'->RelV v j->Q j s') :
 wpAny (model X.prog X.w) A (getItem (.ref a) u) Q E s:=by
 rcases g with⟨d,k,e,f,l⟩ |⟨d,k,b,e,f,n,l⟩
 .subst f
  let{z,hd,q,rel,i}:=lD I.b6 e
  let{j,hw,c}:=jw.uI (v:=v) (o:=valueAt q k) (by rw[l];exact rel.val k)
  exact wpAny_getItem_of (sR t) i.mapOf hw (h j _ (I.tok _) c)
 .subst f;cases(show u=È b from t)
  let{z,hd,r,rel,i}:=vk I.b6 e
  let{j,hw,c}:=jw.uI (v:=v) (o:=(atKey r k).map (·.2)) (by rw[l];exact rel.val k)
  let{p,x,m}:=wdw.mp hw
  refine wpAny_getItem_heap (wds C) (rH I.b6 n) i x ?_;rw[m];exact h j _ (I.tok _) c
theorem Inv.vF{l g:Hp}{j s1:Shared}{h':Heap}(C:Inv X pins σ l j)(r:s1.os=j.os)(bare:AllBare s1.gens)(un:Un (rA X.stack) [] l g j.heap s1.heap)(b6:ku X.prog X.w g s1.heap)
 (p:CW j.heap.objs.size g (rA X.stack) s1.heap h') (t:∀b∈rA X.stack,g b=τ):Un (rA X.stack) [] l g j.heap h'/\ku X.prog X.w g h'/\∀tk,Inv X pins σ g {s1 with heap:=h',toks:=tk}:=by
 have e:Un (rA X.stack) [] l g j.heap h':=by
  refine{λb o d n a f=>p.keep b o (un.keep b o d n a f) (.inl (Ì d)) a,λb o d n a f=>?_,un.free,λb o d f=>?_,un.rD,un.pD,un.rE}
  .let{sl,h}:=un.slot b o d n a f
   let{i,k}:=p.slot b _ h a
   exact⟨i,k⟩
  .let{m,h}:=un.there b o d f
   by_cases q:b∈rA X.stack
   .let{sl,k}:=p.slot b m h q
    exact{_,k}
   .exact{m,p.keep b m h (.inl (Ì d)) q}
 have c:=b6.past p t;exact{e,c,λtk=>C.vp (s':={s1 with heap:=h',toks:=tk}) r e c bare λb z=>absurd z (by simp)}
theorem OH(g:X.A.units<ò):me X (ô .Eq) UY:=by
 intro c s σ H x y v u Q I f i h
 let{a,b,p,r,rfl,rfl,ha,j,fa,k,q}:=h
 cases f;cases i
 let{_,l,t,d,m}:=lD I.b6 ha
 let{_,n,w,e,o}:=lD I.b6 j
 refine PySem.W.keq_eq l n m o g (λ_=>vE e k d fa) {.bl _,H,I,rfl,?_};rw[<-d.9,<-e.9];exact q
end
section
variable{X:Cx}{o i:Expr}{pos:Pos}{td ty:TE}
theorem dC(j:X.A.units+1<ò)(l:PE X o td)(hi:PE X i ty)(hs:Rc i):PE X (.Subscript o i pos) (Rk td ty):=by
 refine{?_};intro b s σ H Q I h;refine Lx PySem.F.slot_dict_getitem.lookup hs (bQ (l b s σ H _ I h) λu e ⟨x,f,k,m,n⟩=>bQ (hi b e σ f _ k n) λw z ⟨y,p,d,q,a,v,ex,g,r⟩=>?_);subst ex;obtain rfl:u=È a:=m;exact{AQ d g,FK j d g q λB C t c=>⟨v,p,t,c,r⟩}
theorem II(j:X.A.units+1<ò)(hi:PE X i ty)(l:PE X o td):PC X .In i o (UO ty td):=by
 refine{?_};intro b s σ H Q I h;refine bQ (hi b s σ H _ I h) λv c ⟨y,d,e,f,k⟩=>bQ (l b c σ d _ e k) λu w ⟨x,m,n,p,a,q,ex,g,r⟩=>?_;subst ex;obtain rfl:u=È a:=p;exact Vo j n g f λz t=>{.bl q.isSome,m,t,rfl,r}
theorem yF(j:X.A.units+1<ò)(hi:PE X i ty)(l:PE X o td):PC X .NotIn i o (LC ty td):=by
 refine{?_};intro b s σ H Q I h;refine bQ (hi b s σ H _ I h) λv c ⟨y,d,e,f,k⟩=>bQ (l b c σ d _ e k) λu w ⟨x,m,n,p,a,q,ex,g,r⟩=>?_;subst ex;obtain rfl:u=È a:=p;exact LU j n g f λz t=>{.bl (!q.isSome),m,t,rfl,r}
end
section
variable{κ:Type}[DecidableEq κ]
theorem IJ{kvs:List (κ×V)}{k:κ}(h:bD kvs k=τ):¬k∈kvs.map (·.1):=by
 intro m
 let{p,a,e}:=Æ.mp m
 have q:(kvs.any λb=>decide (b.1=k))=true:=ō.mpr {p,a,decide_eq_true e};rw[iN,h]at q;exact absurd q (by simp)
theorem zP{kvs:List (κ×V)}{k:κ}{v:V}(h:bD kvs k=ρ v):k∈kvs.map (·.1):=by
 have q:(kvs.any λa=>decide (a.1=k))=true:=by
  rw[iN,h]
  all_goals rfl
 let{p,b,e}:=ō.mp q
 exact Æ.mpr {p,b,of_decide_eq_true e}
end
section
variable{X:Cx}{e:Expr}{es:List Expr}{te:TE}{t:TJ}{pos:Pos}
theorem oV(h:k∉mv.map (·.1)):bD (cN mv) (Å k:Key)=τ:=by
 cases q:bD (cN mv) (Å k:Key) with
 |none=>rfl
 |some v=>
  have:=zP q;unfold cN at this;rw[Î]at this
  let{m,a,e}:=Æ.mp this
  have b:m.1=k:=Ě e;exact absurd (Æ.mpr ⟨m,a,b⟩) h
theorem rR(h:PJ X es t):PJ X (.Constant (.str z) j pos::es) (Vg z t):={λa s σ H b Q I q=>
 joinParts_cons (whu {q.1,h a _ σ H _ Q (I.tok _) q.2})}
theorem zQ(he:PE X e te)(h:PJ X es t):PJ X (.FormattedValue e (-1) τ pos::es) (Vh te t):={λa s σ H j Q I q=>by
 refine joinParts_cons (FormattedValue_plain (bQ (he a s σ H _ I q) λv n ⟨y,d,f,g,k⟩=>?_));rcases k with⟨i,rfl,hl,b,c⟩ |⟨z,rfl,hl,b,c⟩
 .let{l,rfl}:=g
  exact formatField_int_small hl {b,h a _ σ d _ Q (f.tok _) c}
 .let{l,rfl}:=g
  exact formatField_str (λo m=>{b,h a _ σ d _ Q (f.tok _) c}) hl}
theorem yG(f:Str->V)(h:k∉g):bD (rL f g) (Å k:Key)=τ:=by
 cases q:bD (rL f g) (Å k:Key) with
 |none=>rfl
 |some v=>
  have:=zP q;unfold rL at this;rw[Î]at this
  let{m,a,e}:=Æ.mp this
  have b:m=k:=Ě e;subst b;exact absurd a h
end
section
variable{X:Cx}{x:Str}{p pos:Pos}{e:Expr}{es:List Expr}{t:TA}{id:String}{r:List V->Hp->VK->Prop}
def U2(r:List V->Hp->VK->Prop)(t:TA):TE:=λσ H Q=>t σ H λvs H1=>r vs H1 Q
theorem aF(hc:dO X (.builtin id) r)(j:Gl X x)(l:X.mg x=τ)(C:ð x=ρ (.builtin id))(ha:PA X (e::es) t)(hn:x≠"__name__":=by decide)(g:(x==("__debug__":Str))=false:=by decide)
 (he:starEach (e::es) X.5=(false,eval e X.5)::starEach es X.5:=by rfl) (hpl:(backTo pos (starEach es X.5)).any (·.1)=false:=by rfl):PE X (.Call (.Name x p) (e::es) [] pos) (U2 r t):=by
 refine{?_};intro a s σ H Q I h;refine Ń (gN I j l C ?_ hn g);exact weU (bQ (ha pos a s σ H _ I h) λb c ⟨d,f,i,k,m⟩=>hc a c σ f d b Q i k m) he hpl
end
section
variable{X:Cx}{e:Expr}{te:TE}{lo hi:Option Expr}{tl th:TO}{pos p2:Pos}
def Vq(X:Cx)(r:V->Option Int->Option Int->Hp->VK->Prop):Prop:=
 ∀(pins:List (Addr×Obj)) (s:Shared) (σ:St) (H:Hp) (x:V) (v vl vu:Value) (lo hi:Option Int) (sl:Addr) (Q:VK),Inv X pins σ H s->RelV x v->s.heap.IsSliceOf sl vl vu .none->IsPart vl lo->IsPart vu hi->r x lo hi H Q ->
  ∃T id,wfE (.type T) "__getitem__"=pure (ρ (.builtin id))/\s.TypeIs v T/\wpAny (model X.prog X.w) X.A (getItem v (.ref sl)) (EP X pins σ Q) X.xe s
theorem bq{r:V->Option Int->Option Int->Hp->VK->Prop}(j:Vq X r)(he:PE X e te)(hl:PO X lo tl)(p:PO X hi th):PE X (.Subscript e (.Slice lo hi τ p2) pos) (tSl r te tl th):=by
 refine{?_};intro a s σ H Q I h;refine Subscript_ (bQ (he a s σ H _ I h) λv i ⟨x,k,m,n,o⟩=>?_);refine wpAny_Slice (bQ (hl a i σ k _ m o) λd t ⟨l,y,z,pl,B⟩=>bQ (p a t σ y _ z B) λf c ⟨u,g,C,D,E⟩=>?_);rw[evalPart_none];refine Ï ?_;have G:Inv X a σ g {c with heap:=c.heap.push {cls:=.type "slice",data:=.fields #[d,f,.none]}}:=C.kept (t':=c.toks) λb ob q=>Õ _ q
 let{T,id,J,L,M}:=j a {c with heap:=c.heap.push {cls:=.type "slice",data:=.fields #[d,f,.none]}} σ g x v d f l u c.heap.objs.size Q G n (Heap.IsSliceOf.new ..) pl D E
 show wpAny (model X.prog X.w) X.A (wh6 e (.Slice lo hi τ p2) v (.ref c.8)) (EP X a σ Q) X.xe {c with heap:=c.heap.push {cls:=.type "slice",data:=.fields #[d,f,.none]}};exact tail_any (ops:=[.ref c.8,v]) L J M (by with_unfolding_all rfl)
end
section
variable{X:Cx}{o e:Expr}{es:List Expr}{to:TE}{t:TA}{name:Str}{apos eX:Pos}{T id:String}{r:V->List V->Hp->VK->Prop}
theorem IK(p:wgT T)(slot:Slot T name id)(l:typeOf (.builtin id)=pure (.type "method_descriptor"))(C:Ny X id r)(J:PE X o to)
 (g:Ň o name X.env (eval o X.5)=eval o X.5:=by rfl) (j:(apos.endLine==eX.line)=true:=by rfl):PE X (.Call (.Attribute o name apos) [] [] eX) (Ry X.K T r to):=by
 refine{?_};intro a s σ H Q I h;refine wpAny_Call_method0_late g j (bQ (J a s σ H _ I h) λv d ⟨x,e,b,c,ty,f⟩=>?_)
 let{i,k}:=Im b c ty
 exact{T,id,p,slot,l,i,k,wdy rfl (PySem.evalArgs_none (C a d σ e x [] v [] Q b c .nil f))}
theorem ja(J:wgT T)(slot:Slot T name id)(C:typeOf (.builtin id)=pure (.type "method_descriptor"))(U:Ny X id r)(ho:PE X o to)(ha:PA X (e::es) t)
 (j:Ň o name X.env (eval o X.5)=eval o X.5:=by rfl)
 (p:((backTo eX (starEach (e::es) X.5)).all (λx=>!x.1)&&(backToKw eX (Ĭ [] X.5)).all (λx=>x.1.isSome)
   && decide ((e::es).9+([]:List Ŝ).9+(if ([]:List Ŝ).isEmpty then 0 else 1)<30))=true:=by rfl)
 (l:(apos.endLine==eX.line)=true:=by rfl) (hs:starEach (e::es) X.5=(false,eval e X.5)::starEach es X.5:=by rfl) (g:(backTo eX (starEach es X.5)).any (·.1)=false:=by rfl) :
 PE X (.Call (.Attribute o name apos) (e::es) [] eX) (XE X.K T r to t):=by
 refine{?_};intro a s σ H Q I h;refine wpAny_Call_method_late j p l rfl (bQ (ho a s σ H _ I h) λv f ⟨x,i,b,c,ty,k⟩=>?_)
 let{m,n}:=Im b c ty
 refine{T,id,J,slot,C,m,n,?_};have d:=ha eX a f σ i _ b k;rw[hs]at d ⊢;refine wdy (by show (false ||(backTo eX (starEach es X.5)).any (·.1))=false;rw[g]<;>rfl) (weV ?_);exact bQ d λq u ⟨w,y,z,A,B⟩=>U a u σ y x w v q Q z c A B
theorem fq:Vq X (λx lo hi H Q=>∃z,x=.str z/\z.9<=sizeLine/\Q (.str (î z lo hi)) H):=by
 intro a s σ H x v p r lo hi sl Q I m n pl f h
 let{z,rfl,b,q}:=h
 let{t,rfl}:=m
 refine{"str",_,slot_str_getitem.lookup,typeIs_str s z t,?_};have fin:∀d k,EP X a σ Q (.str (î z lo hi) d) {s with toks:=k}:=λd k=>{.str _,H,I.tok k,⟨d,rfl⟩,q}
 let{o,c,hc,hd}:=n
 cases pl with
 |none=>cases f with
  |none=>exact wdd (l:=τ) (u:=τ) (st:=τ) ⟨o,c,hc,hd⟩ rfl (weW {Í (weX z _ _) b,fin})
  |int j e=>exact wdd (l:=τ) (u:=ρ (j,e)) (st:=τ) ⟨o,c,hc,hd⟩ rfl (weW {Í (weX z _ _) b,fin})
 |int i g=>cases f with
  |none=>exact wdd (l:=ρ (i,g)) (u:=τ) (st:=τ) ⟨o,c,hc,hd⟩ rfl (weW {Í (weX z _ _) b,fin})
  |int j e=>exact wdd (l:=ρ (i,g)) (u:=ρ (j,e)) (st:=τ) ⟨o,c,hc,hd⟩ rfl (weW {Í (weX z _ _) b,fin})
end
section
variable{s:Shared}{f:Str}{A:Around}{E:Value->Shared->Prop}
theorem EC{Q:Value->Shared->Prop}(j:Ň e f env (eval e env)=eval e env)
 (h:wpAny (model prog w) A (eval e env) (λo g=>wpAny (model prog w) A (getAttr o f true) Q E g) E s):wpAny (model prog w) A (eval (.Attribute e f pos) env) Q E s:=
 Attribute_any_ h (by rw[arm_eval_Attribute,j])
theorem ED{X:Cx}{K:Á}{o:Expr}{t:TE}{name:Str}{apos g:Pos}{T id:String}{r:V->List V->Hp->VK->Prop}(C:X.K=K)(I:wgT T)(slot:Slot T name id)(p:typeOf (.builtin id)=pure (.type "method_descriptor"))(J:Ny X id r)(U:PE X o t)
 (j:Ň o name X.env (eval o X.5)=eval o X.5:=by rfl) (l:(apos.endLine==g.line)=true:=by rfl):PE X (.Call (.Attribute o name apos) [] [] g) (Ry K T r t):=by
 subst C;exact IK I slot p J U j l
end
section
variable{prog:Ê}{w:World}{A:Around}{E:Value->Shared->Prop}{s:Shared}{K:Á}{x dx C:Addr}{mA:Str->Option Value}{name:Str}{v:Value}
theorem get_map{Q:Value->Shared->Prop}(X:K.In s.heap)(I:Cm s.heap x dx C mA)(j:weB K C name=true)(l:wfs K C=true)
 (ha:Ā K (.ref C) name=ρ τ) (p:mA name=ρ v) (g:wi0 v=true) (h:Q v {s with toks:=s.toks+1}) :
 wpAny (model prog w) A (getAttr (.ref x) name expr) Q E s:=by
 let{a,J,hl}:=I.look
 exact PySem.W.get_value X J (wf6 j).1 (PySem.W.findObj_own l ha rfl (by rw[hl,p])) g h
theorem LW{Q:Unit->Shared->Prop}(X:K.In s.heap)(I:Cm s.heap x dx C mA)
 (hs:Ā K (.ref C) "__setattr__"=ρ (ρ (.builtin "object.__setattr__"))) (g:whE K C=true) (j:wgd K C name=ρ τ) (l:wfs K C=true)
 (hw:weP mA ns) (hsz:ns.9<=sizeLine)
 (h:∀h',Cm h' x dx C (λy=>if y=name then ρ v else mA y)->weR dx s.heap h'->Q .unit {s with heap:=h',toks:=s.toks+2}) :
 wpAny (model prog w) A (setAttr (.ref x) name v) Q E s:=by
 let{p,J,hl}:=I.look
 refine wfy X J hs (PySem.W.osa_open (s:={s with toks:=s.toks+1}) (r:=τ) X J g j λb=>?_)
 let{q,hc,e}:=PySem.W.any_some l
 have i:s.heap.get? x=ρ {.ref C,ρ dx,.plain,#[]}:=I.obj;refine Â (Ï (Â (Â (wfb i (Â (wfh (s:={s with toks:=s.toks+1}) (weq X hc) ?_))))));rw[e];refine Ï (a:=ρ dx) (Â (Ï (Â ?_)));refine whx (s:={s with toks:=s.toks+1}) I.ns λh' c d=>?_
 let{t,k,m,f,n,o}:=c.count (wgi name v hw)
 refine Â (wfQ f (by grind [wfR,Í]) ?_);exact Ï (h _ {(d.2 _ (æ I.ne)).trans I.obj,c,I.ne} d)
end
section
variable{prog:Ê}{w:World}{A:Around}{E:Value->Shared->Prop}{s:Shared}{K:Á}{x dx C f:Addr}{mA:Str->Option Value}{name:Str}
theorem IL{Q:Value×List Value->Shared->Prop}(X:K.In s.heap)(I:Cm s.heap x dx C mA)(g:weB K C name=true)
 (j:Ā K (.ref C) name=ρ (ρ (.ref f))) (l:Φ K (.ref f)=true) (p:mA name=τ) (h:Q (.ref f,[.ref x]) s) :
 wpAny (model prog w) A (ţ (.ref x) name pl) Q E s:=by
 let{a,J,hl}:=I.look
 exact PySem.W.method_fn X J (wf6 g).1 (wf6 g).2 j (beq_iff_eq.mp l) (by show (wf9 name a).map (·.isSome)=ρ false;rw[hl,p];rfl) h
theorem B6{R:ī->Shared->Prop}(X:K.In s.heap)(l:wih K C=true)
 (hi:Ā K (.ref C) "__init__"=ρ (ρ (.ref f))) (p:PySem.W.typeIn K (.ref f)=ρ (.type "function"))
 (h:codeAny (model prog w) (A.under (.builtin "type.__call__" {.ref C::vs,j})) (.call (.ref f) {.ref (s.8+1)::vs,j}) (PySem.W.InitBack (s.8+1) R)
   {s with heap:=(s.heap.push ŕ).push (Ų C s.8)}) :
 codeAny (model prog w) A (.call (.ref C) ⟨vs,j⟩) R s:=by
 let{a,g,d,t,os}:=s
 exact PySem.W.make_core (PySem.W.makes_of X l) (ς X hi) (λself=>PySem.W.bind_fn X self p) (.inl rfl) h
end
section
variable{P:Ê}{h':Heap}{fs:List (Str×V)}{X:Cx}{pins:List (Addr×Obj)}{ta:TE}{pos:Pos}{dx f:Addr}{value:Expr}{pos':Pos}{tv:TE}{CX:Fx}{fd:ï}{ps:List Str}{sp:Sp}{vc:List V}{ds:List Value}{es:List Expr}{apos:Pos}{ys:List Str}{td:TE}{eX:Pos}{tx:TE}{tg:Expr}{R:ī->Shared->Prop}{scope:Ă}{ix:List Nat}{cl:List (Str×Addr)}{fp:List Addr}{L:Addr}{qual:Str}{os:ù}{nm:Str}{CB:Addr}{bs:List Value}{hdct:Bool}{sn:List Str}{sub:List Value}{ab:Bool}{col:Option Bool}{dd:Option Addr}{k0 k1 k2 k3 k5:Option Value}{e2:Expr}{EE:Str}{body:List Stmt}{p1 p2 p3 p4 LX:Pos}{st:Stmt}{x2 x3:Str}{C1:Addr}{zR:Str}
theorem zS{l:Expr}{C:TE}(hl:PE X l C):PI X tg l (UP C):=by
 refine{?_};intro f s σ H R I h;refine bQ (hl f s σ H _ I h) λv a ⟨x,B,n,D,G⟩=>?_
 let{z,e,q}:=G
 subst e
 let{t,rfl}:=D
 have fin:∀(j:String) (o:Obj),(∀m:Around,m.handled=τ->Walks X.prog X.w m a.heap.objs.size [a.8] [a.8] z.cps.size (SignAt z) (λi h=>h.IsStrIter a.heap.objs.size j z t i)) ->
  (∀(A:Around) (i:Nat) (s:Shared) (Q:Value->Shared->Prop) (E:Value->Shared->Prop),s.heap.IsStrIter a.heap.objs.size j z t i->Q (.ref a.8) s->wpAny (model X.prog X.w) A (pyIter (.ref a.8)) Q E s) ->
  Nm j->(a.heap.push o).IsStrIter a.heap.objs.size j z t 0->Qq X f σ tg R (.ref a.8) {a with heap:=a.heap.push o}:=by
  intro j o J g p r
  refine{a.8,[a.8],_,_,B,rfl,n.kept (t':=a.toks) λb o e=>Õ _ e,
   D2 (val:=yq z) J (λi h st=>?_) (λi h O st k=>?_) g (λi u L=>?_),{r,Û _},λb M=>?_,q}
  .let{o,e,c,d}:=st
   exact{o,j,_,e,c,d,p}
  .let{o,e,c,d}:=st
   exact{o,k o e,c,d}
  .let{c,N,hc,e}:=L
   refine{N,?_};rw[e,wcU,hc];rfl
  .have e:b=a.8:=by simpa using M
   subst e;exact n.zI (Ä _) (n.b6.fresh (Ä _))
 cases ha:z.cps.all (· < 128)
 .exact wpAny_pyIter_wide ha (fin "str_iterator" _ (λm y=>Walks.strWide y _ z t) (λA i s Q E st h=>wpAny_pyIter_striter_wide st h) ⋯ {_,è _ rfl,rfl,rfl})
 .exact wpAny_pyIter_ascii ha (fin "str_ascii_iterator" _ (λm y=>Walks.strAscii y _ z t) (λA i s Q E st h=>wpAny_pyIter_striter_ascii st h) ⋯ {_,è _ rfl,rfl,rfl})
theorem xN{K:Á}(g:X.K=K):dO X (.type "list") (λxs H Q=>∃p ys,xs=[.ref p]/\(aO K H p ys\/gM K H p ys)/\∀l,H l=τ->Q (.ref l) (upd H l (.lst ys))):=by
 subst g;exact dQ
end
section
variable{f C:Addr}
structure Mk(K:Á)(C f:Addr):Prop where
 makes:wih K C=true
 init:Ā K (.ref C) "__init__"=ρ (ρ (.ref f))
 fn:Φ K (.ref f)=true
 kp:ź K (.ref C)=true
end
section
variable{prog:Ê}{w:World}{A:Around}{R:ī->Shared->Prop}{s:Shared}
theorem FL(I:Nat->Shared->Prop)
 (J:∀n s,I n s->wpAny (model prog w) A (pyNext it) (λr g=>match r with
   |none=>R (.ok .next) g
   |some v=>wpAny (model prog w) A (weM target it v) (λ_ j=>wpAny (model prog w) A (assign target env v) (λ_ p=>
     wpAny (model prog w) A (forIn T true λc r=>if r=true then do let ok <-isTrue c env (eval c env);pure (Α ok) else pure (Α r)) (λok l=>
      if ok=true then wpAny (model prog w) A (eval U env) (λx t=>
       wpAny (model prog w) A (call (.builtin "list.append") [acc,x]) (λ_ C=>∃m,m<n/\I m C) (notedBy (model prog w) A env λe s'=>R (.error e) s') t) (notedBy (model prog w) A env λe s'=>R (.error e) s') l
      else ∃m,m<n/\I m l) (notedBy (model prog w) A env λe s'=>R (.error e) s') p) (notedBy (model prog w) A env λe s'=>R (.error e) s') j) (notedBy (model prog w) A env λe s'=>R (.error e) s') g) (notedBy (model prog w) A env λe s'=>R (.error e) s') s)
 (n:Nat) (h:I n s) :
 codeAny (model prog w) A (.compLoop (.ListComp U [⟨target,iter,T,0⟩] scope pos) 0 it acc env) R s:=by
 refine codeAny_loop rfl I (λn s q=>?_) n h;show wpAny _ A ((compTurn (.ListComp U [⟨target,iter,T,0⟩] scope pos) 0 it acc env).onRaise (λx=>do noteFrame x env;theTreesLotGoes x)) _ _ s;refine wpAny_noted ?_;rw[compTurn_list];refine Â (Η (Â (í (J n s q) (λr g b=>?_) λ_ _ a=>a)))
 cases r with
 |none=>exact Ï b
 |some v=>
  refine Â (í b (λ_ j f=>?_) λ_ _ a=>a);refine Â (í f (λ_ p i=>Â (í i (λok l d=>?_) λ_ _ a=>a)) λ_ _ a=>a)
  cases ok with
  |false=>exact Ï ⟨rfl,d⟩
  |true=>
   exact Â (Â (í d (λx t k=>Â (í k (λ_ C o=>Ï (Ï ⟨rfl,o⟩)) λ_ _ a=>a)) λ_ _ a=>a))
end
section
variable{X:Cx}{ta:TE}{a b:Expr}{pos:Pos}
theorem cC(g:me X (ô op) r)(ha:PE X a ta)(j:PE X b l)(h:op≠.In:=by decide)(I:op≠.NotIn:=by decide):PT X (.Compare a [op] [b] pos) (Nj (QU r ta l)):=g7 g ha j (kr _ h I)
end
section
variable{X:Cx}{pins:List (Addr×Obj)}{σ:St}{H:Hp}{s:Shared}{C:Addr}
theorem Inv.made(I:Inv X pins σ H s):Inv X pins σ (upd (upd H s.heap.objs.size (.own (s.8+1))) (s.8+1) (.ins C s.heap.objs.size []))
 {s with heap:=(s.heap.push ŕ).push (Ų C s.8)}:=by
 have c:(s.heap.push ŕ).get? s.8=ρ ŕ:=è s.heap rfl
 have d:((s.heap.push ŕ).push (Ų C s.8)).get? (s.8+1)=ρ (Ų C s.8):=by
  have:=è (s.heap.push ŕ) (o:=Ų C s.8) rfl;rwa[Ĳ]at this
 have f:(s.heap.push ŕ).Ns s.heap.objs.size (λ_=>τ):={ŕ,#[],_,c,rfl,(λe g=>absurd g (by simp)),λ_=>rfl};have h:=I.laid (a:=s.8) (o:=.own (s.8+1)) (h':=s.heap.push ŕ) (t':=s.toks) (λb u q=>Õ _ q) (Ä _) {_,c};refine h.laid (a:=s.8+1) (o:=.ins C s.heap.objs.size []) (t':=s.toks) (λb u q=>Õ _ q) (Ν (Ĳ _ _)) ?_;have ne:s.heap.objs.size≠s.8+1:=Ù (ň _);refine{by rw[ae ne,a6],Û _,ne,d,λ_=>τ,(whG f).at λo q=>Õ _ q,λ_=>Ć,λy i=>absurd rfl i}
end
section
variable{X:Cx}{pins:List (Addr×Obj)}{σ:St}{H:Hp}{s s':Shared}
theorem Inv.after(I:Inv X pins σ H s)(h:CE X.stack X.prog X.w H s Q u s'):EP X pins σ Q u s':=by
 let{v,c,os,bare,un,b6,r,q}:=h
 let{e,g,d,t,a}:=s'
 obtain rfl:a=s.os:=os;exact{v,c,I.call (h':=e) (g':=g) (d':=d) (t':=t) (ch:=[]) un b6 bare (λb z=>absurd z (by simp)),r,q}
end
section
variable{X:Cx}{CX:Fx}{k:Nat}{f C:Addr}{fd:ï}{ps:List Str}{sp:Sp}{vc:List V}{ds:List Value}{E:XK}{x:Str}{p pos:Pos}{e:Expr}{es:List Expr}{t:TA}
theorem D4(F:aR X.prog X.w X.K X.mg X.base CX k f fd ps sp)(j:dJ k X.A)(l:Binds X.K fd ps ds)(hd:Vals vc ds)(J:Passes CX X E)
 (I:Inv X g σ H s) (r:Vals vs us) (h:sp (vs++vc) H Q E):wpAny (model X.prog X.w) X.A (call (.ref f) us) (EP X g σ Q) X.xe s:=by
 have b:Vals (vs++vc) (us++ds):=r.append hd;have hl:(us++ds).9=ps.9:=by rw[<-b.9];exact F.len _ _ _ _ h
 refine ě (Ī (F.run X.A X.stack s H {us,[]} (us++ds) (vs++vc) Q E j I.Io (l s us I.gJ hl) b h) λr c a=>?_)
 cases r with
 |error e=>exact J g σ H s e c I a
 |ok fl=>
  cases fl with
  |ret u=>exact I.after a
  |next=>exact é a
  |brk=>exact é a
  |cont=>exact é a
theorem kE(F:aR X.prog X.w X.K X.mg X.base CX k f fd ps sp)(j:dJ k X.A)(l:Gl X x)(J:X.mg x=ρ (.ref f))(hk:ź X.K (.ref f)=true)(T:Binds X.K fd ps ds)(hd:Vals vc ds)(U:Passes CX X E)
 (ha:PA X (e::es) t) (g:(x==("__debug__":Str))=false:=by decide) (he:starEach (e::es) X.5=(false,eval e X.5)::starEach es X.5:=by rfl) (hpl:(backTo pos (starEach es X.5)).any (·.1)=false:=by rfl) :
 PE X (.Call (.Name x p) (e::es) [] pos) (Nk sp vc E t):=by
 refine{?_};intro a s σ H Q I h;refine Ń (g8 I l J ?_ g);refine ų (h₀:=X.base) I.ok.mod.Ln hk (bQ (ha pos a s σ H _ I h) λc d ⟨i,m,b,r,q⟩=>{b.gJ,?_}) he hpl;exact D4 F j T hd U b r q
theorem IM(M:Mk X.K C f)(F:aR X.prog X.w X.K X.mg X.base CX k f fd ps sp)(l:dJ (k+1) X.A)(J:Binds X.K fd ps ds)(hd:Vals vc ds)
 (T:Passes CX X E) (I:Inv X g σ H s) (r:Vals vs us)
 (h:∀x j,H x=τ->H j=τ->j≠x->sp (.ref x::(vs++vc)) (upd (upd H j (.own x)) x (.ins C j [])) (λv U=>v=.non/\Q (.ref x) U) E) :
 wpAny (model X.prog X.w) X.A (call (.ref C) us) (EP X g σ Q) X.xe s:=by
 have c:=h (s.8+1) s.heap.objs.size (I.b6.fresh (Ġ _)) (I.b6.fresh (Ä _)) (Ù (ň _));have b:=Inv.made (C:=C) I;have d:Vals (V.ref (s.8+1)::(vs++vc)) (È (s.8+1)::(us++ds)):=.cons rfl (r.append hd)
 have hl:(È (s.8+1)::us++ds).9=ps.9:=by
  have e:=d.9;rw[F.len _ _ _ _ c]at e;exact e.symm
 refine ě (B6 (f:=f) I.gJ M.makes M.init (beq_iff_eq.mp M.fn) (Ī (F.run _ X.stack _ _ {È (s.8+1)::us,[]} (È (s.8+1)::(us++ds)) _ _ E (l.make C us [])
  (b.Io.make C us []) (J _ (È (s.8+1)::us) b.gJ hl) d c) λr i a=>?_))
 cases r with
 |error e=>exact T g σ _ _ e i b a
 |ok fl=>
  cases fl with
  |ret u=>
   let{v,m,n,o,p,q}:=b.after a
   subst p;exact{o,{V.ref (s.8+1),m,n,rfl,q}}
  |next=>exact é a
  |brk=>exact é a
  |cont=>exact é a
theorem nN(M:Mk X.K C f)(F:aR X.prog X.w X.K X.mg X.base CX k f fd ps sp)(j:dJ (k+1) X.A)(l:Gl X x)(J:X.mg x=ρ (.ref C))(T:Binds X.K fd ps ds)(hd:Vals vc ds)(U:Passes CX X E)
 (ha:PA X (e::es) t) (g:(x==("__debug__":Str))=false:=by decide) (he:starEach (e::es) X.5=(false,eval e X.5)::starEach es X.5:=by rfl) (hpl:(backTo pos (starEach es X.5)).any (·.1)=false:=by rfl) :
 PE X (.Call (.Name x p) (e::es) [] pos) (QY C sp vc E t):=by
 refine{?_};intro a s σ H Q I h;refine Ń (g8 I l J ?_ g);refine ų (h₀:=X.base) I.ok.mod.Ln M.kp (bQ (ha pos a s σ H _ I h) λc d ⟨i,m,b,r,q⟩=>{b.gJ,?_}) he hpl;exact IM M F j T hd U b r q
end
section
variable{X:Cx}
theorem ao(F:aR X.prog X.w X.K X.mg X.base d4 k f fd ps sp)(a:FnAt X.K X.mg x sm ps f fd)(ha:PA X (e::j) t)(r:dJ k X.A:=by exact dJ.mono (by assumption) ⋯)(C:Gl X x:=by rfl)(l:(x==("__debug__":Str))=false:=by decide)
 (he:starEach (e::j) X.5=(false,eval e X.5)::starEach j X.5:=by rfl) (hpl:(backTo pos (starEach j X.5)).any (·.1)=false:=by rfl):PE X (.Call (.Name x p) (e::j) [] pos) (Nk sp [] E0 t):=
 kE F r C a.g a.F.kp a.b .nil pJ ha l he hpl
end
section
variable{X:Cx}{k:Nat}{f:Addr}{fd:ï}{ps:List Str}{sp:Sp}
theorem LY(F:aR X.prog X.w X.K X.mg X.base (uM X.prog X.w) k f fd ps sp)(j:dJ k X.A)(l:Binds X.K fd ps [])
 (I:Inv X g σ H s) (r:Vals vs us) (h:sp vs H Q E):wpAny (model X.prog X.w) X.A (call (.ref f) us) (EP X g σ Q) (V4 X g σ E) s:=by
 have hl:(us++[]).9=ps.9:=by rw[û,<-r.9];exact F.len _ _ _ _ h
 have a:=l s us I.gJ hl;rw[û]at a;refine ě (Ī (F.run X.A X.stack s H {us,[]} us vs Q E j I.Io a r h) λr c b=>?_)
 cases r with
 |error e=>exact⟨H,s,I,b⟩
 |ok fl=>
  cases fl with
  |ret u=>exact I.after b
  |next=>exact é b
  |brk=>exact é b
  |cont=>exact é b
end
section
variable{X:Cx}{a b:Expr}{ta tb:TE}{pos:Pos}{rest:List Expr}
theorem vG(ha:PE X a ta)(j:PE X (.BoolOp .And (b::rest) pos) tb):PE X (.BoolOp .And (a::b::rest) pos) (Ro ta tb):=by
 refine{?_};intro d s σ H Q I h;refine BoolOp_and (bQ (ha d s σ H _ I h) λv i ⟨x,f,g,k,e⟩=>?_)
 let{c,rfl,e}:=e
 cases k;refine ř ?_
 cases c with
 |true=>exact j d i σ f Q g e
 |false=>exact{.bl false,f,g,rfl,e}
end
section
variable{X:Cx}{pins:List (Addr×Obj)}{σ:St}{H:Hp}{s:Shared}{x:Addr}{φ:Heap->Prop}
theorem Inv.del(I:Inv X pins σ H s)(g:H x=ρ (.ext φ)):Inv X pins σ (_L.del H x) s:=by
 have ne:∀{b:Addr} {o:HO},H b=ρ o->(∀ψ,o≠.ext ψ)->b≠x:=λe n z=>by rw[z,g]at e;exact n φ (Ò e).symm
 have nn:∀{b:Addr},H b=τ->_L.del H x b=τ:=λ{b} e=>by
  by_cases z:b=x
  .rw[z];exact fX
  .rw[ie z];exact e
 have u:=I.base;refine{I.ok,I.os,I.bare,{u.keep,u.slot,λb o q n d=>nn (u.free b o q n d),u.there,λb f q=>?_,λb o v q=>?_,λb ps q=>?_},I.loc,I.cell,nn I.free,λy c e=>nn (I.iL y c e),λp h=>?_,λa o e=>?_,I.len}
 .have e:=u.rD b f q;rw[ie (ne e λψ z=>by cases z)];exact e
 .have e:=u.pD b o v q;rw[ie (ne e λψ z=>by cases z)];exact e
 .let{m,e}:=u.rE b ps q
  exact{m,by rw[ie (ne e λψ z=>by cases z)];exact e}
 .let{a1,a2,a3}:=I.pin p h
  exact{a1,nn a2,a3}
 .have i:H a=ρ o:=by
   by_cases z:a=x
   .rw[z,fX]at e;cases e
   .rw[ie z]at e;exact e
  refine(I.b6 a o i).ur (λb u _ q=>q) (λb q=>?_) λb f q=>?_
  .rw[ie (ne q λψ z=>by cases z)];exact q
  .rw[ie (ne q λψ z=>by cases z)];exact q
end
section
variable{P:Ê}{w:World}{H:Hp}{h h':Heap}{x e:Addr}{o':HO}
theorem ku.write(ok:ku P w H h)(g:QP (H x))(he:e=x\/H e=ρ (.own x))(k:∀b u,b≠e->h.get? b=ρ u->h'.get? b=ρ u)(l:∃u,h'.get? e=ρ u)
 (new:bP P w (upd H x o') h' x o'):ku P w (upd H x o') h':=λb u q=>by
 have d:∀c y,H c=ρ (.own y)->c≠x:=λc y r z=>by subst z;rw[r]at g;exact g
 have f:∀c i,H c=ρ (.tup i)->c≠x:=λc i r z=>by subst z;rw[r]at g;exact g
 by_cases j:b=x
 .subst j;rw[a6]at q;cases q;exact new
 .rw[ae j]at q
  by_cases a:b=e
  .have m:H b=ρ (.own x):=by
    rcases he with z |z
    .exact absurd (a.trans z) j
    .rw[a];exact z
   rw[q]at m;cases m
   let{v,n}:=l
   exact{v,by rw[a];exact n}
  .refine(ok b u q).ur (λc v hc r=>k c v ?_ r) (λc r=>by rw[ae (d c b r)];exact r) λc i r=>by rw[ae (f c i r)];exact r
   rcases hc with rfl |hc
   .exact a
   .rintro rfl;rcases he with z |z
    .exact d c b hc z
    .rw[hc]at z;cases z;exact j rfl
end
section
variable{fs ex:List Addr}{H:Hp}{h h':Heap}{x e:Addr}{o:HO}
theorem Un.write(g:QP (H x))(he:e=x\/H e=ρ (.own x))(k:∀b u,b≠e->h.get? b=ρ u->h'.get? b=ρ u)(j:∃u,h'.get? e=ρ u):Un fs ex H (upd H x o) h h':=by
 have f:∀b,H b=τ->b≠x:=λb n z=>by subst z;rw[n]at g;exact g
 have d:∀b,H b=τ->b≠e:=λb n z=>by
  subst z;rcases he with r |r
  .grind
  .grind
 have c:∀b u,H b=ρ u->¬QP (ρ u)->b≠x:=λb u q i z=>by subst z;rw[q]at g;exact i g
 refine{λb u q n _ _=>k b u (d b n) q,λb u q n _ _=>{u.slots,k b u (d b n) q},λb u q n _=>by rw[ae (f b n)];exact n,λb u q _=>?_,
  λb l q=>by rw[ae (c b _ q λz=>z)];exact q,λb u l q=>by rw[ae (c b _ q λz=>z)];exact q,λb ps q=>{#[],by rw[ae (c b _ q λz=>z),q];simp}}
 by_cases a:b=e
 .subst a;exact j
 .exact{u,k b u a q}
end
section
variable{X:Cx}{pins:List (Addr×Obj)}{σ:List (Option V)}{H:Hp}{s:Shared}{h':Heap}
theorem Inv.write(I:Inv X pins σ H s)(j:QP (H x))(he:e=x\/H e=ρ (.own x))(k:∀b u,b≠e->s.heap.get? b=ρ u->h'.get? b=ρ u)(g:∃u,h'.get? e=ρ u)
 (new:bP X.prog X.w (upd H x o) h' x o):Inv X pins σ (upd H x o) {s with heap:=h',toks:=t'}:=I.un (Un.write j he k g) (I.b6.write j he k g new)
end
section
variable{X:Cx}{pos:Pos}{tx ty:CA}{tc:TT}{c:Expr}{a b:List Stmt}
theorem Inv.OI{g:List (Addr×Obj)}{σ:St}{H:Hp}{s:Shared}{p:Addr}{xs ys:List V}{j its':List Value}{n l:Nat}{f:Obj->Obj}(I:Inv X g σ H s)(h:H p=ρ (.lst xs))
 (J:s.heap.get? p=ρ {cls:=.type "list",data:=.seq j.toArray n}) (C:f {cls:=.type "list",data:=.seq j.toArray n}={cls:=.type "list",data:=.seq its'.toArray l}) (r:Vals ys its') (T:ys.9<=sizeLine) (t:Nat) :
 Inv X g σ (upd H p (.lst ys)) {s with heap:=s.heap.update p f,toks:=t}:=by
 have e:(s.heap.update p f).get? p=ρ {cls:=.type "list",data:=.seq its'.toArray l}:=by
  rw[Ū f J (by rw[C]<;>rfl),C]
 refine I.write (x:=p) (e:=p) (by rw[h];trivial) (.inl rfl) (λb u a q=>(đ _ _ (æ a)).trans q) {_,e} ?_;exact⟨T,its',l,r,e⟩
theorem set_list:Rq X Rx:=by
 intro a s σ H o i v B C u Q I m w x h
 let{p,y,k,j,rfl,rfl,e,z,q}:=h
 cases m
 let{t,rfl}:=w
 let{b,n,r,d,A}:=I.lst e
 let{c,D,f,g}:=El z
 have hl:=r.9;have hn:=oN
 have l:Inv X a σ (upd H p (.lst (y.set j v))) {s with heap:=s.heap.update p (ņ (·.setIfInBounds j u))}:=
  I.OI e d (CG b n j u) (r.set x j) (by rw[ŧ];exact A) s.toks
 by_cases h0:0<=k
 .have hk:k.toNat=j:=by
   rw[whS h0 g]at c;exact Ò c
  exact PySem.W.ki_setAt d h0 () (by rw[å,<-hl];exact g) (by rw[hk];exact{_,l,q})
 .have hk:(k+(b.toArray.size:Int)).toNat=j:=by
   rw[whs () f]at c;rw[å,<-hl];exact Ò c
  exact PySem.W.ki_setBack d () (by rw[å,<-hl];exact f) () (by rw[hk];exact{_,l,q})
theorem D5(hc:PT X.HC c tc)(ha:AO X a tx)(l:AO X b ty):Ru X (.If c a b pos) (xIf tc tx ty):=by
 refine{?_};intro e s σ H D E I h;refine wpAny_If (CV (bQ (hc e s σ H _ (I.kl _) h) λd g ⟨i,f,j⟩=>?_));have f:=f.eP
 cases d with
 |true=>exact ha e g σ i D E f j
 |false=>exact l e g σ i D E f j
end
section
variable{X:Cx}{pins:List (Addr×Obj)}{σ:St}{H:Hp}{s:Shared}{l:Addr}{xs ys:List V}
theorem Inv.RQ{g its':List Value}{n:Nat}{f:Array Value->Array Value}{t':Nat}(I:Inv X pins σ H s)(j:H l=ρ (.lst xs))
 (e:s.heap.get? l=ρ {cls:=.type "list",data:=.seq g.toArray n}) (p:f g.6=its'.6) (r:Vals ys its') (t:ys.9<=sizeLine) :
 Inv X pins σ (upd H l (.lst ys)) {s with heap:=s.heap.update l (ņ f),toks:=t'}:=by
 have q:=PySem.IsL.update e f;rw[p]at q;refine I.write (x:=l) (e:=l) (by rw[j];exact trivial) (.inl rfl) (λc u a b=>(đ s.heap (ņ f) (æ a)).trans b) {_,q} ?_;exact{t,its',_,r,q}
theorem d8:XF X "list.append" LL:=by
 intro b s σ H x i v j Q I d f h
 let{l,k,y,rfl,rfl,c,m,q}:=h
 cases d
 let{u,rfl,g}:=f.one
 let{z,a,n,r,hl,e}:=I.IE c
 refine ο ħ {_,e,rfl} F.entry_list_append (F.args_list_append_2 _ _) (PySem.list_append l a.toArray n u (by grind)) {e,?_};refine{.non,_,I.RQ (its':=a++[u]) c e (by simp) (r.append (.cons g .nil)) ?_,rfl,q};rw[É,Ζ]
 lia
theorem OJ:XF X "list.pop" V9:=by
 intro d s σ H x m v o Q I g i h
 let{l,p,y,rfl,rfl,f,j,q}:=h
 cases g;have b:=i.zero;subst b
 let{z,a,n,r,hl,e}:=I.IE f
 let{u,t,k}:=r.get j
 have c:a.toArray[a.toArray.size-1]?=ρ u:=by
  grind
 refine ο why {_,e,rfl} F.entry_list_pop (F.args_list_pop_1 _) (MeetsSeq.list_pop_last l a.toArray n u c (by grind)) {e,?_};refine{y,_,I.RQ (its':=a.dropLast) f e ?_ r.dropLast ?_,k,q}
 .grind
 .grind
end
section
variable{X:Cx}{pins:List (Addr×Obj)}{σ:St}{H:Hp}{s₂:Shared}{scope:Ă}{x:Str}{xs ys:List Str}{ix:List Nat}{cl:List (Str×Addr)}{fp:List Addr}{L:Addr}
theorem yH{tn:Nat->Heap->Prop}{Qd:Addr->Hp->Prop}{RR:Value->Addr->ī->Shared->Prop}{E:Value->Shared->Prop}
 (hc:X.calm=true) (B:cb X scope x ys ix) (I:Inv X pins σ H s₂) (T:Turn X.prog X.w X.K tg J fp it tn) (XR:tn 0 s₂.heap) (U:∀b∈fp,uZ X pins H b)
 (yC:∀y c,cl.lookup y=ρ c->X.env.cells.lookup y=ρ c) (hcf:∀y∈scope.names,y.2=.free->∃c,cl.lookup y.1=ρ c)
 (ht:∀L s H ex pn,L8 (bH X scope (xs++ys) cl L s H ex pn) ifs tt) (he:∀L s H ex pn,PE (bH X scope (xs++ys) cl L s H ex pn) elt te)
 (hg:∀L s H ex pn,PG (bH X scope (xs++ys) cl L s H ex pn) tg g) (hw:∀l,H l=τ->yu g xs.length J l (pick σ ix) tt te H (Qd l))
 (hRR:∀D L H' s' m,Inv X pins σ H' s'->s'.heap.Ns L m->H' L=τ->L≠X.env.locals->X.s₀.8<=L->(∀y c,X.env.cells.lookup y=ρ c->c≠L)->(∀p∈X.pn++pins,p.1≠L)->Qd D H'->RR (.ref D) L (.ok .next) s') :
 wpAny (model X.prog X.w) X.A (newList []) (λacc t=>wpAny (model X.prog X.w) X.A (newFunctionEnv scope X.env.globals cl [] X.env.qual τ .none (ρ X.5)) (λRT s₄=>
  codeAny (model X.prog X.w) X.A (.compStart (.ListComp elt [⟨tg,iter,ifs,0⟩] scope pos) 0 (.ref it) acc {RT with scope:=relabel scope X.5}) (RR acc RT.locals) s₄) E t) E s₂:=by
 refine wfw (wpAny_newFunctionEnv B.HZ (by intro y hy;simp at hy) (λk j a=>?_) B.kind);dsimp only at j a ⊢;generalize O:s₂.heap.push {cls:=.type "list",dict:=τ,data:=.seq ([]:List Value).toArray}=C at j a ⊢;have hC:C.7=s₂.8+1:=by rw[<-O,Ĳ]
 have XS:s₂.heap.objs.size≠C.7:=by rw[hC];exact Ù (ň _)
 have f:s₂.8<=C.7:=by rw[hC];exact Ġ _
 have old:∀b o,s₂.heap.get? b=ρ o->k.get? b=ρ o:=λb o e=>a.extBut b o (Ù (â (Ì e) f)) (Õ _ (O ▸ Õ _ e));have Vr:k.get? s₂.8=ρ {cls:=.type "list",data:=.seq ([]:List Value).toArray}:=a.extBut _ _ XS (Õ _ (O ▸ è _ rfl));have Q:∀b∈fp,b<s₂.8:=λb h=>let ⟨o,e,_⟩:=T.obj 0 _ XR b h;Ì e
 have kpf:∀b∈fp,∀o,s₂.heap.get? b=ρ o->k.get? b=ρ o:=λb _ o e=>old b o e;have XU:tn 0 k:=T.keep 0 _ _ XR kpf
 let{W,{m0,w0},turn}:=hw s₂.heap.objs.size (I.b6.fresh (Ä _))
 have N:∀t:Shared,t={s₂ with heap:=k,toks:=s₂.toks+([]:List (Str×Value)).length} ->
  codeAny (model X.prog X.w) X.A (.compLoop (.ListComp elt [⟨tg,iter,ifs,0⟩] scope pos) 0 (.ref it) (.ref s₂.8) (compEnvC scope cl C.objs.size X.5))
   (RR (.ref s₂.8) C.7) t:=by
  rintro t rfl;have I0:=IH (xs:=xs) (tk:=s₂.toks+([]:List (Str×Value)).length) (n₀:=0) (m₁:=_) (L:=C.7) B I U Q f yC hcf old j rfl XS Vr
  refine FL (env:=compEnvC scope cl C.objs.size X.5)
   (λn s'=>∃i G vs H',vs.9=xs.9/\Inv (bH X scope (xs++ys) cl C.objs.size s₂ H fp (X.pn++pins)) [] (vs++pick σ ix) H' s'/\tn i s'.heap/\(∀b∈fp,H' b=τ)/\W i n G H') ?_ m0
   ⟨0,[],_,_,č,I0,XU,λb h=>by rw[ae (Ù (Q b h))];exact(U b h).1,w0⟩
  rintro n s3 ⟨i,G,vs,H3,hv,I3,XV,XW,w3⟩
  let{FN,alt}:=turn i n G H3 w3
  have M:∀{H':Hp},(∀b∈fp,H' b=τ)->∀b∈fp,uZ (bH X scope (xs++ys) cl C.objs.size s₂ H fp (X.pn++pins)) [] H' b:=λhn b h=>
   {hn b h,Ù (â (Q b h) f),λhm=>by
     rcases à.mp (I.vh b hm) with z |z
     .exact(U b h).2.1 z
     .exact(U b h).2.2.1 z,.inl h,λy c e=>(U b h).2.2.2.2.1 y c (yC y c e),λp hp=>(U b h).2.2.2.2.2 p (by simpa [bH] using hp)}
  rcases alt with⟨stop,qd⟩ |⟨go,hsz,step⟩
  .refine bQ (T.done (bH X scope (xs++ys) cl C.objs.size s₂ H fp (X.pn++pins)) rfl rfl rfl hc i [] s3 _ H3 _ I3 (M XW) XV stop) λr s4 ⟨hr,Y⟩=>?_;subst hr
   let{m,hn,_}:=Y.loc
   refine hRR s₂.heap.objs.size C.objs.size H3 s4 m ?_ hn Y.free (ı (â I.lt f)) (Í I.sz f) (λy c e=>?_) (λp hp=>?_) qd
   .exact I.vp Y.os Y.base Y.b6 Y.bare λb h=>{(U b h).2.2.2.1,(U b h).2.1,(U b h).2.2.2.2.1,(U b h).2.2.2.2.2}
   .let{v,o,q,d}:=I.cell y c e
    exact Ù (â (Ì q) f)
   .exact Ù (â (Ì (I.pin p hp).1) f)
  .refine bQ (T.item (bH X scope (xs++ys) cl C.objs.size s₂ H fp (X.pn++pins)) rfl rfl rfl hc i [] s3 _ H3 _ I3 (M XW) XV go) λr s4 ⟨u,hr,h4⟩=>?_;subst hr;refine bQ h4 λ_ s5 ⟨xv,H5,I5,r5,y5,R,fr5⟩=>?_;have I5':=I5.pinned (M fr5) (T.obj _ _ R);refine í (hg _ _ _ _ _ _ s5 _ H5 xv u _ I5' r5 (step xv _ vs hv y5)) (λ_ s6 {σ6,H6,I6,⟨Rz,XX,e6⟩,q6}=>?_) λ_ _ z=>é z;subst e6;refine í (ht _ _ _ _ _ _ s6 _ _ _ I6 q6) (λb s7 ⟨H7,I7,q7⟩=>?_) λ_ _ z=>é z
   have again:∀{S:St} {V:Hp} {Z:Shared},Inv (bH X scope (xs++ys) cl C.objs.size s₂ H fp (X.pn++pins)) ([]++va fp s5.heap) S V Z ->
    Inv (bH X scope (xs++ys) cl C.objs.size s₂ H fp (X.pn++pins)) [] S V Z/\tn (i+1) Z.heap/\∀b∈fp,V b=τ:=λ{S V Z} I8=>by
    refine{I8.pK,T.keep _ _ _ R λb h o e=>(I8.pin (b,o) (ÿ _ (ÿ _ (km h e)))).1,λb h=>?_}
    let{o,e,d}:=T.obj _ _ R b h
    exact(I8.pin (b,o) (ÿ _ (ÿ _ (km h e)))).2.1
   cases b with
   |false=>
    rw[if_neg ã]at q7 ⊢
    let{m',hm,w7}:=q7
    let{a1,a2,a3}:=again I7
    exact{m',hm,i+1,G,Rz,H7,XX,a1,a2,a3,w7}
   |true=>
    rw[if_pos rfl]at q7 ⊢;refine í (he _ _ _ _ _ _ s7 _ _ _ I7 q7) (λuy Z ⟨y,V,I8,r8,U3,m',hm,w8⟩=>?_) λ_ _ z=>é z
    refine í (d8 (X:=bH X scope (xs++ys) cl C.objs.size s₂ H fp (X.pn++pins)) _ Z _ V (.ref s₂.8) [y] (.ref s₂.8) [uy] (λ_ H9=>H9=upd V s₂.heap.objs.size (.lst (G++[y]))) I8 rfl (.cons r8 .nil) {_,G,y,rfl,rfl,U3,hsz,rfl})
     (λ_ s9 {v9,H9,I9,_,e9}=>?_) λ_ _ z=>é z
    subst e9
    let{a1,a2,a3}:=again I9
    exact{m',hm,i+1,G++[y],Rz,_,XX,a1,a2,a3,w8}
 exact codeAny_compStart_list (N _ rfl) (T.self X.A 0 _ _ _ XU (N _ rfl))
theorem vH{C:It->Addr->St->Hp->(Hp->Prop)->Prop}(hc:X.calm=true)(B:cb X scope x ys ix)(hg:∀cl L s H ex pn,PG (bH X scope (xs++ys) cl L s H ex pn) U g)(hC:∀J l j H Q,C J l j H Q->yu g xs.length J l j tt te H Q)(hi:PI X U iter wi)
 (ht:∀cl L s H ex pn,L8 (bH X scope (xs++ys) cl L s H ex pn) p tt) (he:∀cl L s H ex pn,PE (bH X scope (xs++ys) cl L s H ex pn) r te)
 (hs:∀v,Ś iter X.env v=pure v:=by intro _;rfl):PE X (.ListComp r [⟨U,iter,p,0⟩] scope pos) (λσ H Q=>wi σ H λJ H1=>∀l,H1 l=τ->C J l (pick σ ix) H1 (λH2=>Q (.ref l) H2)):=by
 refine{?_};intro pins s σ H Q I h
 let{cl,a,d,f}:=o1 (scope:=scope) (env:=X.5) (λy G i=>I.ok.has y.1 (B.free y G i))
 rw[eval_ListComp];refine wfS (use:=τ) rfl hs a B.kind B.names (bQ (hi pins s σ H _ I h) λZ s1 k=>bQ k λM s2 n=>?_)
 let{it,fp,tn,J,H2,e,N,T,t,f2,hw}:=n
 subst e;refine yH (RR:=λu C=>compPost (model X.prog X.w) X.A X.xe τ (EP X pins σ Q) u C) (Qd:=λl z=>Q (.ref l) z) hc B N T t f2 d f (ht cl) (he cl) (hg cl) (λl h=>hC _ _ _ _ _ (hw l h)) ?_;intro D L z O m R hn c k n S V q;exact{m,hn,λh' E=>{.ref D,z,R.turned (it:=L) (t':=O.toks) (λb o Y e=>(E.2 b Y).trans e) c k (.inr n) S V,rfl,q}}
theorem cK(hc:X.calm=true)(B:cb X scope x ys ix)(hi:PI X (.Name x t) iter I)
 (T:∀cl L s H ex pn,L8 (bH X scope (x::ys) cl L s H ex pn) g p) (he:∀cl L s H ex pn,PE (bH X scope (x::ys) cl L s H ex pn) j r)
 (hs:∀v,Ś iter X.env v=pure v:=by intro _;rfl):PE X (.ListComp j [⟨.Name x t,iter,g,0⟩] scope pos) (RA I ix p r):=
 vH (C:=λJ l a H Q=>nZ J l a p r H Q) (xs:=[x]) hc B (EB B) (λ_ _ _ _ _=>Ew) hi T he hs
end
section
variable{X:Cx}{scope:Ă}{x:Str}{xs ys:List Str}{ix:List Nat}
theorem sW{C:It->Addr->St->Hp->(Hp->Prop)->Prop}(hc:X.calm=true)(B:cb X scope x ys ix)(hN:X.N.Nodup)(hy:X.N[i]?=ρ y)(r:X.env.scope.names.lookup y=ρ .local)(hg:∀cl L s H ex pn,PG (bH X scope (xs++ys) cl L s H ex pn) tg g)(hC:∀J l t H Q,C J l t H Q->yu g xs.length J l t tt te H Q)(hi:PI X tg iter wi)
 (ht:∀cl L s H ex pn,L8 (bH X scope (xs++ys) cl L s H ex pn) j tt) (he:∀cl L s H ex pn,PE (bH X scope (xs++ys) cl L s H ex pn) p te)
 (RU:Ċ (.ListComp p [⟨tg,iter,j,0⟩] scope pos) (ρ (.Name y py)) U.line X.5=pure true:=by rfl)
 (hs:∀v,Ś iter X.env v=pure v:=by intro _;rfl):PS X (.Assign [.Name y py] (.ListComp p [⟨tg,iter,j,0⟩] scope pos) U) (λD σ H=>wi σ H λJ H1=>∀l,H1 l=τ->C J l (pick σ ix) H1 (λH2=>D.nx (σ.set i (ρ (.ref l))) H2)):=by
 refine{?_};intro c s σ H D I h
 let{cl,d,u,E}:=o1 (scope:=scope) (env:=X.5) (λy hy G=>I.ok.has y.1 (B.free y hy G))
 rw[exec_Assign_Name_used _ _ _ _ RU];refine Â (Η (Â ?_));show wpAny _ X.A (do let _ <-comprehension (.ListComp p [⟨tg,iter,j,0⟩] scope pos) scope X.env _ (newList []) false (eval iter X.5) (ρ (assign (.Name y py) X.5))) _ _ s
 refine Â (í (wfS (use:=ρ (assign (.Name y py) X.5)) (Q:=λ_ k=>SP X c D .next k) rfl hs d B.kind B.names
  (bQ (hi c s σ H _ I h) λxv s1 n=>bQ n λUZ s2 M=>?_)) (λ_ k hq=>Ï (Ï hq)) λ_ _ e=>e)
 let{it,fp,tn,J,H2,e,I2,T,O,f2,hw}:=M
 subst e;refine yH (RR:=λR C=>compPost (model X.prog X.w) X.A X.xe (ρ (assign (.Name y py) X.5)) (λ_ k=>SP X c D .next k) R C) (Qd:=λl S=>D.nx (σ.set i (ρ (.ref l))) S) hc B I2 T O f2 u E (ht cl) (he cl) (hg cl) (λl h=>hC _ _ _ _ _ (hw l h)) ?_;intro D' L S k m I' hn f n M h3 h4 q;show wpAny _ X.A (assign (.Name y py) X.env (.ref D')) _ _ _;refine wpAny_assign_Name (yv I' hN hy (.inl r) (v:=.ref D') rfl (λV Y sb=>?_) (.inr r))
 let{a,Z,ha}:=sb
 have hL:L≠a:=by
  rcases ha with z |z
  .rw[z];exact n
  .exact(h3 y a z).symm
 refine{m,hn.sameBut Z hL,λh' NF=>{_,S,Y.turned (it:=L) (t':=V.toks) (λb o hb e=>(NF.2 b hb).trans e) f n (.inr M) h3 h4,q}}
theorem dS(hc:X.calm=true)(B:cb X scope x ys ix)(hN:X.N.Nodup)(hy:X.N[i]?=ρ y)(r:X.env.scope.names.lookup y=ρ .local)(hi:PI X (.Name x I) iter wi)
 (ht:∀cl L s H ex pn,L8 (bH X scope (x::ys) cl L s H ex pn) g T) (he:∀cl L s H ex pn,PE (bH X scope (x::ys) cl L s H ex pn) j U)
 (t:Ċ (.ListComp j [⟨.Name x I,iter,g,0⟩] scope pos) (ρ (.Name y py)) p.line X.5=pure true:=by rfl)
 (hs:∀v,Ś iter X.env v=pure v:=by intro _;rfl):PS X (.Assign [.Name y py] (.ListComp j [⟨.Name x I,iter,g,0⟩] scope pos) p) (Ox wi ix T U i):=
 sW (C:=λJ l a H Q=>nZ J l a T U H Q) (xs:=[x]) hc B hN hy r (EB B) (λ_ _ _ _ _=>Ew) hi ht he t hs
end
section
variable{X:Cx}{pins:List (Addr×Obj)}{σ:St}{H:Hp}{s:Shared}{a:Addr}{y v:V}{u r:Value}{A:Around}{E:Value->Shared->Prop}
theorem uN(I:Inv X pins σ H s)(g:QP (H a))(hs:weR a s.heap h')(he:∃q,h'.get? a=ρ q)(new:bP X.prog X.w (upd H a ob) h' a ob) :
 Inv X pins σ (upd H a ob) {s with heap:=h',toks:=t'}:=
 I.write (x:=a) (e:=a) g (.inl rfl) (λb q c z=>(hs.2 b c).trans z) he new
theorem FO{Q:Unit->Shared->Prop}(J:A.units+1<ò)(I:Inv X pins σ H s)(g:kA H a y v T)(t:RelV y u)(C:RelV v r)(h:∀s',Inv X pins σ T s'->Q .unit s') :
 wpAny (model X.prog X.w) A (setItem (.ref a) u r) Q E s:=by
 rcases g with⟨d,k,e,j,l,m⟩ |⟨d,k,b,e,j,x,l,m⟩
 .subst j m
  let{z,hd,G,rel,n}:=sT I.b6 e
  have o:G.9<=sizeLine:=by rw[<-rel.9];exact z
  have hl:(putK d k v).9<=sizeLine:=by have:=hZ d k v;lia
  refine wpAny_setItem_pairs (hsz:=o) (sR t) n λB f p=>h _ ?_;have L:∃q,B.get? a=ρ q:=let ⟨q,_,_,i,_⟩:=f;⟨q,i⟩
  exact uN I (by rw[e];exact Ć) p L (CD hl hd (rel.put k C) f)
 .subst j m;cases(show u=È b from t)
  let{z,hd,M,rel,n}:=Rw I.b6 e
  have o:M.9<=sizeLine:=by rw[<-wh5 rel];exact z
  have hl:(putK d k v).9<=sizeLine:=by have:=hZ d k v;lia
  refine wpAny_setItem_heap (hsz:=o) (wds J) (rH I.b6 x) n λB f p=>h _ ?_
  let{q,N,O,i,R,S,U,_,V}:=f
  refine uN I (by rw[e];exact Ć) p ⟨q,i⟩ {hl,hd,_,(rel.put k x C).keeps λc Y D=>?_,q,N,O,i,R,S,U,V};rw[ae (QO D e (λz=>nomatch z))];exact D
end
theorem EF{X:Cx}(h:TV X pos keys values j)(g:keys.all (·.isSome)=true)(hl:keys.9=values.9)(h0:keys≠[])
 (l:keys.9<=15):PE X (.Dict keys values pos) (RD j):=by
 refine{?_};intro b s σ H Q I q;have hn:=I.b6.fresh (Ä s.8);have k:=I.laid (a:=s.8) (o:=.dK []) (h':=s.heap.push {cls:=.type "dict",data:=.dict #[]}) (t':=s.toks) (λ_ _ q=>Õ _ q) (Ä _) (vf s.heap I.big);refine wpAny_Dict_walk (knd:=bA X.prog X.w) g hl h0 l (bQ (h b _ σ _ _ k (q _ hn)) λD E ⟨ps,G,i,rel,e,d,m,lk,n⟩=>?_);subst m
 let{p,c,r}:=vi (P:=X.prog) (w:=X.w) rel
 let{z,hd,t,u,v}:=sT i.b6 e
 cases u;refine{p,c,v,λh' f x=>{.ref s.8,_,?_,rfl,n}}
 have y:(mq [] d).9<=sizeLine:=by
  have A:=xJ d [];rw[weS]at A;rw[Ē];lia
 have B:∃q,h'.get? s.8=ρ q:=let ⟨q,_,_,C,_⟩:=f;⟨q,C⟩
 exact uN i (by rw[e];exact Ć) x B (CD y hd (r.merge .nil) f)
theorem Inv.freeze{X:Cx}(I:Inv X g σ H s)(e:H d=ρ (.dK kvs)):∃o,s.heap.get? d=ρ o/\Inv X g σ (upd H d (.frz o (.dK kvs))) s:=by
 have ok:=I.b6 d _ e
 let{z,y,f,rel,o,h,i,a,j}:=id ok
 refine{o,a,?_};exact I.write (x:=d) (e:=d) (h':=s.heap) (t':=s.toks) (by rw[e];exact trivial) (.inl rfl) (λb u _ c=>c) {_,a} ⟨a,ok⟩
section
variable{P:Ê}{w:World}{H:Hp}{h:Heap}{a C dx:Addr}{fs:List (Str×V)}
theorem uO(b6:ku P w H h)(e:H a=ρ (.ins C dx fs)):∃g,Cm h a dx C g/\(∀f,jw (fs.lookup f) (g f))/\weP g (fs.map (·.1))/\fs.9<=1000/\H dx=ρ (.own a):=by
 let{d,z,ne,ob,g,n,r,q}:=(show bP P w H h a (.ins C dx fs) from b6 a _ e)
 exact{g,⟨ob,n,ne⟩,r,q,z,d}
end
section
variable{X:Cx}{pins:List (Addr×Obj)}{σ:St}{H:Hp}{s:Shared}{a C dx:Addr}{fs:List (Str×V)}{f:Str}{v:V}{A:Around}{E:Value->Shared->Prop}
theorem D7{Q:Value->Shared->Prop}(I:Inv X pins σ H s)(e:H a=ρ (.ins C dx fs))(c:AA X.K C)(n:bY X.K C f)(l:fs.lookup f=ρ v)
 (h:∀u s',Inv X pins σ H s'->RelV v u->Q u s'):wpAny (model X.prog X.w) A (getAttr (.ref a) f b) Q E s:=by
 let{g,O,r,_,_,_}:=uO I.b6 e
 let{u,i,d}:=jw.uI (v:=v) (o:=g f) (by grind)
 exact get_map I.gJ O (c.get f) c.hd n i (yg d) (h u _ (I.tok _) d)
theorem oW{Q:Value×List Value->Shared->Prop}(I:Inv X pins σ H s)(e:H a=ρ (.ins C dx fs))(c:AA X.K C)(k:Ik X.K C m g)(l:fs.lookup m=τ)
 (h:Q (.ref g,[.ref a]) s):wpAny (model X.prog X.w) A (ţ (.ref a) m pl) Q E s:=by
 let{b,O,r,_,_,_}:=uO I.b6 e
 have hn:b m=τ:=jw.none_of (by grind);exact IL I.gJ O (c.get m) k.at_ k.fn hn h
theorem D9{Q:Unit->Shared->Prop}(I:Inv X pins σ H s)(e:H a=ρ (.ins C dx fs))(c:AA X.K C)(n:bY X.K C f)(hl:fs.9<1000)(l:RelV y u)
 (h:∀s',Inv X pins σ (upd H a (.ins C dx (cT f y fs))) s'->Q .unit s'):wpAny (model X.prog X.w) A (setAttr (.ref a) f u) Q E s:=by
 let{i,O,r,j,_,k}:=uO I.b6 e
 have m:(fs.map (·.1)).9<=sizeLine:=by rw[À,Ē];lia
 refine LW I.gJ O c.sa c.po n.QW c.hd j m λp d sb=>h _ ?_;have hd:∃o,p.get? dx=ρ o:=let ⟨o,_,_,t,_⟩:=d.ns;⟨o,t⟩
 refine I.write (x:=a) (e:=dx) (by rw[e];exact Ć) (.inr k) (λb q v z=>(sb.2 b v).trans z) hd ?_;refine{by rw[ae O.ne];exact k,?_,O.ne,d.obj,_,d.ns,λg=>?_,λg B=>?_}
 .have:=sP f y fs;lia
 .show jw ((cT f y fs).lookup g) (if g=f then ρ u else i g);rw[aG]
  by_cases q:g=f
  .rw[if_pos q,if_pos q];exact l
  .rw[if_neg q,if_neg q];exact r g
 .by_cases q:g=f
  .rw[q];exact(rF f y fs).1
  .refine(rF f y fs).2 g (j g λz=>B ?_);show (if g=f then ρ u else i g)=τ;rw[if_neg q];exact z
end
section
variable{X:Cx}{CX:Fx}{k:Nat}{f C:Addr}{fd:ï}{ps:List Str}{sp:Sp}{vc:List V}{ds:List Value}{E:XK}{m:Str}{pos apos:Pos}{e o:Expr}{es:List Expr}{ta:TE}{t:TA}
theorem jb(he:PE X o ta)(c:AA X.K C)(j:Ik X.K C m f)(F:aR X.prog X.w X.K X.mg X.base CX k f fd ps sp)(T:dJ k X.A)(U:Binds X.K fd ps ds)(hd:Vals vc ds)(hx:Passes CX X E)(ha:PA X (e::es) t)
 (g:starEach (e::es) X.5=(false,eval e X.5)::starEach es X.5:=by rfl) (hpl:(backTo pos (starEach es X.5)).any (·.1)=false:=by rfl)
 (ht:eval (.Call (.Attribute o m apos) (e::es) [] pos) X.5=(do
   let J <-eval o X.5
   standAt apos.atName
   let (f,first) <-holding [J] (ţ J m pl)
   callWith pos f first (backTo pos (starEach (e::es) X.5)) (backToKw pos (Ĭ [] X.5))):=by rfl) :
 PE X (.Call (.Attribute o m apos) (e::es) [] pos) (Ek C m sp vc E ta t):=by
 refine{?_};intro b s σ H Q I h;refine wdC (pl:=pl) (bQ (he b s σ H _ I h) λu n ⟨x,p,d,v,a,B,fs,ex,y,l,q⟩=>?_) ht;subst ex;obtain rfl:u=È a:=v;refine oW d y c j l ?_;refine ų (first:=[.ref a]) (h₀:=X.base) I.ok.mod.Ln j.kp (bQ (ha pos b n σ p _ d q) λus D ⟨vs,G,i,r,z⟩=>{i.gJ,?_}) g hpl;exact D4 (us:=.ref a::us) (vs:=.ref a::vs) F T U hd hx i (.cons rfl r) z
theorem IP(he:PE X o ta)(c:AA X.K C)(g:Ik X.K C m f)(F:aR X.prog X.w X.K X.mg X.base CX k f fd ps sp)(r:dJ k X.A)(J:Binds X.K fd ps ds)(hd:Vals vc ds)(T:Passes CX X E)
 (U:eval (.Call (.Attribute o m apos) [] [] pos) X.5=(do
   let j <-eval o X.5
   standAt apos.atName
   let (f,first) <-holding [j] (ţ j m pl)
   callWith pos f first (backTo pos (starEach [] X.5)) (backToKw pos (Ĭ [] X.5))):=by rfl) :
 PE X (.Call (.Attribute o m apos) [] [] pos) (Ek C m sp vc E ta zu):=by
 refine{?_};intro b s σ H Q I h;refine wdC (pl:=pl) (bQ (he b s σ H _ I h) λu n ⟨x,p,d,e,a,t,fs,ex,i,l,q⟩=>?_) U;subst ex;obtain rfl:u=È a:=e;refine oW d i c g l ?_;exact PySem.W.callWith_K0 (first:=[.ref a]) d.gJ g.kp (D4 (us:=[.ref a]) (vs:=[.ref a]) F r J hd T d (.cons rfl .nil) q)
theorem vI{pl:Sem Bool}(he:PE X.HC o ta)(c:AA X.K C)(j:Ik X.K C m f)(F:aR X.prog X.w X.K X.mg X.base (uM X.prog X.w) k f fd ps sp)(T:dJ k X.A)(U:Binds X.K fd ps [])(ha:PA X.HC (e::es) t)
 (g:starEach (e::es) X.5=(false,eval e X.5)::starEach es X.5:=by rfl) (hpl:(backTo pos (starEach es X.5)).any (·.1)=false:=by rfl)
 (ht:eval (.Call (.Attribute o m apos) (e::es) [] pos) X.5=(do
   let J <-eval o X.5
   standAt apos.atName
   let (f,first) <-holding [J] (ţ J m pl)
   callWith pos f first (backTo pos (starEach (e::es) X.5)) (backToKw pos (Ĭ [] X.5))):=by rfl) :
 TX X (.Call (.Attribute o m apos) (e::es) [] pos) (Oz C m sp ta t):=by
 refine{?_};intro b s σ H Q E I h;refine wdC (pl:=pl) (CV (bQ (he b s σ H _ (I.kl _) h) λu n ⟨x,p,d,v,a,D,fs,ex,y,l,q⟩=>?_)) ht;have d:=d.eP;subst ex;obtain rfl:u=È a:=v;refine oW d y c j l ?_;refine ų (first:=[.ref a]) (h₀:=X.base) I.ok.mod.Ln j.kp (CV (bQ (ha pos b n σ p _ (d.kl _) q) λus G z=>?_)) g hpl
 let{vs,L,i,r,B}:=z.eP
 exact{i.gJ,LY (us:=.ref a::us) (vs:=.ref a::vs) F T U i (.cons rfl r) B}
end
section
variable{X:Cx}{e:Expr}{f:Str}{pos:Pos}{ta:TE}
theorem az(he:PE X e ta)(g:Ň e f X.env (eval e X.5)=eval e X.5):PE X (.Attribute e f pos) (QX X.K ta f):=by
 refine{?_};intro b s σ H Q I h;refine EC g (bQ (he b s σ H _ I h) λu p ⟨x,d,i,j,a,C,r,fs,v,ex,k,c,n,l,q⟩=>?_);subst ex;obtain rfl:u=È a:=j;exact D7 i k c n l λt w m o=>⟨v,d,m,o,q⟩
end
section
variable{P:Ê}{w:World}{H:Hp}{h:Heap}{x C d t:Addr}
theorem nO{X:Cx}{K:Á}{e:Expr}{f:Str}{pos:Pos}{g:TE}(j:X.K=K)(he:PE X e g)(l:Ň e f X.env (eval e X.5)=eval e X.5):PE X (.Attribute e f pos) (QX K g f):=by
 subst j;exact az he l
theorem Vs(e:h.get? x=ρ (uK C d t)):bP P w H h x (XD x C d):={⟨t,e⟩,{_,e},λc f ⟨a,b⟩ k=>{a,k _ b}}
end
section
variable{X:Cx}{o value:Expr}{f:Str}{pos pos':Pos}{ta tv:TE}
theorem dq(ha:PE X o ta)(g:PE X value tv)(hs:Ċ value (ρ (.Attribute o f pos')) pos.line X.5=pure false):PS X (.Assign [.Attribute o f pos'] value pos) (V6 X.K ta tv f):=by
 refine{?_};intro b s σ H D I h;refine wdb (bQ (g b s σ H _ I h) λu d ⟨y,e,i,j,q⟩=>bQ (ha b d σ e _ i q) λk z m=>?_) hs
 let{x,A,p,r,a,C,B,fs,ex,t,c,n,l,v}:=m
 subst ex;obtain rfl:k=È a:=r;exact D9 p t c n l j λE w=>{σ,_,w,v}
end
section
variable{X:Cx}{o i value:Expr}{pos pos':Pos}{td ty tv:TE}
theorem eI(j:X.A.units+1<ò)(l:PE X o td)(hi:PE X i ty)(p:PE X value tv)(hs:Ċ value (ρ (.Subscript o i pos')) pos.line X.5=pure false) :
 PS X (.Assign [.Subscript o i pos'] value pos) (Nz td ty tv):=by
 refine{?_};intro b s σ H D I h;refine wpAny_Assign_Subscript (bQ (p b s σ H _ I h) λr c ⟨v,d,e,f,k⟩=>bQ (l b c σ d _ e k) λu m ⟨x,n,q,t,w⟩=>bQ (hi b m σ n _ q w) λJ L ⟨y,M,z,B,a,C,ex,g,E⟩=>?_) hs;subst ex;obtain rfl:u=È a:=t;exact FO j z g B f λN G=>⟨σ,C,G,E⟩
end
section
variable{X:Cx}{o e f:Expr}{apos eX:Pos}{td ty tx:TE}
theorem IQ(j:X.A.units+1<ò)(l:PE X o td)(he:PE X e ty)(p:PE X f tx)(m:M2 X o "get" apos e f eX):PE X (.Call (.Attribute o "get" apos) [e,f] [] eX) (Oi td ty tx):=by
 refine{?_};intro b s σ H Q I h;refine wpAny_Call_method m.base m.few m.line wde weH PySem.F.type_dict_get (bQ (l b s σ H _ I h) λu k ⟨x,n,i,q,a,ex,d,r⟩=>?_);subst ex;obtain rfl:u=È a:=q
 let{t,v,_}:=Ip i d
 refine{t,v,?_};rw[m.trees]
 refine wdy rfl (weV (wdn (bQ (he b k σ n _ i r) λO w ⟨y,B,C,D,E⟩=>
  wdn (bQ (p b w σ B _ C E) λR S ⟨z,G,J,L,T,g,M⟩=>wfu ?_))))
 exact OG j J g D L λU V N c=>{_,G,N,c,M}
end
section
variable{X:Cx}{x:Str}{p pos:Pos}{e:Expr}{es:List Expr}{t:TA}{T:String}{r:List V->Hp->VK->Prop}
theorem bx(hc:dO X (.type T) r)(j:Gl X x)(l:X.mg x=τ)(C:ð x=ρ (.type T))(ha:PA X (e::es) t)(hn:x≠"__name__":=by decide)(g:(x==("__debug__":Str))=false:=by decide)
 (he:starEach (e::es) X.5=(false,eval e X.5)::starEach es X.5:=by rfl) (hpl:(backTo pos (starEach es X.5)).any (·.1)=false:=by rfl):PE X (.Call (.Name x p) (e::es) [] pos) (U2 r t):=by
 refine{?_};intro a s σ H Q I h;refine Ń (gN I j l C ?_ hn g);exact Ÿ (bQ (ha pos a s σ H _ I h) λb c ⟨d,f,i,k,m⟩=>hc a c σ f d b Q i k m) he hpl
end
section
variable{X:Cx}{pins:List (Addr×Obj)}{σ:St}{H:Hp}{s:Shared}{A:Around}{E Q:Value->Shared->Prop}{c:Value}{b:Bool}
theorem rS(I:Inv X pins σ H s)(g:RelV x u)(ty:fz X.K H x t)(e:ω X.K t c=ρ b)(h:∀tk,Q (.bool b) {s with toks:=tk}) :
 wpAny (model X.prog X.w) A (call (.builtin "isinstance") [u,c]) Q E s:=by
 cases ty with
 |non=>cases(show u=Ĉ from g);exact Ļ PySem.W.kitx_none I.gJ Ć e (λz=>nomatch z) h
 |bl y=>cases(show u=wfD y from g);exact Ļ PySem.W.kitx_bool I.gJ Ć e (λz=>nomatch z) h
 |int i=>let{t,q}:=(show ∃t,u=wgb i t from g);cases q;exact Ļ PySem.W.kitx_int I.gJ Ć e (λz=>nomatch z) h
 |str y=>let{t,q}:=(show ∃t,u=wgc y t from g);cases q;exact Ļ PySem.W.kitx_str I.gJ Ć e (λz=>nomatch z) h
 |flt y=>let{t,q}:=(show ∃t,u=whR y t from g);cases q;exact Ļ PySem.W.kitx_float I.gJ Ć e (λz=>nomatch z) h
 |@lst a k d=>
  cases(show u=È a from g)
  let{_,_,n,_,f}:=(show bP X.prog X.w H s.heap a (.lst k) from I.b6 a _ d)
  exact Ļ whH I.gJ {_,f,rfl} e (λz=>nomatch z) h
 |@frz a ob k d=>
  cases(show u=È a from g)
  let{_,_,_,n,_,f}:=(show bP X.prog X.w H s.heap a (.frz ob (.lst k)) from I.b6 a _ d)
  exact Ļ whH I.gJ {_,f,rfl} e (λz=>nomatch z) h
 |@tup a k d=>
  cases(show u=È a from g)
  let{_,_,_,p}:=(show bP X.prog X.w H s.heap a (.tup k) from I.b6 a _ d)
  let{o,f,l,_}:=p
  exact Ļ PySem.W.kitx_tuple I.gJ ⟨o,f,l⟩ e (λz=>nomatch z) h
 |@dK a j d=>
  cases(show u=È a from g)
  let{_,_,B,_,p}:=(show bP X.prog X.w H s.heap a (.dK j) from I.b6 a _ d)
  let{o,m,r,f,l,_}:=p
  exact Ļ whI I.gJ ⟨o,f,l.1⟩ e (λz=>nomatch z) h
 |@dT a j d=>
  cases(show u=È a from g)
  let{_,_,k,_,o,m,r,f,l,_}:=(show bP X.prog X.w H s.heap a (.dT j) from I.b6 a _ d)
  exact Ļ whI I.gJ ⟨o,f,l.1⟩ e (λz=>nomatch z) h
 |@ins a C D fs d cl ha hn pM v=>
  cases(show u=È a from g)
  let{G,O,_}:=uO I.b6 d
  let{L,J,_}:=O.look
  exact Ļ (PySem.W.kitx_own (cl.get _) cl.hd ha hn pM v) I.gJ J e (λz=>nomatch z) h
end
section
variable{X:Cx}
theorem dj:dO X (.builtin "isinstance") (λxs H Q=>∃x T t b,xs=[x,.ty T]/\fz X.K H x t/\ω X.K t (.type T)=ρ b/\Q (.bl b) H):=by
 intro a s σ H xs g Q I r h
 let{x,T,t,b,rfl,ty,e,q}:=h
 let{u,i,rfl,c,d}:=vals2 r
 cases d;exact rS I c ty e λf=>{.bl b,H,I.tok f,rfl,q}
end
section
variable{prog:Ê}{w:World}{A:Around}{R:ī->Shared->Prop}{I:Addr}{fp wr:List Addr}{G:Array Ŀ->Array Ŀ->Prop}{n:Nat}{P:Nat->Value->Prop}{St:Nat->Shared->Prop}
theorem B8(l:WalksS prog w A.in1 I fp wr G n P St)(S:Addr)(p:S∉fp)
 (val:Nat->Str) (r:∀i v,P i v->∃t,v=.str (val i) t) (j:n+1<ū) :
 ∀(k i:Nat) (s:Shared),n-i=k->i<=n->St i s ->
  s.heap.SetOf (ģ prog w) S (λg=>(dn val i).any (· == g)) (dn val i).9 ->
  (∀s',Moved (S::wr) G s s'->s'.heap.SetOf (ģ prog w) S (λg=>(dn val n).any (· == g)) (dn val n).9->R (.ok (.ret .none)) s') ->
  codeAny (model prog w) A (.builtin "set.update.loop" {[.ref S,.ref I],[]}) R s:=by
 have f:S∉wr:=λh=>p (l.sub _ h);have a:∀b∈wr,b∈S::wr:=λb j=>Ô _ j;intro k
 induction k with
 |zero=>
  intro i s hk hi c B C;have D:i=n:=();subst D;refine Ĺ wed ?_;rw[Ŕ wcV _];show wpAny _ A.in1 (pyNext (.ref I) >>= _) _ _ s;refine Â (l.done s _ _ c λs' m=>?_);show wpAny _ A.in1 (ret Ĉ) _ _ s'
  exact Ï (C s' (m.mono a) (by
   let{o,E,H,t,J,rest}:=B
   exact{o,E,H,t,m.heap S _ f J,rest}))
 |succ k Q=>
  intro i s hk hi c B C;have q:i<n:=();refine Ĺ wed ?_;rw[Ŕ wcV _];show wpAny _ A.in1 (pyNext (.ref I) >>= _) _ _ s;refine Â (l.item i s _ _ q c λv s' T u m=>?_)
  let{t,rfl}:=r i v T
  have L:s'.heap.SetOf (ģ prog w) S (λg=>(dn val i).any (· == g)) (dn val i).9:=by
   let{o,E,H,U,J,rest}:=B
   exact{o,E,H,U,m.heap S _ f J,rest}
  show wpAny _ A.in1 (holding [wgc (val i) t] (setAdd S (.str (val i) t)) >>= _) _ _ s';refine Â (þ ?_);unfold setAdd;refine þ ?_;refine Â ((ģ prog w).pyHash (k:=val i) (Nn _ _ _ _) ?_);have d:(dn val i).9+1<ū:=by have:=yy val i;lia
  refine wpAny_setAddHashed_of (knd:=ģ prog w) (s:={s' with toks:=s'.toks+1}) (Nn _ _ _ _) rfl L d λV x M=>?_
  have N:V.SetOf (ģ prog w) S (λg=>(dn val (i+1)).any (· == g)) (dn val (i+1)).9:=
   SetOf_congr M (λg=>by rw[j8,FC]) (by rw[j8,zK])
  refine Ï {Ŏ wcV _,Q (i+1) _ () q (l.frame _ s' _ _ u (Ġ _) λb j o e=>?_) N λO y z=>?_}
  .rw[x.2 b (λh:b=S=>p (by rw[<-h];exact j))];exact e
  .refine C O (Moved.trans l.gtrans ((m.mono a).then_heap (Ġ _) λb o j e=>?_) y) z;rw[x.2 b (λh:b=S=>j (by rw[h];exact Ø))];exact e
end
section
variable{prog:Ê}{w:World}{A:Around}{E:Value->Shared->Prop}{s:Shared}
set_option maxRecDepth 100000 in
set_option maxHeartbeats 3200000 in
theorem zT{Q:Value->Shared->Prop}
 (hh:A.handled=τ) (p:x.cps.size+1<ū)
 (h:∀(h':Heap) (tk:Nat),h'.SetOf (ģ prog w) s.heap.objs.size (λC=>(dn (fF x) x.cps.size).any (· == C)) (dn (fF x) x.cps.size).9 ->
   (∀b o,b<s.8->s.heap.get? b=ρ o->h'.get? b=ρ o)->Q (.ref s.8) {s with heap:=h',toks:=tk}) :
 wpAny (model prog w) A (call (.type "set") [.str x I]) Q E s:=by
 let{c,tl,T}:=ŭ.mro
 have y:=ŭ.made;have U:=ŭ.sub;refine ě (wgj ?_);show wpAny _ _ (callAny (.type "set") _) _ _ _;refine Ï {wee _ ∅,Ĺ wgU ?_};rw[whz (wgF "set" [.str x I] []) rfl];have h1:=ŭ.notType;have h2:=ŭ.canCreate;have Z:=PySem.F.typeCall_set_1 (.str x I)
 repeat (any_goals (first |assumption |wp_step))
 refine Ī (code_set_new_1 (.str x I) (E:=E) (Q₁:=λobj f=>∃a:Bool,obj=.ref s.8/\f={s with heap:=s.heap.push {cls:=.type "set",dict:=τ,data:=.set #[] 0 (.fresh 0 0 a)}}) λa=>⟨a,rfl,rfl⟩) λr f z=>?_
 cases r with
 |error e=>exact z
 |ok fl=>
  cases fl with
  |ret obj=>
   let{a,rfl,rfl}:=z
   have V:(s.heap.push {cls:=.type "set",dict:=τ,data:=.set #[] 0 (.fresh 0 0 a)}).get? s.8=ρ {cls:=.type "set",dict:=τ,data:=.set #[] 0 (.fresh 0 0 a)}:=è _ rfl;have hT:wiq {s with heap:=s.heap.push {cls:=.type "set",dict:=τ,data:=.set #[] 0 (.fresh 0 0 a)}} (.ref s.8) "set":={_,V,rfl};have hli:=ŭ.init.lookup;have hbi:=ŭ.init.bind (.ref s.8)
   repeat (any_goals (first |assumption |wp_step))
   refine Ī (ż (R:=wants (λr g=>r=.none/\∃h' tk,g={s with heap:=h',toks:=tk} /\
    h'.SetOf (ģ prog w) s.heap.objs.size (λC=>(dn (fF x) x.cps.size).any (· == C)) (dn (fF x) x.cps.size).9 /\
    (∀b o,b<s.8->s.heap.get? b=ρ o->h'.get? b=ρ o)) E) ŭ.init.plain PySem.F.entry_set_init (check_set_init_1 hT ?_)) λl g d=>?_
   .have X:=sub_str_set;have Y:=sub_str_frozenset;have Dc:(weL "str" == weL "dict")=false:=⋯;unfold ķ.«set.__init__» noKeywords wip;generalize B:pyIter=PI
    wp_walk
    subst B;refine wpAny_pyIter_str λo St hW D=>?_;refine Â (wpAny_runValue ?_);have G:A.in1.in1.in1.handled=τ:=by simp[hh]
    have H:s.heap.objs.size∉[(s.heap.push {cls:=.type "set",dict:=τ,data:=.set #[] 0 (.fresh 0 0 a)}).7]:=by
     rw[Ĳ];simp only[à,Þ,ŋ,or_false,not_or];exact Ù (ň _)
    have m:∀(i:Nat) (v:Value),SignAt x i v->∃t,v=.str (fF x i) t:=λi v hv=>by
     let{c,u,hc,e}:=hv
     refine{u,?_};rw[e];unfold fF;rw[wcU,hc];rfl
    refine B8 ((hW _ G).toS) s.heap.objs.size H (fF x) m p (x.cps.size-0) 0 _ () (Û _) D ?J ?hR
    case J=>
     have n:((s.heap.push {cls:=.type "set",dict:=τ,data:=.set #[] 0 (.fresh 0 0 a)}).push o).get? s.8
      =ρ {cls:=.type "set",dict:=τ,data:=.set #[] 0 (.fresh 0 0 a)}:=Õ _ V
     exact SetOf_congr ((setObjOf_fresh (knd:=ģ prog w) a).setOf n (by unfold ū;lia)) (λ_=>rfl) rfl
    case hR=>
     intro s' q j
     let{h',g',d',L,M}:=s'
     have eg:g'=s.gens:=q.gens;have ed:d'=s.drawn:=q.drawn;have eo:M=s.os:=q.os;subst eg;subst ed;subst eo;show wpAny _ _ _ _ _ _;refine Ï ?_;show wpAny _ _ (ret Ĉ) _ _ _;refine Ï {rfl,h',L,rfl,j,λb o' p e=>?_};have N:b≠s.8:=Ù p
     have O:b≠(s.heap.push {cls:=.type "set",dict:=τ,data:=.set #[] 0 (.fresh 0 0 a)}).7:=by
      rw[Ĳ];exact Ù (wep p)
     exact q.heap b o' (by simp only[à,Þ,ŋ,or_false,not_or];exact⟨N,O⟩) (Õ _ (Õ _ e))
   .cases l with
    |error e=>exact d
    |ok k=>
     cases k with
     |ret r=>
      let{rfl,h',tk,rfl,j,S}:=d
      repeat (any_goals (first |assumption |wp_step))
      exact h _ _ j S
     |_=>exact d.elim
  |_=>exact z.elim
end
section
variable{X:Cx}
theorem B9(hc:X.calm=true):dO X (.type "set") (λxs H Q=>∃z,xs=[.str z]/\z.cps.size+1<ū/\∀p,H p=τ->Q (.ref p) (upd H p (Ly X.prog X.w p (dn (fF z) z.cps.size).9))):=by
 intro c s σ H xs n Q I r h
 let{z,rfl,f,q}:=h
 let{u,rfl,t,rfl}:=vals1 r
 refine zT (I.ok.hd hc) f λg i d kp=>?_;have a:∀b o,s.heap.get? b=ρ o->g.get? b=ρ o:=λb o e=>kp b o (Ì e) e;refine{.ref s.8,_,I.laid (t':=i) (o:=Ly X.prog X.w s.heap.objs.size (dn (fF z) z.cps.size).9) a (Ä _) {{_,d},?_,?_},rfl,q _ (I.b6.fresh (Ä _))}
 .let{o,_,_,_,e,_}:=d
  exact⟨o,e⟩
 .rintro v x ⟨S,o,j,l,m,e,rest⟩ k;exact{S,o,j,l,m,k o e,rest}
end
end _L
open _L
namespace _B
noncomputable def cm(r:Str)(n:Nat):Str:=î r (ρ (n:Int)) τ
noncomputable def IU(ps:List Str)(r:Str):Nat:=((Ö (r.9+1)).find? λn=>decide (cm r n∈ps)).getD 0
noncomputable def lend(ps:List Str)(r:Str):Str:=cm r (IU ps r)
theorem vJ(g:cm r n∈ps)(j:∀m,m<n->cm r m∉ps)(l:n<=r.9):IU ps r=n:=by
 delta IU
 have e:(Ö (r.9+1)).find? (λn=>decide (cm r n∈ps))=ρ n:=by
  grind [List.find?_range_eq_some]
 rw[e];rfl
theorem EG(i:Int)(h:i.natAbs<=1000):i.natAbs.log2<1920/\(ĸ (toString i)).9<=1921:=by
 have h1:i.natAbs.log2<1920:=by have:=wi6 i.natAbs;omega
 exact{h1,wdt h1}
theorem Ba{P:Nat->Prop}:∀{ts:List Str},(∀t∈ts,∃c,t={#[c]}/\P c)->(ts.map (·.9)).sum=ts.9
 |[],_=>rfl
 |t::ts,h=>by
  let{c,rfl,_}:=h t (Ø ..)
  rw[Ó,ú,Ba λt a=>h t (Ô _ a),ê];show 1+ts.9=_
  lia
theorem vK{α β:Type}(f:α->List β)(b:Nat):∀(g:List α),(∀c∈g,(f c).9<=b)->(g.flatMap f).9<=g.9*b
 |[],_=>Û _
 |c::g,h=>by
  rw[wdB,É,ê,Nat.succ_mul];have:=vK f b g λd hd=>h d (Ô _ hd);have:=h c (Ø ..)
  lia
noncomputable def bK(m:List (Str×Int)):List (Key×V):=m.map λp=>((Å p.1:Key),V.int p.2)
theorem jL(m:List (Str×Int)):(bK m).9=m.9:=À ..
noncomputable def sX:List (Str×Int)->Str->Option Int
 |[],_=>τ
 |(j,u)::m,k=>if j=k then ρ u else sX m k
theorem eZ(k:Str):∀m:List (Str×Int),bD (bK m) (Å k:Key)=(sX m k).map V.int
 |[]=>rfl
 |(j,u)::m=>by
  unfold sX
  by_cases h:j=k
  .rw[if_pos h,h];exact cu rfl
  .rw[if_neg h,<-eZ k m];exact cw (λz=>h (Ě z))
theorem vL:∀{m:List (Str×Int)},k∉m.map (·.1)->sX m k=τ
 |[],_=>rfl
 |(j,u)::m,h=>by
  unfold sX;rw[if_neg (λz=>h (by rw[z];exact Ø ..))];exact vL λz=>h (Ô _ z)
noncomputable def mz(q:Str×Str):List V:=[.str q.1,.str q.2]
noncomputable def pR(q:Str×Str):V×V:=(.str q.1,.str q.2)
theorem EH(g:List (Str×Str)):(g.map pR).map jG=g.map mz:=by
 rw[Î];rfl
structure eQ(H:Hp)(l:Addr)(rs:List Addr)(qs:List (Str×Str)):Prop where
 l:H l=ρ (.lst (rs.map V.ref))
 t:b8 H rs (qs.map mz)
theorem eQ.len{H:Hp}{l:Addr}{rs:List Addr}{g:List (Str×Str)}(r:eQ H l rs g):rs.9=g.9:=by rw[r.t.1,À]
theorem Bb(ls:List Str)(g:List (Str×Str)):((g.map pR).filter λq=>pO q.2 (ls.map V.str)).map jG=(g.filter λq=>decide (q.2∈ls)).map mz:=by
 induction g with
 |nil=>rfl
 |cons q g a=>
  have e:pO (pR q).2 (ls.map V.str)=decide (q.2∈ls):=jJ q.2 ls;rw[Ó]
  by_cases h:q.2∈ls
  .rw[ĥ (by rw[e];exact decide_eq_true h),ĥ (by exact decide_eq_true h),Ó,Ó,a];rfl
  .rw[Ľ (by rw[e];simpa using h),Ľ (by simpa using h),a]
def OM(m:List (Str×Int))(ls:List Str)(f:Str->Int):Prop:=∀p∈ls,sX m p=ρ (f p)
theorem vM(m:List (Str×Int)):vd (bK m)=true:=õ.mpr λa h=>by
 let{p,1}:=Æ.mp h
 rfl
theorem rT(h:k∉m.map (·.1))(v:Int):putK (bK m) (Å k:Key) (.int v)=bK (m++[(k,v)]):=by
 rw[gb _ (by rw[eZ,vL h];rfl)];delta bK;rw[Ü];rfl
theorem yI{f:Str->Int}:∀{os:List Str},k∈os->sX (os.map λp=>(p,f p)) k=ρ (f k)
 |[],h=>nomatch h
 |j::os,h=>by
  show (if j=k then ρ (f j) else sX (os.map λp=>(p,f p)) k)=_
  by_cases e:j=k
  .rw[if_pos e,e]
  .rw[if_neg e];rcases à.mp h with z |z
   .exact absurd z.symm e
   .exact yI z
theorem Dd{α:Type}{a b:α->Int}:∀{l:List α},(∀x∈l,a x<=b x)->(l.map a).sum<=(l.map b).sum
 |[],_=>θ _
 |x::l,h=>by
  rw[Ó,Ó,ú,ú];exact Int.add_le_add (h x (Ø ..)) (Dd λy c=>h y (Ô _ c))
theorem vN{α:Type}{a:α->Int}{l:List α}(h:∀x∈l,0<=a x):0<=(l.map a).sum:=by
 have:=Dd (a:=λ_=>(0:Int)) (b:=a) h
 have e:∀l:List α,(l.map λ_=>(0:Int)).sum=0:=by
  intro l
  induction l with
  |nil=>rfl
  |cons x l c=>rw[Ó,ú,c];rfl
 rw[e]at this;exact this
noncomputable def IV:V->Bool
 |.int _=>true
 |_=>false
theorem mB{α β:Type}{f:α->Option β}:∀{l:List α},(∀a∈l,f a=τ)->l.filterMap f=[]
 |[],_=>rfl
 |a::l,h=>by rw[Ĥ,h a (Ø ..)];exact mB λb c=>h b (Ô _ c)
noncomputable def eR(q:Str×Nat):V×V:=(.str q.1,.int (q.2:Int))
noncomputable def yJ(a:Addr):List (Str×V):=[("homes",.ref a)]
noncomputable def vO(a b:Addr):List (Str×V):=[("homes",.ref a),("weights",.ref b)]
noncomputable def De(a b c:Addr):List (Str×V):=[("homes",.ref a),("weights",.ref b),("lines",.ref c)]
theorem NI(a:Addr):cT "homes" (.ref a) []=yJ a:=rfl
theorem IW(a b:Addr):cT "weights" (.ref b) (yJ a)=vO a b:=by
 show (if ("homes":Str)="weights" then(("homes":Str),V.ref b)::[] else(("homes":Str),V.ref a)::cT "weights" (.ref b) [])=_;rw[if_neg ∅];rfl
theorem EI(a b c:Addr):cT "lines" (.ref c) (vO a b)=De a b c:=by
 show (if ("homes":Str)="lines" then(("homes":Str),V.ref c)::[(("weights":Str),V.ref b)] else(("homes":Str),V.ref a)::(if ("weights":Str)="lines" then(("weights":Str),V.ref c)::[] else(("weights":Str),V.ref b)::cT "lines" (.ref c) []))=_;rw[if_neg ∅,if_neg ∅];rfl
theorem fN(a b c:Addr):(De a b c).lookup ("homes":Str)=ρ (.ref a):=by
 rw[<-EI,aG,if_neg ∅,<-IW,aG,if_neg ∅,<-NI,aG,if_pos rfl]
theorem cO(a b c:Addr):(De a b c).lookup ("weights":Str)=ρ (.ref b):=by
 rw[<-EI,aG,if_neg ∅,<-IW,aG,if_pos rfl]
theorem bX(a b c:Addr):(De a b c).lookup ("lines":Str)=ρ (.ref c):=by
 rw[<-EI,aG,if_pos rfl]
noncomputable def av(ls:List Str)(f:Str->Int):List Str:=ls.filter λp=>decide (0<f p)
theorem sY:∀{hs:List Str} {j:Nat} (h:j<hs.9),hs.idxOf hs[j]<=j
 |[],j,h=>absurd h (ť _)
 |a::hs,0,h=>by
  show (a::hs).idxOf a<=0;rw[wgV];exact Ä 0
 |a::hs,j+1,h=>by
  have b:j<hs.9:=by simpa using h
  show (a::hs).idxOf hs[j]<=j+1;rw[wii];have:=sY b
  cases(a==hs[j]) with
  |true=>exact Û _
  |false=>show List.idxOf hs[j] hs+1<=j+1;omega
noncomputable def fB(i:Int)(n:Nat):Bool:=decide (0<=i)&&decide (i<(n:Int))
noncomputable def bg(ws:List Int)(qs:List (Str×Nat)):Int:=(qs.map λq=>ws.getD q.2 0).sum
noncomputable def fu(ws:List Int)(many:Int)(qs:List (Str×Nat))(w:Int):Bool:=!qs.isEmpty&&(decide (1<=w)&&decide (many*w<=bg ws qs))
noncomputable def b5{α:Type}(ns:List Int)(l:List α):List α:=bj (λi=>decide ((i:Int)∈ns)) 0 l
noncomputable def b0{α:Type}(ns:List Int)(l:List α):List α:=bj (λi=>!decide ((i:Int)∈ns)) 0 l
noncomputable def fi(d t:Nat)(l:List (Str×Nat)):List (Str×Nat):=l.flatMap λq=>if q.2=d then[q,(q.1,t)] else[q]
noncomputable def eJ(ws:List Int)(lns:List (List (Str×Nat)))(many uv:Int)(ns:List Int)(w:Int):Bool:=
 fB uv lns.length&&(ns.all (λi=>fB i (lns.getD uv.toNat []).9)&&(fu ws many (b5 ns (lns.getD uv.toNat [])) w&&fu ws many (b0 ns (lns.getD uv.toNat [])) (ws.getD uv.toNat 0-w)))
noncomputable def dG(hs:List Str)(d:Nat):List Str:=hs++[hs.getD d ""]
noncomputable def cW(ws:List Int)(d:Nat)(w:Int):List Int:=(ws++[ws.getD d 0-w]).set d w
noncomputable def dU(lns:List (List (Str×Nat)))(d:Nat)(ns:List Int):List (List (Str×Nat)):=((lns++[b0 ns (lns.getD d [])]).set d (b5 ns (lns.getD d []))).map (fi d lns.9)
theorem rV(d t:Nat):∀l:List (Str×Nat),(fi d t l).9<=2*l.9
 |[]=>Ä _
 |q::l=>by
  have:=rV d t l;show ((if q.2=d then[q,(q.1,t)] else[q])++fi d t l).9<=2*(l.9+1);rw[É];split
  .grind
  .grind
theorem vP(d t:Nat)(l:List (Str×Nat))(q:Str×Nat):fi d t (l++[q])=fi d t l++(if q.2=d then[q,(q.1,t)] else[q]):=by simp_all [fi,wf7,congr,û]
structure NK(hs:List Str)(ws:List Int)(lns:List (List (Str×Nat))):Prop where
 w:ws.9=hs.9
 l:lns.9=hs.9
 e:∀l∈lns,∀q∈l,q.2<hs.9
 n:hs.9<=1000
 m:∀l∈lns,l.9<=5000
theorem pT(hi:i<ws.9)(g:i≠d):(cW ws d w).getD i 0=ws.getD i 0:=by
 unfold cW;rw[Ë,wcJ (λz=>g z.symm),ā hi,<-Ë]
theorem sZ(hd:d<ws.9):(cW ws d w).getD d 0=w:=by
 unfold cW;rw[Ë,Λ (by rw[É];lia)];rfl
theorem t7(hd:d<ws.9):(cW ws d w).getD ws.length 0=ws.getD d 0-w:=by
 unfold cW;rw[Ë,wcJ (),ü (Ä _),Ď];rfl
theorem Df(ws:List Int)(d:Nat)(w:Int):(cW ws d w).9=ws.9+1:=by
 unfold cW;rw[ŧ,É];rfl
theorem cL(ws:List Int)(q:Str×Nat)(g:List (Str×Nat)):bg ws (q::g)=ws.getD q.2 0+bg ws g:=rfl
theorem vQ(ws:List Int)(ps g:List (Str×Nat)):bg ws (ps++g)=bg ws ps+bg ws g:=by
 delta bg;rw[Ü,wij]
theorem o6(hd:d<ws.9):∀g:List (Str×Nat),(∀q∈g,q.2<ws.9)->bg (cW ws d w) (fi d ws.length g)=bg ws g
 |[],_=>rfl
 |q::g,h=>by
  have c:=o6 (w:=w) hd g λq b=>h q (Ô _ b);have b:=h q (Ø ..);have e:fi d ws.length (q::g)=(if q.2=d then[q,(q.1,ws.9)] else[q])++fi d ws.length g:=rfl;rw[e,vQ,c,cL]
  by_cases a:q.2=d
  .rw[if_pos a,cL,cL,a,sZ hd];have f:(cW ws d w).getD ((q.1,ws.9):Str×Nat).2 0=ws.getD d 0-w:=t7 hd;rw[f];show w+(ws.getD d 0-w+0)+_=_
   lia
  .rw[if_neg a,cL,pT b a];show ws.getD q.2 0+0+_=_
   lia
theorem EJ:∀(ws:List Int) (d:Nat) (w:Int),d<ws.9->(ws.set d w).sum=ws.sum-ws.getD d 0+w
 |[],_,_,h=>absurd h (ť _)
 |x::ws,0,w,_=>by
  show w+ws.sum=x+ws.sum-x+w
  lia
 |x::ws,d+1,w,h=>by
  have a:=EJ ws d w (by simpa using h);show x+(ws.set d w).sum=x+ws.sum-ws.getD d 0+w;rw[a]
  lia
theorem Dg(hd:d<ws.9):(cW ws d w).sum=ws.sum:=by grind [cW,EJ,É,ā]
structure jc(many:Int)(hs:List Str)(ws:List Int)(lns:List (List (Str×Nat))):Prop where
 w:ws.9=hs.9
 l:lns.9=hs.9
 p:∀w∈ws,1<=w
 e:∀l∈lns,∀q∈l,q.2<hs.9
 b:∀(i:Nat) (l:List (Str×Nat)),lns[i]?=ρ l->many*ws.getD i 0<=bg ws l
noncomputable def pre(ls:List Int)(k:Nat):Int:=(ls.take k).sum
theorem RV{a b:Prop}[Decidable a][Decidable b]{α:Type}{x y:α}(h:a↔b):(if a then x else y)=if b then x else y:=by simp_all [if_pos,if_neg]
noncomputable def i3(p:Str)(z:Str×Nat):List Str->List (List (Str×Nat))->Nat
 |h::hs,l::lns=>(if h=p then l.count z else 0)+i3 p z hs lns
 |_,_=>0
theorem yK(p:Str)(z:Str×Nat)(h:Str)(l:List (Str×Nat)):∀(hs:List Str) (lns:List (List (Str×Nat))),hs.9=lns.9->i3 p z (hs++[h]) (lns++[l])=i3 p z hs lns+(if h=p then l.count z else 0)
 |[],[],_=>by
  show (if h=p then l.count z else 0)+0=0+_
  lia
 |[],_::_,e=>by cases e
 |_::_,[],e=>by cases e
 |x::hs,y::lns,e=>by
  show (if x=p then y.count z else 0)+i3 p z (hs++[h]) (lns++[l])=_;rw[yK p z h l hs lns (by simpa using e)];show _=(if x=p then y.count z else 0)+i3 p z hs lns+_
  lia
theorem Bc(p:Str)(z:Str×Nat)(g:List (Str×Nat)):∀(hs:List Str) (lns:List (List (Str×Nat))) (d:Nat),hs.9=lns.9->d<lns.9 ->
 i3 p z hs (lns.set d g)+(if hs.getD d ""=p then(lns.getD d []).count z else 0)=i3 p z hs lns+(if hs.getD d ""=p then g.count z else 0)
 |_,[],d,_,h=>absurd h (ť _)
 |[],_::_,_,e,_=>by cases e
 |x::hs,y::lns,0,_,_=>by
  show (if x=p then g.count z else 0)+i3 p z hs lns+(if x=p then y.count z else 0)=(if x=p then y.count z else 0)+i3 p z hs lns+(if x=p then g.count z else 0)
  lia
 |x::hs,y::lns,d+1,e,h=>by
  have a:=Bc p z g hs lns d (by simpa using e) (by simpa using h);show (if x=p then y.count z else 0)+i3 p z hs (lns.set d g)+(if hs.getD d ""=p then(lns.getD d []).count z else 0)=(if x=p then y.count z else 0)+i3 p z hs lns+(if hs.getD d ""=p then g.count z else 0)
  lia
theorem Bd(p:Str){f:List (Str×Nat)->List (Str×Nat)}:∀(hs:List Str) (lns:List (List (Str×Nat))),(∀l∈lns,(f l).count z=l.count z')->i3 p z hs (lns.map f)=i3 p z' hs lns
 |_,[],_=>by cases ‹List Str›<;>rfl
 |[],_::_,_=>rfl
 |x::hs,y::lns,h=>by
  show (if x=p then(f y).count z else 0)+i3 p z hs (lns.map f)=(if x=p then y.count z' else 0)+i3 p z' hs lns;rw[Bd p hs lns λl hl=>h l (Ô _ hl),h y (Ø ..)]
theorem cnt_cons(q z:Str×Nat)(l:List (Str×Nat)):(q::l).count z=l.count z+if q=z then 1 else 0:=by simp_all [List.count_cons,if_pos,beq_self_eq_true,if_neg]
theorem oX(f:Nat->Bool)(z:Str×Nat):∀(k:Nat) (l:List (Str×Nat)),(bj f k l).count z+(bj (λi=>!f i) k l).count z=l.count z
 |_,[]=>rfl
 |k,q::l=>by
  have a:=oX f z (k+1) l;show (if f k then q::bj f (k+1) l else bj f (k+1) l).count z+(if !f k then q::bj (λi=>!f i) (k+1) l else bj (λi=>!f i) (k+1) l).count z=_;rw[cnt_cons]
  cases f k with
  |true=>
   grind
  |false=>
   grind
theorem t8(hd:d<t)(w:Str)(e:Nat):∀l:List (Str×Nat),(∀q∈l,q.2<t)->(fi d t l).count (w,e)=l.count (w,if e=t then d else e)
 |[],_=>rfl
 |q::l,h=>by
  have f:=t8 hd w e l λq c=>h q (Ô _ c);have c:=h q (Ø ..);have g:fi d t (q::l)=(if q.2=d then[q,(q.1,t)] else[q])++fi d t l:=rfl;rw[g,List.count_append,f,cnt_cons]
  let{a,b}:=q
  have c:b<t:=c;show (if b=d then[(a,b),(a,t)] else[(a,b)]).count (w,e)+_=_
  by_cases i:b=d
  .grind
  .grind
def xO(B:Str->List (Str×Str))(hs:List Str)(lns:List (List (Str×Nat))):Prop:=
 ∀(p w:Str) (e:Nat),i3 p (w,e) hs lns=if e<hs.9/\p∈hs/\(w,hs.getD e "")∈B p then 1 else 0
theorem jz{f:Str->Option (Str×Str)}(g:∀r x,f r=ρ x->x.1=r):∀L:List Str,((L.filterMap f).map (·.1)).Sublist L
 |[]=>.slnil
 |r::L=>by
  rw[Ĥ]
  cases e:f r with
  |none=>exact(jz g L).cons _
  |some x=>
   show (x.1::(L.filterMap f).map (·.1)).Sublist _;rw[g r x e];exact(jz g L).cons₂ _
theorem kF{α:Type}(f:α->Int):∀l:List α,(∀x∈l,0<=f x)->(l.map f).sum=((l.filter λx=>decide (0<f x)).map f).sum
 |[],_=>rfl
 |x::l,h=>by
  have b:=kF f l λy d=>h y (Ô _ d);have h0:=h x (Ø ..);show f x+(l.map f).sum=_
  by_cases c:0<f x
  .rw[ĥ (p:=λx=>decide (0<f x)) (a:=x) (decide_eq_true c),b];rfl
  .rw[Ľ (p:=λx=>decide (0<f x)) (a:=x) (by rw[decide_eq_false c];decide),b];omega
theorem yL{f:Str->Int}(h:∀p∈ls,0<=f p):((av ls f).map f).sum=(ls.map f).sum:=(kF f ls h).symm
noncomputable def d5(ds:List Nat)(qs:List (Str×Nat)):List (Str×Nat):=qs.filter λq=>decide (q.2∈ds)
theorem IX(j:List Nat)(g:List (Str×Nat)):(d5 j g).9<=g.9:=Ħ _ _
noncomputable def vR(lns:List (List (Str×Nat)))(many:Int)(ds:List Nat):List Nat:=ds.filter λd=>decide (many<=((d5 ds (lns.getD d [])).9:Int))
def EK(lns:List (List (Str×Nat)))(many:Int)(S:List Nat):Prop:=∀d∈S,d<lns.9/\many<=((d5 S (lns.getD d [])).9:Int)
theorem IY(e:vR lns many g≠g):(vR lns many g).9<g.9:=by
 have a:(vR lns many g).Sublist g:=wdW;exact Nat.lt_of_le_of_ne a.length_le λz=>e (a.eq_of_length z)
theorem oY:∀g:List (Str×Nat),(∀q∈g,ws.getD q.2 0<=h)->bg ws g<=(g.9:Int)*h
 |[],_=>by show (0:Int)<=(0:Nat)*h;simp
 |q::g,a=>by
  have c:=oY g λp b=>a p (Ô _ b);have h0:=a q (Ø ..);rw[cL,ê,Ō,wgu];show _<=_+1*h
  lia
theorem jM{ws:List Int}{i:Nat}(h:i<ws.9):ws.getD i 0∈ws:=by
 rw[Ë,Ã h];exact ñ h
theorem yM(f:Nat->Bool)(ws:List Int):∀(k:Nat) (g:List (Str×Nat)),bg ws (bj f k g)=(((wff k g.9).filter f).map λi=>ws.getD (g.getD (i-k) ("",0)).2 0).sum
 |_,[]=>rfl
 |k,q::g=>by
  have a:=yM f ws (k+1) g
  have e:((wff (k+1) g.9).filter f).map (λi=>ws.getD ((q::g).getD (i-k) ("",0)).2 0)=((wff (k+1) g.9).filter f).map λi=>ws.getD (g.getD (i-(k+1)) ("",0)).2 0:=ĕ λi hi=>by
   have:=(whJ.mp (ß.mp hi).1).1;rw[show i-k=(i-(k+1))+1 by lia];rfl
  show bg ws (if f k then q::bj f (k+1) g else bj f (k+1) g)=_;rw[ê,wfP]
  cases b:f k with
  |true=>
   rw[if_pos rfl,ĥ b,Ó,e,cL,a,ú,Ď];rfl
  |false=>
   rw[if_neg ⋯,Ľ (by grind),e,a]
theorem IZ{a b:List Int}(h:a.Perm b):a.sum=b.sum:=by
 induction h with
 |nil=>rfl
 |cons x _ c=>rw[ú,ú,c]
 |swap x y l=>rw[ú,ú,ú,ú];omega
 |trans _ _ d e=>exact d.trans e
theorem Dh{a b:List Nat}(na:a.Nodup)(g:b.Nodup)(h:∀x,x∈a↔x∈b):a.Perm b:=List.perm_iff_count.mpr λx=>by
 by_cases c:x∈a
 .rw[weY.mp na |> λz=>wgk (z x) (ł.mpr c),weY.mp g |> λz=>wgk (z x) (ł.mpr ((h x).mp c))]
 .rw[whA.mpr c,whA.mpr λz=>c ((h x).mpr z)]
theorem FP(ws:List Int)(ns:List Int)(g:List (Str×Nat)):bg ws (b5 ns g)+bg ws (b0 ns g)=bg ws g:=by
 have gen:∀(f:Nat->Bool) (k:Nat) (l:List (Str×Nat)),bg ws (bj f k l)+bg ws (bj (λi=>!f i) k l)=bg ws l:=by
  intro f k l
  induction l generalizing k with
  |nil=>rfl
  |cons q l a=>
   have a:=a (k+1);show bg ws (if f k then q::bj f (k+1) l else bj f (k+1) l)+bg ws (if !f k then q::bj (λi=>!f i) (k+1) l else bj (λi=>!f i) (k+1) l)=_;rw[cL]
   cases f k with
   |true=>
    rw[if_pos ⋯,if_neg ⋯,cL]
    lia
   |false=>
    rw[if_neg ⋯,if_pos ⋯,cL]
    lia
 exact gen _ 0 g
theorem oZ{f:Nat->Int}:∀ns:List Nat,(∀n∈ns,f n<=h)->(ns.map f).sum<=(ns.9:Int)*h
 |[],_=>by show (0:Int)<=(0:Nat)*h;simp
 |n::ns,a=>by
  have c:=oZ ns λp b=>a p (Ô _ b);have h0:=a n (Ø ..);rw[Ó,ú,ê,Ō,wgu];show _<=_+1*h
  lia
theorem vS{f:Nat->Int}:∀ns:List Nat,(∀n∈ns,1<=f n)->ns≠[]->1<=(ns.map f).sum
 |[],_,h=>absurd rfl h
 |[n],a,_=>by
  have:=a n (Ø ..);show 1<=f n+0
  lia
 |n::m::ns,a,_=>by
  have h0:=a n (Ø ..);have c:=vS (m::ns) (λp b=>a p (Ô _ b)) (λz=>nomatch z);rw[Ó,ú]
  lia
noncomputable def nI(ds:List Nat):List Int:=ds.map λn:Nat=>(n:Int)
theorem OO{g:List Nat}{e:Nat}:(e:Int)∈nI g↔e∈g:=by grind [nI]
theorem Be(e:Nat)(g:List Nat):pO (.int (e:Int)) ((nI g).map V.int)=decide (e∈g):=by
 rw[vo];exact decide_eq_decide.mpr OO
theorem cM(g:List Nat):(nI g).9=g.9:=À _
theorem zU{g:List Nat}{i n:Nat}(h:g[i]?=ρ n):((nI g).map V.int)[i]?=ρ (.int (n:Int)):=by
 unfold nI;rw[Ç,Ç,h];rfl
theorem rW(a b:List Nat):nI (a++b)=nI a++nI b:=Ü
noncomputable def du(NF:List Str)(f:Str->Int):Str->Int:=λp=>if p∈NF then f p else 0
theorem vT{α:Type}{f g:α->Int}:∀l:List α,(∀x∈l,f x<=g x)->(l.map f).sum<=(l.map g).sum
 |[],_=>θ _
 |x::l,h=>by
  have:=h x (Ø ..);have:=vT l λy a=>h y (Ô _ a);rw[Ó,Ó,ú,ú]
  lia
theorem vU{α:Type}{f:α->Int}{x:α}:∀l:List α,(∀x∈l,0<=f x)->x∈l->0<f x->0<(l.map f).sum
 |y::l,h,a,c=>by
  have h0:=h y (Ø ..);have hn:=vN λz b=>h z (Ô _ b);rw[Ó,ú];rcases à.mp a with e |a
  .rw[<-e];lia
  .have:=vU l (λz b=>h z (Ô _ b)) a c
   lia
theorem yN:∀(a b:List Int),uq (a.map V.int) (b.map V.int)=decide (a=b)
 |[],[]=>rfl
 |[],_::_=>rfl
 |_::_,[]=>rfl
 |x::a,y::b=>by
  have d:=yN a b;show (rG (.int x) (.int y)&&uq (a.map V.int) (b.map V.int))=_;rw[d]
  by_cases h:x=y
  .subst h
   by_cases c:a=b
   .subst c;have:rG (.int x) (.int x)=true:=by simp[rG]
    rw[this,decide_eq_true rfl,decide_eq_true rfl];rfl
   .rw[decide_eq_false c,ů,decide_eq_false λz=>c (wh8 z).2]
  .have:rG (.int x) (.int y)=false:=by simp[rG,h]
   rw[this,ζ,decide_eq_false λz=>h (wh8 z).1]
theorem rX{p:V->Bool}{f:Nat->Bool}(h:∀n:Nat,p (.int (n:Int))=f n):∀g:List Nat,((nI g).map V.int).filter p=(nI (g.filter f)).map V.int
 |[]=>rfl
 |k::g=>by
  have a:=rX h g;show (V.int (k:Int)::(nI g).map V.int).filter p=_
  cases e:f k with
  |true=>rw[ĥ (by rw[h,e]),ĥ e,a];rfl
  |false=>rw[Ľ (by rw[h,e];decide),Ľ (by rw[e];decide),a]
theorem vV(h:x∈(nI g).map V.int):∃n∈g,x=.int (n:Int):=by
 let{i,hi,rfl}:=Æ.mp h
 let{n,hn,rfl}:=Æ.mp hi
 exact⟨n,hn,rfl⟩
theorem vW(n:Nat):((Ö n).map λi=>V.int (i:Nat))=(nI (Ö n)).map V.int:=by
 unfold nI;rw[Î];rfl
noncomputable def dB(rs:List Nat):List (Key×V):=rs.map λn:Nat=>((á (n:Int):Key),V.bl true)
theorem zV(e:Nat):∀rs:List Nat,bD (dB rs) (á (e:Int):Key)=if e∈rs then ρ (.bl true) else τ
 |[]=>rfl
 |r::rs=>by
  have a:=zV e rs
  by_cases h:r=e
  .subst h;rw[if_pos (Ø ..)];exact cu (p:=((á (r:Int):Key),V.bl true)) (r:=dB rs) rfl
  .have hn:¬(á (r:Int):Key)=á (e:Int):=λz=>h (by grind);rw[show dB (r::rs)=((á (r:Int):Key),V.bl true)::dB rs from rfl,cw hn,a]
   by_cases b:e∈rs
   .grind
   .grind
theorem J0{e:Nat}{rs:List Nat}(h:e∉rs):putK (dB rs) (á (e:Int):Key) (.bl true)=dB (rs++[e]):=by
 rw[gb _ (by rw[zV,if_neg h])];delta dB;rw[Ü];rfl
theorem EL(rs:List Nat):((dB rs).map λg=>kV g.1)=(nI rs).map V.int:=by
 unfold dB nI;rw[Î,Î];rfl
theorem LZ(h:g≠[]):∃(z:Nat) (ys:List Nat),g=ys++[z]/\((nI g).map V.int)[((nI g).map V.int).9-1]?=ρ (.int (z:Int))/\((nI g).map V.int).dropLast=(nI ys).map V.int:=by
 refine{g.getLast h,g.dropLast,(wdE h).symm,?_,?_}
 .have e:nI g=nI g.dropLast++[((g.getLast h:Nat):Int)]:=by
   conv=>lhs;rw[<-wdE h]
   exact rW _ _
  rw[e,Ü,É];show (_++[V.int _])[_+1-1]?=_;rw[Nat.add_sub_cancel,ü (Ä _),Ď];rfl
 .unfold nI;rw[<-whK,<-whK]
noncomputable def dR(many:Int)(p:Nat->Int)(n:Nat):List (Key×V):=(Ö n).map λi:Nat=>((á (p i%many):Key),V.int (i:Int))
theorem FQ{κ:Type}[DecidableEq κ]{k:κ}{v:V}:∀{kvs:List (κ×V)},bD kvs k=ρ v->(k,v)∈kvs:=by intro kvs;induction kvs<;>grind [HY,cu,Ø,cw,Ô]
theorem J1(many:Int)(p:Nat->Int)(n:Nat)(r:Int):(bD (dR many p n) (á r:Key)=τ/\∀i,i<n->p i%many≠r)\/∃i,i<n/\p i%many=r/\bD (dR many p n) (á r:Key)=ρ (.int (i:Int)):=by
 cases h:bD (dR many p n) (á r:Key) with
 |none=>
  refine .inl {rfl,λi hi e=>?_};refine IJ h (Æ.mpr {((á (p i%many):Key),V.int (i:Int)),Æ.mpr {i,Ą.mpr hi,rfl},?_});show (á (p i%many):Key)=_;rw[e]
 |some v=>
  let{i,hi,e}:=Æ.mp (FQ h)
  have a:p i%many=r:=Sum.inl.inj (ġ e).1;have b:V.int (i:Int)=v:=(ġ e).2;exact .inr {i,Ą.mp hi,a,by rw[b]}
theorem OQ{p:Nat->Int}(h:bD (dR many p n) (á (p n%many):Key)=τ):putK (dR many p n) (á (p n%many):Key) (.int (n:Int))=dR many p (n+1):=by
 rw[gb _ h];delta dR;rw[Δ,Ü];rfl
theorem OS(many:Int)(p:Nat->Int)(n:Nat):(dR many p n).9=n:=by delta dR;rw[À,ì]
theorem ER(ns:List Nat)(j:Nat):(nI ns).take j=nI (ns.take j):=by unfold nI;rw[π]
theorem M0(ns:List Nat)(j:Nat):(nI ns).drop j=nI (ns.drop j):=by unfold nI;rw[wex]
noncomputable def restOf(m i0:Nat):List Nat:=(Ö m).filter λn=>decide (n≠i0)
noncomputable def numsOf(m i0 k:Nat):List Nat:=i0::(restOf m i0).take k
theorem Di(m i0 k:Nat):(numsOf m i0 k).Nodup:=by
 delta numsOf;refine Đ.mpr {λh=>?_,(wfT.filter _).sublist (Ĩ _ _)};have:=of_decide_eq_true (ß.mp ((Ĩ _ _).subset h)).2;exact this rfl
theorem zW(h:i0<m):∀n∈numsOf m i0 k,n<m:=λn hn=>by
 rcases à.mp hn with rfl |hn
 .exact h
 .exact Ą.mp (ß.mp ((Ĩ _ _).subset hn)).1
theorem OT(ws:List Int){g:List (Str×Nat)}{n:Nat}(h:n<g.9):(g.map λq=>ws.getD q.2 0).getD n 0=ws.getD (g.getD n ("",0)).2 0:=by
 rw[Ë,Ç,Ã h,Ë (l:=g),Ã h];rfl
theorem M3{R:Addr->Prop}:(∀y∈ys,∃q,y=.ref q/\R q)->∃ps:List Addr,ys=ps.map V.ref/\∀q∈ps,R q:=by
 induction ys with
 |nil=>exact λ_=>{[],rfl,λq h=>nomatch h}
 |cons y ys b=>
  intro h
  let{q,rfl,c}:=h y (Ø ..)
  let{ps,rfl,d}:=b λz e=>h z (Ô _ e)
  exact{q::ps,rfl,λr a=>by
   rcases à.mp a with rfl |a
   .exact c
   .exact d r a}
noncomputable abbrev zX:=Nat×List Nat×Int
set_option genInjectivity true in
inductive Runs(many:Int)(U4:List Str)(U5:List Int)(M4:List (List (Str×Nat))):List zX->List Str->List Int->List (List (Str×Nat))->Prop
 |nil:Runs many U4 U5 M4 [] U4 U5 M4
 |snoc {l:List zX} {hs:List Str} {ws:List Int} {lns:List (List (Str×Nat))} {d:Nat} {ns:List Nat} {w:Int}:Runs many U4 U5 M4 l hs ws lns->eJ ws lns many (d:Int) (nI ns) w=true->ns.9<=1000->Runs many U4 U5 M4 (l++[(d,ns,w)]) (dG hs d) (cW ws d w) (dU lns d (nI ns))
noncomputable def yO(a:Addr):List (Str×V):=[("weights",.ref a)]
noncomputable def vX(a b:Addr):List (Str×V):=[("weights",.ref a),("splits",.ref b)]
noncomputable def yP(a b c:Addr):List (Str×V):=[("weights",.ref a),("splits",.ref b),("kept",.ref c)]
noncomputable def vY(a b c d:Addr):List (Str×V):=[("weights",.ref a),("splits",.ref b),("kept",.ref c),("last",.ref d)]
theorem RW(a:Addr):cT "weights" (.ref a) []=yO a:=rfl
theorem NM(a b:Addr):cT "splits" (.ref b) (yO a)=vX a b:=by
 show (if ("weights":Str)="splits" then _ else(("weights":Str),V.ref a)::cT "splits" (.ref b) [])=_;rw[if_neg ∅];rfl
theorem J4(a b c:Addr):cT "kept" (.ref c) (vX a b)=yP a b c:=by
 show (if ("weights":Str)="kept" then _ else(("weights":Str),V.ref a)::(if ("splits":Str)="kept" then _ else(("splits":Str),V.ref b)::cT "kept" (.ref c) []))=_;rw[if_neg ∅,if_neg ∅];rfl
theorem EV(a b c d:Addr):cT "last" (.ref d) (yP a b c)=vY a b c d:=by
 show (if ("weights":Str)="last" then _ else(("weights":Str),V.ref a)::(if ("splits":Str)="last" then _ else(("splits":Str),V.ref b)::(if ("kept":Str)="last" then _ else(("kept":Str),V.ref c)::cT "last" (.ref d) [])))=_;rw[if_neg ∅,if_neg ∅,if_neg ∅];rfl
theorem Dj(a b c d:Addr):(vY a b c d).lookup ("last":Str)=ρ (.ref d):=by
 rw[<-EV,aG,if_pos rfl]
theorem Dk(a b c d:Addr):(vY a b c d).lookup ("kept":Str)=ρ (.ref c):=by
 rw[<-EV,aG,if_neg ∅,<-J4,aG,if_pos rfl]
theorem zY(a b c d:Addr):(vY a b c d).lookup ("splits":Str)=ρ (.ref b):=by
 rw[<-EV,aG,if_neg ∅,<-J4,aG,if_neg ∅,<-NM,aG,if_pos rfl]
theorem M5:gG (upd H b o) b=gG H b:=by
 funext c;unfold gG
 by_cases h:c=b
 .rw[if_pos h,if_pos h]
 .rw[if_neg h,if_neg h,ae h]
theorem Bf(s:a8 H g)(h:H b=τ):a8 H (gG g b):=λc o e=>fY (s _ _ e) (af e h)
theorem vZ:∀{ws:List Int},(∀w∈ws,1<=w)->(ws.9:Int)<=ws.sum
 |[],_=>θ _
 |w::ws,h=>by
  have h0:=h w (Ø ..);have b:=vZ (ws:=ws) λx a=>h x (Ô _ a);rw[ú,ê]
  lia
noncomputable def gg(ks:List Nat)(m:Nat)(qs:List (Str×Nat)):List (Str×Nat):=((d5 ks qs).take m).map λq=>(q.1,ks.idxOf q.2)
noncomputable def fH(lns:List (List (Str×Nat)))(ks:List Nat)(m:Nat):List (List (Str×Nat)):=ks.map λd=>gg ks m (lns.getD d [])
theorem rY{l:List (Str×Nat)}{t:Nat}(h:t<l.9):l[t]?=ρ (l.getD t ("",0)):=by
 rw[Ë,Ã h];rfl
theorem w6:∀{hs:List Nat} {j:Nat} (h:j<hs.9),hs.idxOf hs[j]<=j
 |[],j,h=>absurd h (ť _)
 |a::hs,0,h=>by
  show (a::hs).idxOf a<=0;rw[wgV];exact Ä 0
 |a::hs,j+1,h=>by
  have b:j<hs.9:=by simpa using h
  show (a::hs).idxOf hs[j]<=j+1;rw[wii];have:=w6 b
  cases(a==hs[j]) with
  |true=>exact Û _
  |false=>show List.idxOf hs[j] hs+1<=j+1;omega
theorem fO:∀{fs:List (Str×V)},n∉fs.map (·.1)->cT n v fs=fs++[(n,v)]
 |[],_=>rfl
 |(a,u)::fs,h=>by
  have b:¬a=n:=λz=>h (by rw[Ó,z];exact Ø ..);show (if a=n then _ else _)=_;rw[if_neg b,fO (fs:=fs) λz=>h (by rw[Ó];exact Ô _ z)];rfl
theorem dH:∀{fs:List (Str×V)},n∉fs.map (·.1)->(fs++(n,v)::g).lookup n=ρ v
 |[],_=>by
  show wfe n ((n,v)::g)=_;rw[ĉ,show (n==n)=true from beq_iff_eq.mpr rfl]
 |(a,u)::fs,h=>by
  have b:¬n=a:=λz=>h (by rw[Ó,z];exact Ø ..);rw[wi1,ĉ,show (n==a)=false from beq_eq_false_iff_ne.mpr b];exact dH (fs:=fs) λz=>h (by rw[Ó];exact Ô _ z)
theorem pU:∀{fs:List (Str×V)},n∉fs.map (·.1)->fs.lookup n=τ:=by grind [Ø,Ô]
noncomputable def Qs(p:Addr):List (Str×V):=[("scheme",.ref p)]
noncomputable def RX(p b:Addr):List (Str×V):=[("scheme",.ref p),("band",.ref b)]
noncomputable def Qt(p b:Addr)(many:Int):List (Str×V):=[("scheme",.ref p),("band",.ref b),("many",.int many)]
noncomputable def Qu(p b:Addr)(many wide:Int):List (Str×V):=[("scheme",.ref p),("band",.ref b),("many",.int many),("wide",.int wide)]
noncomputable def Qv(p b:Addr)(many wide:Int)(h:Addr):List (Str×V):=[("scheme",.ref p),("band",.ref b),("many",.int many),("wide",.int wide),("homes",.ref h)]
noncomputable def M6(p b:Addr)(many wide:Int)(h l:Addr):List (Str×V):=[("scheme",.ref p),("band",.ref b),("many",.int many),("wide",.int wide),("homes",.ref h),("lines",.ref l)]
noncomputable def RY(p b:Addr)(many wide:Int)(h l:Addr)(o:Str):List (Str×V):=[("scheme",.ref p),("band",.ref b),("many",.int many),("wide",.int wide),("homes",.ref h),("lines",.ref l),("opening",.str o)]
theorem w9:∀b:Nat,(Ý b [V.int 0]).flatten=(nI (Ý b 0)).map V.int
 |0=>rfl
 |b+1=>by
  rw[ű,ŗ,w9 b,ű];rfl
theorem Dl(h:∀c o,H c=ρ o->∃g,j c=ρ g):a8 (aM j l) (aM H l):=by grind [a8,aM]
theorem snoc_ind{α:Type}{P:List α->Prop}(h0:P [])(g:∀l a,P l->P (l++[a]))(l:List α):P l:=by
 have h:∀m:List α,P m.reverse:=λm=>by
  induction m with
  |nil=>exact h0
  |cons a m b=>rw[List.reverse_cons];exact g _ _ b
 rw[<-List.reverse_reverse l];exact h _
noncomputable def p0(hs:List Str)(ks:List Nat):List Str:=ks.map λd=>hs.getD d ""
theorem jN{hs:List Str}{g:List Nat}{i:Nat}(hi:i<g.9):(p0 hs g).getD i ""=hs.getD g[i] "":=by
 delta p0;rw[Ë,Ç,Ã hi];rfl
theorem getD_some{α:Type}{l:List α}{i:Nat}(x:α)(h:i<l.9):l[i]?=ρ (l.getD i x):=by
 rw[Ë,Ã h];rfl
def jO(lns:List (List (Str×Nat))):Nat->List Str->Prop
 |_,[]=>True
 |d,w::ws=>∃e,(w,e)∈lns.getD d []/\jO lns e ws
noncomputable def uw(d t e:Nat):Nat:=if e=t then d else e
theorem FR{lns:List (List (Str×Nat))}{d i:Nat}{ns:List Int}(hd:d<lns.9)(hi:i<lns.9+1):(dU lns d ns).getD i []=fi d lns.length (if i=d then b5 ns (lns.getD d []) else if i=lns.length then b0 ns (lns.getD d []) else lns.getD i []):=by
 unfold dU;rw[Ë,Ç,List.getElem?_set]
 by_cases a:i=d
 .subst a;rw[if_pos rfl,if_pos rfl,if_pos (by rw[É];omega)];rfl
 .rw[if_neg (λz=>a z.symm),if_neg a]
  by_cases b:i=lns.9
  .subst b;rw[if_pos rfl,ü (Ä _),Ď];rfl
  .rw[if_neg b,ā 1.0,getD_some [] (show i<lns.length by omega)];rfl
theorem FT{hs:List Str}{d i:Nat}(hi:i<hs.9+1):(dG hs d).getD i ""=hs.getD (uw d hs.length i) "":=by
 unfold dG uw;rw[Ë]
 by_cases z:i=hs.9
 .rw[if_pos z,z,ü (Ä _),Ď];rfl
 .rw[if_neg z,ā (),getD_some ("":Str) (show i<hs.length by lia)];rfl
theorem NN{lns:List (List (Str×Nat))}{g:List Nat}{m d:Nat}(hd:d<g.9):(fH lns g m).getD d []=gg g m (lns.getD (g.getD d 0) []):=by
 unfold fH;rw[Ë,Ç,getD_some 0 hd];rfl
theorem we(lns:List (List (Str×Nat)))(g:List Nat)(m:Nat):(fH lns g m).9=g.9:=À ..
noncomputable def cat:List Str->Str
 |[]=>""
 |w::ws=>w++cat ws
noncomputable def ig(b c:Nat)(ts:List Nat):List Nat:=Ý b 0++(ts++Ý c 0)
noncomputable def jP(p:Nat×Nat):List V:=[.int (p.1:Int),.int (p.2:Int)]
noncomputable abbrev xP:=Nat×Str×Nat
noncomputable def pairsOf(done:List xP)(w:Str):List (Nat×Nat):=(done.filter λt=>decide (t.2.1=w)).map λt=>(t.1,t.2.2)
theorem Bg(done:List xP)(w:Str)(i e:Nat):(i,e)∈pairsOf done w↔(i,w,e)∈done:=by
 delta pairsOf;constructor
 .intro h
  let{{a,b,c},f,g}:=Æ.mp h
  let{j,d}:=ß.mp f
  have d:b=w:=of_decide_eq_true d
  let{rfl,rfl}:=ġ g
  rw[<-d];exact j
 .intro h;exact Æ.mpr {(i,w,e),ß.mpr {h,decide_eq_true rfl},rfl}
theorem zZ(done:List xP)(i e:Nat)(w v:Str):pairsOf (done++[(i,w,e)]) v=if v=w then pairsOf done v++[(i,e)] else pairsOf done v:=by
 delta pairsOf;rw[ń,Ü]
 by_cases h:v=w
 .subst h;rw[if_pos rfl,ĥ (by exact decide_eq_true rfl)];rfl
 .rw[if_neg h,Ľ (by exact λz=>h (of_decide_eq_true z).symm)];exact û _
noncomputable def mC(H0 H2 H3:Hp):Hp:=λc=>match H2 c with
 |none=>H3 c
 |some _=>H0 c
noncomputable def RZ(many:Int):V->V
 |.int c=>.int (c%many)
 |_=>.non
theorem J5{many:Int}(j:2<=many)(g:List Int):∃ts:List Nat,(g.map V.int).map (RZ many)=(nI ts).map V.int/\ts.9=g.9/\∀t∈ts,(t:Int)<many:=by
 refine{g.map λc=>(c%many).toNat,?_,by rw[À],λt a=>?_}
 .unfold nI;rw[Î,Î,Î];refine ĕ λc hc=>?_;have:=ċ c (show many≠0 by omega);show V.int (c%many)=V.int (((c%many).toNat:Nat):Int);rw[whf this]
 .let{c,1}:=Æ.mp a
  have:=ċ c (show many≠0 by omega);have:=Ę c (show 0<many by omega);omega
theorem J6{z:Str}{n:Nat}(j:n<=1000000)(g:z.9*n<=1000000):MulOk z (n:Int):=by
 refine{by rw[decide_eq_false 1.0,decide_eq_false 1.0];rfl,λa _=>?_,λ_ _=>?_}
 .have b:(z.9:Int)*(n:Int)<=1000000:=by rw[<-ą];omega
  have c:(z.9:Int)<=(2^63-1)/(n:Int):=(weu 1.0).mpr 1.0;omega
 .rw[ç];have:=ak g;exact decide_eq_false 1.0
section
variable(p b h l:Addr)(many wide:Int)(o:Str)
theorem S0:cT "scheme" (.ref p) []=Qs p:=rfl
theorem S2:cT "band" (.ref b) (Qs p)=RX p b:=fO (by show ("band":Str)∉[("scheme":Str)];decide+kernel)
theorem Sa:cT "many" (.int many) (RX p b)=Qt p b many:=fO (by show ("many":Str)∉[("scheme":Str),"band"];decide+kernel)
theorem Sb:cT "wide" (.int wide) (Qt p b many)=Qu p b many wide:=fO (by show ("wide":Str)∉[("scheme":Str),"band","many"];decide+kernel)
theorem Sd:cT "homes" (.ref h) (Qu p b many wide)=Qv p b many wide h:=fO (by show ("homes":Str)∉[("scheme":Str),"band","many","wide"];decide+kernel)
theorem Se:cT "lines" (.ref l) (Qv p b many wide h)=M6 p b many wide h l:=fO (by show ("lines":Str)∉[("scheme":Str),"band","many","wide","homes"];decide+kernel)
theorem Sf:cT "opening" (.str o) (M6 p b many wide h l)=RY p b many wide h l o:=fO (by show ("opening":Str)∉[("scheme":Str),"band","many","wide","homes","lines"];decide+kernel)
theorem pV:(Qu p b many wide).lookup ("scheme":Str)=ρ (.ref p):=dH (fs:=[]) ∅
theorem Dm:(M6 p b many wide h l).lookup ("band":Str)=ρ (.ref b):=dH (fs:=Qs p) (by show ("band":Str)∉[("scheme":Str)];decide+kernel)
theorem Dn:(M6 p b many wide h l).lookup ("wide":Str)=ρ (.int wide):=dH (fs:=Qt p b many) (by show ("wide":Str)∉[("scheme":Str),"band","many"];decide+kernel)
theorem Bh:(M6 p b many wide h l).lookup ("lines":Str)=ρ (.ref l):=dH (fs:=Qv p b many wide h) (by show ("lines":Str)∉[("scheme":Str),"band","many","wide","homes"];decide+kernel)
theorem A0:(M6 p b many wide h l).lookup ("behind":Str)=τ:=pU (by show ("behind":Str)∉[("scheme":Str),"band","many","wide","homes","lines"];decide+kernel)
end
section
variable{ls:List Str}
noncomputable def cF(f:Str->Int)(ls:List Str):List (Str×Int):=ls.map λp=>(p,f p)
theorem rZ(f:Str->Int)(ls:List Str):(cF f ls).map (·.1)=ls:=by
 delta cF;rw[Î];exact List.map_id _
theorem kG(f:Str->Int)(ls:List Str):OM (cF f ls) ls f:=λp a=>yI a
theorem NP{f h:Str->Int}:UU (bK (cF f ls)) (bK (cF h ls))=true↔∀p∈ls,f p=h p:=by
 delta UU;rw[jL,jL];have e:(cF f ls).9=(cF h ls).9:=by delta cF;rw[À,À]
 rw[e,beq_self_eq_true,wey];delta hitsD;rw[õ];constructor
 .intro q p a;have:=q ((Å p:Key),.int (f p)) (Æ.mpr {(p,f p),Æ.mpr ⟨p,a,rfl⟩,rfl});have this:(match bD (bK (cF h ls)) (Å p:Key) with |some y=>rG (.int (f p)) y |none=>false)=true:=this;rw[eZ,kG h ls p a]at this;have this:rG (.int (f p)) (.int (h p))=true:=this;unfold rG at this;simpa using this
 .intro q d b
  let{z,c,rfl}:=Æ.mp b
  let{p,a,rfl}:=Æ.mp c
  show (match bD (bK (cF h ls)) (Å p:Key) with |some y=>rG (.int (f p)) y |none=>false)=true;rw[eZ,kG h ls p a];show rG (.int (f p)) (.int (h p))=true;rw[q p a];unfold rG;simp
end
theorem Dp(f:Str->Int)(ls:List Str):(bK (cF f ls)).map (·.2)=(ls.map f).map V.int:=by
 delta bK cF;rw[Î,Î,Î];rfl
end _B
open _B
namespace _S
theorem Sg:ð "all"=ρ (.builtin "all"):=∅
theorem Sh:ð "any"=ρ (.builtin "any"):=∅
theorem M7:ð "sorted"=ρ (.builtin "sorted"):=∅
theorem i5:ð "isinstance"=ρ (.builtin "isinstance"):=∅
theorem M8:ð "str"=ρ (.type "str"):=∅
theorem iz:ð "list"=ρ (.type "list"):=∅
theorem Vt:ð "set"=ρ (.type "set"):=∅
noncomputable def Si(ls:List V):V->V:=λv=>.bl (pO v ls)
noncomputable def Bi(g:Str)(b d q:Addr):List (Str×V):=[("signs",.str g),("barred",.ref b),("moves",.ref d),("lasting",.ref q)]
noncomputable def U6(g:Str):List (Str×V):=[("signs",.str g)]
noncomputable def Qw(g:Str)(b:Addr):List (Str×V):=[("signs",.str g),("barred",.ref b)]
noncomputable def OU(g:Str)(b d:Addr):List (Str×V):=[("signs",.str g),("barred",.ref b),("moves",.ref d)]
theorem OV(g:Str):cT "signs" (.str g) []=U6 g:=rfl
theorem put2(g:Str)(b:Addr):cT "barred" (.ref b) (U6 g)=Qw g b:=by
 show (if ("signs":Str)="barred" then(("signs":Str),V.ref b)::[] else(("signs":Str),V.str g)::cT "barred" (.ref b) [])=_;rw[if_neg ∅];rfl
theorem put3(g:Str)(b d:Addr):cT "moves" (.ref d) (Qw g b)=OU g b d:=by
 show (if ("signs":Str)="moves" then(("signs":Str),V.ref d)::[(("barred":Str),V.ref b)] else(("signs":Str),V.str g)::(if ("barred":Str)="moves" then(("barred":Str),V.ref d)::[] else(("barred":Str),V.ref b)::cT "moves" (.ref d) []))=_;rw[if_neg ∅,if_neg ∅];rfl
theorem FU(g:Str)(b d q:Addr):cT "lasting" (.ref q) (OU g b d)=Bi g b d q:=by
 show (if ("signs":Str)="lasting" then(("signs":Str),V.ref q)::[(("barred":Str),V.ref b),(("moves":Str),V.ref d)] else(("signs":Str),V.str g)::(if ("barred":Str)="lasting" then(("barred":Str),V.ref q)::[(("moves":Str),V.ref d)] else(("barred":Str),V.ref b)::(if ("moves":Str)="lasting" then(("moves":Str),V.ref q)::[] else(("moves":Str),V.ref d)::cT "lasting" (.ref q) [])))=_;rw[if_neg ∅,if_neg ∅,if_neg ∅];rfl
theorem mD(g:Str)(b d:Addr):(OU g b d).lookup ("moves":Str)=ρ (.ref d):=by
 rw[<-put3,aG,if_pos rfl]
theorem kH(g:Str)(b d q:Addr):(Bi g b d q).lookup ("moves":Str)=ρ (.ref d):=by
 rw[<-FU,aG,if_neg ∅];exact mD g b d
theorem yQ(g:Str)(b d q:Addr):(Bi g b d q).lookup ("lasting":Str)=ρ (.ref q):=by
 rw[<-FU,aG,if_pos rfl]
theorem HD(g:Str)(b d q:Addr){m:Str}(j:¬m="signs")(l:¬m="barred")(p:¬m="moves")(r:¬m="lasting"):(Bi g b d q).lookup m=τ:=by
 rw[<-FU,aG,if_neg r,<-put3,aG,if_neg p,<-put2,aG,if_neg l,<-OV,aG,if_neg j];rfl
structure Raw(K:Á)(nm qual:Str)(st:Stmt)(f:Addr):Prop where
 ex:∃(oc:Value) (od:Option Addr) (kV doc pm:Value) (an:Option Addr) (hU ct:Value) (HS:Array (Option Value)),
  K.lookup f=ρ {oc,od,.func (Ņ nm qual (dP st) (cn st) (aL st) .none kV doc pm an hU ct),HS}/\wek K hU qual=true
 kp:ź K (.ref f)=true
theorem Dq{K:Á}{nm g:Str}{st:Stmt}{f:Addr}{t:Value}{od C:Option Addr}{p:Array (Option Value)}{kV r pm j ct:Value}(l:K.lookup f=ρ {t,od,.func (Ņ nm g (dP st) (cn st) (aL st) .none kV r pm C j ct),p})
 (c:wek K j g=true) (k:ź K (.ref f)=true):Raw K nm g st f:={⟨t,od,kV,r,pm,C,j,ct,p,l,c⟩,k}
theorem Raw.fn(R:Raw K nm g st f)
 (h:∀(kV j pm:Value) (r:Option Addr) (p ct:Value) (us:List Value),us.9=ps.9->bindArgs (Ņ nm g (dP st) (cn st) (aL st) .none kV j pm r p ct) {us,[]}=pure (ps.zip us)) :
 ∃fd,zy K nm g st f fd/\Binds K fd ps []:=by
 let{{b,d,kV,j,pm,r,p,ct,a,l,c},k}:=R
 have F:=Iz (st:=st) l c k;exact{_,F,F.binds h}
theorem Raw.at_{mg:Str->Option Value}(X:K.In l)(G:l.Ns ó mg)(a:PySem.W.nsIn K ó nm=ρ (ρ (.ref f)))(R:Raw K nm nm st f)
 (h:∀(kV g pm:Value) (p:Option Addr) (j ct:Value) (us:List Value),us.9=ps.9->bindArgs (Ņ nm nm (dP st) (cn st) (aL st) .none kV g pm p j ct) {us,[]}=pure (ps.zip us)) :
 ∃fd,FnAt K mg nm st ps f fd:=by
 let{fd,F,b}:=R.fn h
 exact{fd,F,b,PySem.W.mg_of X G a}
theorem i6{ss:List Str}{i:Nat}{y:V}(h:(ss.map V.str)[i]?=ρ y):∃p,ss[i]?=ρ p/\y=.str p/\i<ss.9/\p∈ss/\ss.take (i+1)=ss.take i++[p]:=by
 rw[Ç]at h
 cases e:ss[i]? with
 |none=>rw[e]at h;cases h
 |some z=>
  rw[e]at h;exact{z,rfl,(Ò h).symm,(Ñ.mp e).1,Ð e,by rw[ý,e];rfl}
inductive EW(K:Á)(vs:List V)(H:Hp)(Q:VK)(eF:XK):Prop
 |mk (a:Addr) (ns:List Int) (_:vs=[.ref a]) (_:aO K H a (ns.map V.int)) (_:ns.9<=63) (_:∀H',Q (.bl true) H')
noncomputable def one(c:Nat):Str:={#[c]}
theorem fP(nx:g x=τ)(j:g l=τ):a8 g (upd (upd g l p) x o2):=λb o e=>by rw[ae (af e nx),ae (af e j)];exact e
theorem bVE:ð "ValueError"=ρ (.type "ValueError"):=∅
theorem Vu:ð "int"=ρ (.type "int"):=∅
theorem Sj:ð "dict"=ρ (.type "dict"):=∅
theorem J7:ð "bool"=ρ (.type "bool"):=∅
theorem FV:ð "sum"=ρ (.builtin "sum"):=∅
theorem M9:ð "min"=ρ (.builtin "min"):=∅
theorem yR:ð "max"=ρ (.builtin "max"):=∅
theorem A2:ð "range"=ρ (.type "range"):=∅
set_option genInjectivity true in
inductive Thing(H:Hp):V->Prop where
 |flat {v:V} (h:eh v=true):Thing H v
 |lst {a:Addr} {xs:List V} (h:H a=ρ (.lst xs)) (f:xs.all eh=true):Thing H (.ref a)
 |tup {a:Addr} {xs:List V} (h:H a=ρ (.tup xs)) (f:xs.all eh=true):Thing H (.ref a)
 |dic {a:Addr} (h:H a=ρ (.dK [])):Thing H (.ref a)
theorem iP(he:H e=τ)(hd:(upd H e g) d=τ):d≠e/\H d=τ/\del (upd (upd (upd H e g) d o2) e o3) e=upd H d o2:=by
 have a:d≠e:=λz=>by rw[z,a6]at hd;cases hd
 refine{a,by rw[ae a]at hd;exact hd,?_};rw[zA,Cu a,En he]
theorem kJ(g:Str)(b d q:Addr):(Bi g b d q).lookup ("signs":Str)=ρ (.str g):=by
 rw[<-FU,aG,if_neg ∅,<-put3,aG,if_neg ∅,<-put2,aG,if_neg ∅,<-OV,aG,if_pos rfl]
def J8(CN:Addr)(nm:Str)(v:V)(H:Hp)(E:XK):Prop:=∀(d:Addr) (H':Hp),a8 H H'->H d=τ->H' d=ρ (.xd [(nm,v)])->E (.ref CN) (ρ d) H'
theorem none_of(s:a8 H g)(h:g d=τ):H d=τ:=by
 cases q:H d with
 |none=>rfl
 |some o=>rw[s _ _ q]at h;cases h
def NQ(v:V):Prop:=∃i:Int,v=.int i/\i.natAbs<=1000
theorem t9(g:Str)(b d q:Addr):(Bi g b d q).lookup ("barred":Str)=ρ (.ref b):=by
 rw[<-FU,aG,if_neg ∅,<-put3,aG,if_neg ∅,<-put2,aG,if_pos rfl]
structure gO(m:Nat)(many wide:Int):Prop where
 a:2<=many
 b:many<=8
 c:1<=wide
 d:wide<=6
 e:(m:Int)^wide.toNat<=64
inductive Sl(K:Á)(vs:List V)(H:Hp)(Q:VK)(eF:XK):Prop
 |mk (a:Addr) (ns:List Int) (p:Int) (_:vs=[.ref a,.int p]) (_:aO K H a (ns.map V.int)) (_:∀(c:Int) (H':Hp),a8 H H'->Q (.int c) H')
inductive J9(K:Á)(vs:List V)(H:Hp)(Q:VK)(eF:XK):Prop
 |mk (l d es m f) (_:vs=[.ref l,.ref d]) (_:aO K H l (es.map V.str)) (_:es.9<=1000) (_:Rd H d (.dK (bK m))) (_:OM m es f) (_:∀H',a8 H H'->Q (.int ((es.map f).sum)) H')
inductive Ja(vs:List V)(H:Hp)(Q:VK)(eF:XK):Prop
 |mk (c:Int) (m:Nat) (_:vs=[.int c,.int (m:Int)]) (_:m<=1000) (_:∀(l:Addr) (xs:List Int) (H':Hp),a8 H H'->H l=τ->H' l=ρ (.lst (xs.map V.int))->xs.9=m->Q (.ref l) H')
inductive Ma(K:Á)(vs:List V)(H:Hp)(Q:VK)(eF:XK):Prop
 |mk (a:Addr) (ns:List Int) (g:Str) (_:vs=[.ref a,.str g]) (_:aO K H a (ns.map V.int)) (_:2<=g.9) (_:g.9<=4) (_:∀(p:Addr) (many wide:Int) (H':Hp),a8 H H'->H p=τ->H' p=ρ (.tup [.int many,.int wide])->gO g.length many wide->Q (.ref p) H')
inductive Jb(vs:List V)(H:Hp)(Q:VK)(eF:XK):Prop
 |mk (v) (_:vs=[v]) (_:Thing H v) (_:Q (.bl (IV v)) H)
inductive Mb(K:Á)(vs:List V)(H:Hp)(Q:VK)(eF:XK):Prop
 |mk (i a xs) (_:vs=[.int i,.ref a]) (_:aO K H a xs) (_:Q (.bl (fB i xs.9)) H)
theorem noFn{g:Str}{b d q:Addr}{m:Str}(j:¬m="signs":=by decide+kernel)(l:¬m="barred":=by decide+kernel)(p:¬m="moves":=by decide+kernel)(r:¬m="lasting":=by decide+kernel):(Bi g b d q).lookup m=τ:=HD g b d q j l p r
theorem dk{H:Hp}{a:Addr}{o:HO}(h:H a=τ):a8 H (upd H a o)/\(upd H a o) a=ρ o:={a8.upd h,a6}
def NR(v:V):Prop:=∃i:Int,v=.int i/\i.natAbs.log2<1920
structure Jc(bw:List Str)(M:Int):Prop where
 u:∀w∈bw,(w.9:Int)<=M
 a:M=0/\bw=[]\/∃w∈bw,(w.9:Int)=M
structure lF(bw:List Str)(n:Nat)(b:Nat):Prop where
 le:b<=1000
 is:∃M:Int,Jc bw M/\(b:Int)=((if 0>M-1 then 0 else M-1)+(n:Int)-1)/(n:Int)
def OW(H:Hp)(many:Int)(v:V):Prop:=Thing H v/\(IV v=false\/∃i:Int,v=.int i/\(i<0\/many<=i))
theorem gP{x a:Addr}{n:Str}(h:n∉[("writer":Str),"pairs"]:=by decide+kernel):(Fz x a).lookup n=τ:=pU h
section
variable{K:Á}
inductive OX(K:Á)(vs:List V)(H:Hp)(Q:VK)(eF:XK):Prop
 |mk (r a ps) (_:vs=[.str r,.ref a]) (_:aO K H a (ps.map V.str)) (_:("":Str)∈ps) (_:r.9<=1000) (_:∀H',a8 H H'->Q (.str (lend ps r)) H')
inductive Md(K:Á)(vs:List V)(H:Hp)(Q:VK)(eF:XK):Prop
 |mk (a b es ls) (_:vs=[.ref a,.ref b]) (_:aO K H a es) (_:aO K H b ls) (_:es.all eh=true) (_:ls.all eh=true) (_:es.9<=1000) (_:∀H',a8 H H'->Q (.bl (es.any λe=>pO e ls)) H')
inductive OY(K:Á)(vs:List V)(H:Hp)(Q:VK)(eF:XK):Prop
 |mk (d mv es) (_:vs=[.ref d]) (_:H d=ρ (.dK (cN mv))) (_:mv.9<=1000) (_:(∀m∈mv,H m.2=ρ (.dK (es m.1)))) (_:(∀k,((es k).map (·.2)).all eh=true)) (_:(∀k,(es k).9<=1000)) (_:∀(l:Addr) (ls:List Str) (H':Hp),a8 H H'->H l=τ->H' l=ρ (.lst (ls.map V.str))->RE (mv.map (·.1)) es ls->Q (.ref l) H')
end
end _S
open _S
namespace _B
open PySem.Spec PyProof.Rows
noncomputable abbrev ch(x:Str):List Nat:=x.cps.toList
theorem aP(x:Str):(ch x).9=x.9:=by simp[ch,Ű]
theorem dA(h:ch x=ch y):x=y:=by
 obtain⟨a⟩:=x;obtain⟨b⟩:=y;have:a=b:=weC.mp h;rw[this]
theorem aV(a b:Str):ch (a++b)=ch a++ch b:=by
 show (a++b).cps.toList=_;rw[Str.cps_append,Array.toList_append]
theorem Dr(c:Nat):ch {#[c]}=[c]:=rfl
theorem se(h:z.9=0):ch z=[]:=by
 have:=aP z;rw[h]at this;exact wen.mp this
theorem mE(x:Str)(l u:Option Int):î x l u=StrLaws.sliceText x l u:=rfl
theorem Bj(x:Str)(j:Nat):ch (î x τ (ρ (j:Int)))=(ch x).take j:=by
 by_cases h:j<=x.9
 .grind [mE,wgW,Ű]
 .have hn:Ω τ (ρ (j:Int)) 1 x.9=Ω τ (ρ ((x.9:Nat):Int)) 1 x.9:=by
   grind [Ω]
  have e:î x τ (ρ (j:Int))=î x τ (ρ ((x.9:Nat):Int)):=by
   grind [î]
  rw[e,mE,wgW {(),by simp[Ű]}];have a:(ch x).9<=j:=by rw[aP];lia
  rw[ŉ a];have b:x.cps.toList.take x.cps.size=x.cps.toList:=ŉ (by simp);simp[Ű,b]
theorem p5(x:Str)(i:Nat):ch (î x (ρ (i:Int)) τ)=(ch x).drop i:=by
 by_cases h:i<=x.9
 .rw[mE,wgv {(),by simp[Ű]at h ⊢;lia}];show ((x.cps.toList.drop (i:Int).toNat).take ((x.cps.toList.9:Int)-(i:Int)).toNat).toArray.toList=(ch x).drop i;rw[List.toList_toArray,ç,ŉ];rw[ē]
  lia
 .have hn:Ω (ρ (i:Int)) τ 1 x.9=Ω (ρ ((x.9:Nat):Int)) τ 1 x.9:=by
   have a:¬((i:Int)<0):=();have b:¬(((x.9:Nat):Int)<0):=();have c:max (0:Int) (min (i:Int) (x.9:Int))=max 0 (min ((x.9:Nat):Int) (x.9:Int)):=();simp[Ω,a,b,c]
  have e:î x (ρ (i:Int)) τ=î x (ρ ((x.9:Nat):Int)) τ:=by
   unfold î;rw[hn]
  rw[e,mE,wgv {(),by simp[Ű]}];have d:(ch x).9<=i:=by rw[aP];lia
  rw[wev d];simp[Ű]
theorem sf(g:z.9=0):∀ts:List Str,ch (Ő z ts)=(ts.map ch).flatten:=by
 intro ts;unfold Ő Builtin.Str.glued
 have b:z.cps=#[]:=by
  have:=se g;exact weC.mp this
 have key:∀(l:List Str) (a:Array Nat),(l.foldl (λa p=>a++z.cps++p.cps) a).toList=a.toList++(l.map ch).flatten:=by
  intro l
  induction l with
  |nil=>intro a;simp
  |cons p l c=>
   intro a;rw[Ů,c,b];simp
 cases ts with
 |nil=>rfl
 |cons p l=>
  show ((List.drop 1 (p::l)).foldl (λa q=>a++z.cps++q.cps) p.cps).toList=_;rw[List.drop_one,List.tail_cons,key];rfl
noncomputable def fQ:Str:="abcdefghijklmnopqrstuvwxyz0123456789"
structure yS(x:Str):Prop where
 lo:2<=x.9
 hi:x.9<=4
 nd:(ch x).Nodup
 sub:∀c∈ch x,c∈ch fQ
structure Vv(i:Nat)(Mf found:Str):Prop where
 pl:Mf.length+i=36
 fl:found.9=i
 pn:(ch Mf).Nodup
 fn:(ch found).Nodup
 ps:∀c∈ch Mf,c∈ch fQ
 fs:∀c∈ch found,c∈ch fQ
 ap:∀c∈ch found,c∉ch Mf
theorem Bk:fQ.9=36:=∅
structure A3(sg w:Str):Prop where
 lo:1<=w.9
 hi:w.9<=5
 sub:∀c∈ch w,c∈ch sg
theorem FW(j:z.9=0)(p:1<=ts.9)(r:ts.9<=5)(h:∀t∈ts,∃c,t={#[c]}/\c∈ch g):A3 g (Ő z ts):=by
 have e:=sf j ts
 have hl:∀(l:List Str),(∀t∈l,∃c,t={#[c]}/\c∈ch g)->((l.map ch).flatten).9=l.9/\∀c∈(l.map ch).flatten,c∈ch g:=by
  intro l
  induction l with
  |nil=>intro _;exact{rfl,λc h=>by cases h}
  |cons t l b=>
   intro a
   let{c,rfl,hc}:=a t (Ø ..)
   let{d,f}:=b λt h=>a t (Ô _ h)
   refine{by rw[Ó,ŗ,É,d,ê];exact wht 1 _,λk hk=>?_};rw[Ó,ŗ]at hk;rcases ä.mp hk with h |h
   .have:k=c:=by simpa [ch] using h
    subst this;exact hc
   .exact f k h
 let{l1,i}:=hl ts h
 have m:(Ő z ts).9=ts.9:=by rw[<-aP,e,l1]
 exact{(),(),λc hc=>i c (e ▸ hc)}
noncomputable def NS(y x:Str):Bool:=!(wem x y 0 x.length 1).isEmpty
theorem EX(x:Str)(c:Nat):NS {#[c]} x=decide (c∈ch x):=StrLaws.found_one x c
noncomputable def bears(ws:List Str)(r:Str):Bool:=ws.any λw=>NS w r
noncomputable def bT(w:Str)(n:Nat):Str:=î w τ (ρ (n:Int))
theorem FX(w:Str)(n:Nat):(bT w n).9<=w.9:=weX _ _ _
noncomputable def A4(ks:List Str)(b:Str):List Str:=if b∈ks then ks else ks++[b]
noncomputable def si(ws:List Str)(ks:List Str)(b:Str):List Str:=if bears ws b=true then ks else A4 ks b
theorem Jd(ws g:List Str)(b:Str):(si ws g b).9<=g.9+1:=by
 unfold si A4;split
 .lia
 .split
  .lia
  .simp
noncomputable def upTo(ws:List Str)(w:Str)(ks:List Str)(n:Nat):List Str:=((Ö n).map λi=>bT w (1+i)).foldl (si ws) ks
theorem gQ(ws:List Str)(w:Str)(g:List Str)(n:Nat):upTo ws w g (n+1)=si ws (upTo ws w g n) (bT w (1+n)):=by
 delta upTo;rw[Δ,Ü,weo];rfl
theorem wg(ws:List Str)(w:Str)(g:List Str):∀n,(upTo ws w g n).9<=g.9+n
 |0=>Ä _
 |n+1=>by
  rw[gQ];have:=wg ws w g n;have:=Jd ws (upTo ws w g n) (bT w (1+n))
  lia
noncomputable def addW(ws:List Str)(ks:List Str)(w:Str):List Str:=upTo ws w ks (w.9-1)
noncomputable def bU(ws:List Str)(e:Str)(us:List Str):List Str:=us.foldl (addW ws) [e]
theorem Ds(ws:List Str)(e:Str)(us:List Str)(w:Str):bU ws e (us++[w])=addW ws (bU ws e us) w:=by
 delta bU;rw[weo];rfl
theorem nP(h:∀w∈us,w.9<=5):(bU ws e us).9<=1+4*us.9:=by
 have key:∀(us a:List Str),(∀w∈us,w.9<=5)->(us.foldl (addW ws) a).9<=a.9+4*us.9:=by
  intro us
  induction us with
  |nil=>intro a _;exact Ä _
  |cons w us b=>
   intro a h;have c:=b (addW ws a w) λv d=>h v (Ô _ d);have f:=h w (Ø ..);have g:=wg ws w a (w.9-1);rw[Ů,ê];unfold addW at c;unfold addW;omega
 exact key us [e] h
theorem Dt(h:g.Nodup):(A4 g b).Nodup:=by
 unfold A4;split
 .exact h
 .rename_i d;refine wfz.mpr {h,by simp,λa ha c hc=>?_};have:c=b:=by simpa using hc
  subst this;rintro rfl;exact d ha
theorem Du(h:g.Nodup):(si ws g b).Nodup:=by
 unfold si;split
 .exact h
 .exact Dt h
theorem wh(h:g.Nodup):∀n,(upTo ws w g n).Nodup
 |0=>h
 |n+1=>by rw[gQ];exact Du (wh h n)
theorem tf(us:List Str):(bU ws e us).Nodup:=by
 have key:∀(us a:List Str),a.Nodup->(us.foldl (addW ws) a).Nodup:=by
  intro us
  induction us with
  |nil=>intro a h;exact h
  |cons w us b=>intro a h;exact b _ (wh h _)
 exact key us [e] (by simp)
theorem Je(h:k∈g):k∈si ws g b:=by
 unfold si A4;split
 .exact h
 .split
  .exact h
  .exact ď _ h
theorem mem_upTo(h:k∈g):∀n,k∈upTo ws w g n
 |0=>h
 |n+1=>by rw[gQ];exact Je (mem_upTo h n)
theorem cx(us:List Str):e∈bU ws e us:=by
 have key:∀(us a:List Str),e∈a->e∈us.foldl (addW ws) a:=by
  intro us
  induction us with
  |nil=>intro a h;exact h
  |cons w us b=>intro a h;exact b _ (mem_upTo h _)
 exact key us [e] (by simp)
end _B
namespace _B
theorem sj(r:Str):cm r r.9="":=by
 refine dA ?_;show ch (î r (ρ (r.9:Int)) τ)=[];rw[p5];exact wev (Ν (aP r))
theorem yT(x y:Str)(i:Nat):whL x y i=true↔((ch x).drop i).take y.9=ch y:=by
 unfold whL;rw[beq_iff_eq];constructor
 .intro h;have:=congrArg Array.toList h;rw[wgX,wfG,wcQ]at this;exact this
 .intro h;refine weC.mp ?_;rw[wgX,wfG,wcQ];exact h
theorem Mg(y x:Str):NS y x=true↔ch y <:+: ch x:=by
 unfold NS;rw[StrLaws.found_iff];constructor
 .grind [yT,wfU,List.drop_suffix]
 .rintro⟨a,b,e⟩;refine{a.9,?_,(yT x y _).mpr ?_}
  .rw[<-aP x,<-e,É,É,aP];lia
  .rw[<-e,ø,wgG,<-aP y,wgH]
noncomputable def wl(ws:List Str):List (List Nat):=ws.map ch
theorem f5(w:Str)(n:Nat):ch (bT w n)=(ch w).take n:=Bj w n
theorem hH(w:Str)(n:Nat):ch (cm w n)=(ch w).drop n:=p5 w n
theorem A5:k∈si ws g b↔k∈g\/(k=b/\bears ws b=false):=by
 unfold si A4
 by_cases a:bears ws b=true
 .rw[if_pos a];simp[a]
 .rw[if_neg a];have c:bears ws b=false:=by simpa using a
  by_cases d:b∈g
  .rw[if_pos d];constructor
   .exact .inl
   .rintro(h |⟨rfl,_⟩)
    .exact h
    .exact d
  .rw[if_neg d];simp[c]
theorem pW:∀n,k∈upTo ws w g n↔k∈g\/∃i,i<n/\k=bT w (1+i)/\bears ws k=false
 |0=>by
  show k∈g↔_;simp
 |n+1=>by
  rw[gQ,A5,pW n];constructor
  .grind
  .grind
theorem jA(us:List Str):k∈bU ws e us↔k=e\/∃w∈us,∃i,i<w.9-1/\k=bT w (1+i)/\bears ws k=false:=by
 have key:∀(us b:List Str),k∈us.foldl (addW ws) b↔k∈b\/∃w∈us,∃i,i<w.9-1/\k=bT w (1+i)/\bears ws k=false:=by
  intro us
  induction us with
  |nil=>intro b;simp
  |cons w us d=>
   intro b;rw[Ů,d];unfold addW;rw[pW];constructor
   .rintro((h |⟨i,h⟩) |⟨c,a,h⟩)
    .exact .inl h
    .exact .inr {w,Ø ..,i,h}
    .exact .inr {c,Ô _ a,h}
   .rintro(h |⟨c,a,h⟩)
    .exact .inl (.inl h)
    .rcases à.mp a with rfl |a
     .exact .inl (.inr h)
     .exact .inr ⟨c,a,h⟩
 delta bU;rw[key];simp
noncomputable def Sn(ss:List Str)(l:List Nat):Bool:=decide (l∈ss.map ch)
theorem kK:Sn ss (ch k)=true↔k∈ss:=by
 delta Sn;rw[decide_eq_true_iff];constructor
 .intro h
  let{c,a,b}:=Æ.mp h
  rw[<-dA b];exact a
 .intro h;exact Æ.mpr ⟨k,h,rfl⟩
theorem take_snoc(h:(ch r)[i]?=ρ c):bT r (i+1)=bT r i++{#[c]}:=by
 refine dA ?_;rw[aV,f5,f5,ý,h];rfl
theorem take_zero(r:Str):bT r 0="":=dA (by rw[f5];rfl)
theorem take_all(r:Str):bT r r.9=r:=dA (by rw[f5,<-aP,ë])
theorem Bl(r:Str)(n:Nat):ch (bT r n) <:+: ch r:=by rw[f5];exact(wfU _ _).isInfix
theorem len_app(a b:Str):(a++b).9=a.9+b.9:=by rw[<-aP,aV,É,aP,aP]
structure Out(g r:Str)(i:Nat):Prop where
 at_:∃c,(ch r)[i]?=ρ c/\c∉ch g
 lo:∀j c,j<i->(ch r)[j]?=ρ c->c∈ch g
def Ins(g r:Str):Prop:=∀c∈ch r,c∈ch g
theorem Out.lt(o:Out g r i):i<r.9:=by
 let{c,h,_}:=o.at_
 rw[<-aP];exact(Ñ.mp h).1
theorem Out.one(o:Out g r i)(p:Out g r j):i=j:=by
 rcases wer i j with h |h |h
 .let{c,hc,hn}:=o.at_
  exact absurd (p.lo i c h hc) hn
 .exact h
 .let{c,hc,hn}:=p.at_
  exact absurd (o.lo j c h hc) hn
theorem Out.no(o:Out g r i)(h:Ins g r):False:=by
 let{c,hc,hn}:=o.at_
 exact hn (h c (Ð hc))
theorem Dv(r:Str)(c i:Nat):ch (bT r i++{#[c]}++cm r i)=(ch r).take i++c::(ch r).drop i:=by
 rw[aV,aV,f5,hH,Dr,ø,weI]
noncomputable def mF(st sp n:Nat):List Nat:=(Ö n).map λk=>(ch fQ).getD ((st+k*sp)%36) 0
noncomputable def Mh(st sp:Nat):V->V:=λv=>match v with
 |.int k=>.str {#[(ch fQ).getD ((st+k.toNat*sp)%36) 0]}
 |_=>.non
noncomputable def sq(g:Str)(ws ss:List Str)(q:Str×Str):List (Str×Str):=(ch g).filterMap λc=>if bears ws (q.2++{#[c]})=true then τ else ρ (q.1++{#[c]},lend ss (q.2++{#[c]}))
noncomputable def gi(g:Str)(ws ss:List Str)(qs:List (Str×Str)):List (Str×Str):=qs.flatMap (sq g ws ss)
noncomputable def wj(g:Str)(ws ss:List Str)(p:Str):Nat->List (Str×Str)
 |0=>[("",p)]
 |n+1=>gi g ws ss (wj g ws ss p n)
noncomputable def aX(g:Str)(ws ss ls:List Str)(n:Nat)(p:Str):List (Str×Str):=(wj g ws ss p n).filter λq=>decide (q.2∈ls)
theorem Dw(g:Str)(ws ss:List Str)(q:Str×Str):(sq g ws ss q).9<=g.9:=by
 unfold sq;have:=wef (λc=>if bears ws (q.2++{#[c]})=true then τ else ρ (q.1++({#[c]}:Str),lend ss (q.2++({#[c]}:Str)))) (ch g);rw[aP]at this;exact this
theorem tj(g:Str)(ws ss:List Str)(j:List (Str×Str)):(gi g ws ss j).9<=j.9*g.9:=vK _ _ _ λq _=>Dw g ws ss q
theorem pX(g:Str)(ws ss:List Str)(p:Str):∀n,(wj g ws ss p n).9<=g.length^n
 |0=>Ä 1
 |n+1=>Í (tj g ws ss _) (by rw[Nat.pow_succ];exact weZ _ (pX g ws ss p n))
theorem dW(h:r∈aX g ws ss ls n p):r.2∈ls:=of_decide_eq_true (ß.mp h).2
theorem gR(g:Str)(ws ss ls:List Str)(n:Nat)(p:Str):(aX g ws ss ls n p).9<=g.length^n:=Í (Ħ _ _) (pX g ws ss p n)
noncomputable def iA(g:Str)(ws ss ls:List Str)(n:Nat)(f:Str->Int)(p:Str):Int:=((aX g ws ss ls n p).map λq=>f q.2).sum
theorem kL(r:Str):r++("":Str)=r:=dA (by rw[aV,se (z:="") rfl,û])
theorem uP(r:Str):("":Str)++r=r:=dA (by rw[aV,se (z:="") rfl,wdY])
theorem f7(a b c:Str):a++b++c=a++(b++c):=dA (by rw[aV,aV,aV,aV,ø])
noncomputable def gT(g:Str)(ws ss ls:List Str)(n:Nat)(hs:List Str)(p:Str):List (Str×Nat):=((aX g ws ss ls n p).filter λq=>decide (q.2∈hs)).map λq=>(q.1,hs.idxOf q.2)
noncomputable def bF(g:Str)(ws ss ls:List Str)(n:Nat)(hs:List Str):List (List (Str×Nat)):=hs.map (gT g ws ss ls n hs)
theorem Dx(g:Str)(ws ss ls:List Str)(n:Nat)(hs:List Str)(p:Str):(gT g ws ss ls n hs p).9<=g.length^n:=by
 delta gT;rw[À];exact Í (Ħ _ _) (gR g ws ss ls n p)
noncomputable def kM(wl:List Int)(nums:List Nat)(j:Nat):Int:=((nums.take j).map λn=>wl.getD n 0).sum
theorem FY{wl:List Int}{g:List Nat}{j n:Nat}(h:g[j]?=ρ n):kM wl g (j+1)=kM wl g j+wl.getD n 0:=by
 delta kM;rw[ý,h,Ü,wij];show _+(wl.getD n 0+0)=_
 lia
theorem Jf(wl:List Int)(g:List Nat)(h:i<=j):(((g.take j).drop i).map λn=>wl.getD n 0).sum=kM wl g j-kM wl g i:=by grind [kM,ſ,wdZ]
theorem Jg{wl:List Int}{g:List Nat}{i j:Nat}{many:Int}(h:i<=j)(e:kM wl g i%many=kM wl g j%many):(((g.take j).drop i).map λn=>wl.getD n 0).sum%many=0:=by
 rw[Jf wl g h];exact Int.emod_eq_emod_iff_emod_sub_eq_zero.mp e.symm
structure fI(g:Str)(bw ss ls:List Str)(many:Int)(n:Nat)(f:Str->Int)(rB:List zX)(hs:List Str)(ws:List Int)(lns:List (List (Str×Nat))):Prop where
 rn:Runs many (av ls f) ((av ls f).map f) (bF g bw ss ls n (av ls f)) rB hs ws lns
 b:jc many hs ws lns
 cv:xO (aX g bw ss ls n) hs lns
 sm:ws.sum=(ls.map f).sum
 sl:rB.9+(av ls f).9=hs.9
 sb:∀p∈hs,p∈ls
theorem gj{a b:Str}{m n:Nat}(g:a.9<=m)(j:b.9<=n):(a++b).9<=m+n:=by
 rw[len_app];exact ĺ g j
theorem d9{wl:List (List (Str×Nat))}{d:Nat}(h:d<wl.9):wl[d]?=ρ (wl.getD d []):=by
 rw[Ë,Ã h];rfl
def Jh(bw ss hk:List Str)(wl:List (List (Str×Nat))):Prop:=∀d,d<wl.9->∀q∈wl.getD d [],bears bw (hk.getD d ""++q.1)=false/\lend ss (hk.getD d ""++q.1)=hk.getD q.2 ""
theorem nQ{wl:List (List (Str×Nat))}:∀(k:Nat) (ws:List Str) (d:Nat),jO wl d ws->jO wl d (ws.take k)
 |0,_,_,_=>trivial
 |_+1,[],_,_=>trivial
 |k+1,_::ws,_,⟨e,h,r⟩=>{e,h,nQ k ws e r}
theorem Ji:∀ws:List Str,ch (cat ws)=(ws.map ch).flatten
 |[]=>rfl
 |w::ws=>by
  show ch (w++cat ws)=_;rw[aV,Ji ws,Ó,ŗ]
theorem fD{n:Nat}:∀{ws:List Str},(∀w∈ws,w.9=n)->(cat ws).9=n*ws.9
 |[],_=>rfl
 |w::ws,h=>by
  show (w++cat ws).9=_;rw[len_app,fD λx a=>h x (Ô _ a),h w (Ø ..),ê,ĩ,whV,wht]
theorem pY:∀a b:List Str,cat (a++b)=cat a++cat b
 |[],b=>(uP _).symm
 |w::a,b=>by
  show w++cat (a++b)=w++cat a++cat b;rw[pY a b,f7]
theorem Bm{n:Nat}{ws:List Str}(h:∀w∈ws,w.9=n)(i:Nat):(ch (cat ws)).drop (n*i)=ch (cat (ws.drop i)):=by
 by_cases c:i<=ws.9
 .have e:ch (cat ws)=ch (cat (ws.take i))++ch (cat (ws.drop i)):=by rw[<-aV,<-pY,ſ]
  have hl:(ch (cat (ws.take i))).9=n*i:=by rw[aP,fD λw hw=>h w (ő hw),Ú,wdZ c]
  rw[e,wcP (),<-hl,wi7,wdY]
 .rw[Ş (show ws.9<=i by lia),Ş]
  .rfl
  .rw[aP,fD h];exact Ũ _ ()
theorem Bn{n:Nat}{ws:List Str}(h:∀w∈ws,w.9=n)(i:Nat):(ch (cat ws)).take (n*i)=ch (cat (ws.take i)):=by
 by_cases c:i<=ws.9
 .have e:ch (cat ws)=ch (cat (ws.take i))++ch (cat (ws.drop i)):=by rw[<-aV,<-pY,ſ]
  have hl:(ch (cat (ws.take i))).9=n*i:=by rw[aP,fD λw hw=>h w (ő hw),Ú,wdZ c]
  rw[e,List.take_append_of_le_length 1.0,<-hl,ë]
 .rw[ŉ (show ws.9<=i by omega),ŉ];rw[aP,fD h];exact Ũ _ 1.0
theorem EY(w:Str):cat [w]=w:=kL w
noncomputable def gk(wl:List (List (Str×Nat)))(d t:Nat):Str×Nat:=(wl.getD d []).getD t ("",0)
noncomputable def eS(wl:List (List (Str×Nat))):Nat->List Nat->List Str
 |_,[]=>[]
 |d,t::ts=>(gk wl d t).1::eS wl (gk wl d t).2 ts
noncomputable def pZ(wl:List (List (Str×Nat))):Nat->List Nat->Nat
 |d,[]=>d
 |d,t::ts=>pZ wl (gk wl d t).2 ts
theorem jQ(wl:List (List (Str×Nat))):∀(ts:List Nat) (d:Nat),(eS wl d ts).9=ts.9
 |[],_=>rfl
 |_::ts,_=>congrArg (· + 1) (jQ wl ts _)
theorem jR(wl:List (List (Str×Nat)))(b:List Nat):∀(a:List Nat) (d:Nat),eS wl d (a++b)=eS wl d a++eS wl (pZ wl d a) b/\pZ wl d (a++b)=pZ wl (pZ wl d a) b
 |[],_=>⟨rfl,rfl⟩
 |_::a,_=>{congrArg (_ :: ·) (jR wl b a _).1,(jR wl b a _).2}
def lG(ss hk:List Str)(wl:List (List (Str×Nat)))(p w:Str)(as:List Str)(i:Nat):Prop:=∃d e,d<wl.9/\hk.getD d ""=lend ss p/\(wl.getD d [])[i]?=ρ (w,e)/\jO wl e as
structure Wr where
 g:Str
 bw:List Str
 ss:List Str
 ls:List Str
 hk:List Str
 many:Int
 n:Nat
 b:Nat
 c:Nat
 wl:List (List (Str×Nat))
structure iC(H:Hp)(a:Addr)(wl:List (List (Str×Nat))):Prop where
 ex:∃kvs:List (Key×V),H a=ρ (.dK kvs)/\∀w:Str,(bD kvs (Å w:Key)=τ/\∀(i e:Nat),(w,e)∉wl.getD i [])\/∃(l:Addr) (rs:List Addr) (ps:List (Nat×Nat)),bD kvs (Å w:Key)=ρ (.ref l)/\H l=ρ (.lst (rs.map V.ref))/\b8 H rs (ps.map jP)/\ps.9<=1000/\∀i e:Nat,(i,e)∈ps↔(w,e)∈wl.getD i []
noncomputable def dX(wl:List (List (Str×Nat)))(k:Nat):List xP:=(Ö k).flatMap λd=>(wl.getD d []).map λq=>(d,q.1,q.2)
theorem wm(wl:List (List (Str×Nat)))(k:Nat):dX wl (k+1)=dX wl k++(wl.getD k []).map λq=>(k,q.1,q.2):=by
 delta dX;rw[Δ,wf7];simp
open Classical in
noncomputable def Vw(R:Wr)(bs:List Str)(w:Str)(us:List Str):V:=if bears R.bw (cat bs)=true then .non else if h:∃i,lG R.ss R.hk R.wl (cat bs) w us i then .int ((wi8 h:Nat):Int) else .non
noncomputable def OZ(R:Wr)(all:List Str)(k:Nat):List Str:=(all.take (k+(R.b+1+R.c))).drop k
noncomputable def zap(R:Wr)(all:List Str)(k:Nat):V:=Vw R ((OZ R all k).take R.b) ((OZ R all k).getD R.b "") ((OZ R all k).drop (R.b+1))
def q0(R:Wr)(l:Int):Prop:=(l-((R.n*R.b:Nat):Int))%(R.n:Int)≠0\/(l-((R.n*R.b:Nat):Int))/(R.n:Int)-(R.c:Int)<0
theorem q0.not{R:Wr}{m:Nat}(n1:1<=R.n):¬q0 R ((R.n*(R.b+m+R.c):Nat):Int):=by
 have e:((R.n*(R.b+m+R.c):Nat):Int)-((R.n*R.b:Nat):Int)=(R.n:Int)*((m:Int)+(R.c:Int)):=by
  rw[wh9,ĩ,<-Ō,<-ą]
  lia
 delta q0;rw[e,Int.mul_emod_right,wfV _ (show (R.n:Int)≠0 by lia)]
 lia
theorem Jj(z:Str):∀(n:Nat) (a:Array Nat),((Ý n z.cps).foldl (·++·) a).toList=a.toList++(Ý n (ch z)).flatten
 |0,a=>by simp
 |n+1,a=>by
  rw[ű,Ů,Jj z n,ű,ŗ];simp[ch]
theorem Jk{r:Str}{k i:Nat}(hi:i<=r.9):(bT r i++({#[k]}:Str)++cm r i).9=r.9+1:=by
 rw[<-aP,Dv,É,Ú,ê,ē,aP];omega
section
variable{g:Str}{ws ss ls:List Str}
def HE(g:Str)(ws ss ls:List Str)(many:Int)(n:Nat)(f:Str->Int):Prop:=∀p∈ls,many*f p<=iA g ws ss ls n f p
noncomputable def mG(g:Str)(ws ss ls:List Str)(many:Int)(n:Nat)(f:Str->Int)(p:Str):Int:=if iA g ws ss ls n f p/many<f p then iA g ws ss ls n f p/many else f p
theorem Jl{n:Nat}{f:Str->Int}(h:∀p∈ls,0<=f p)(p:Str):0<=iA g ws ss ls n f p:=vN λq a=>h _ (dW a)
theorem Dy{f h:Str->Int}(e:∀p∈ls,f p<=h p)(p:Str):iA g ws ss ls n f p<=iA g ws ss ls n h p:=Dd λq a=>e _ (dW a)
theorem Jm(many:Int)(n:Nat)(f:Str->Int)(p:Str):mG g ws ss ls many n f p<=f p:=by
 unfold mG;split<;>lia
theorem Jn{f:Str->Int}(j:2<=many)(h:∀p∈ls,0<=f p):∀p∈ls,0<=mG g ws ss ls many n f p:=λp a=>by
 have b:=wik (Jl (g:=g) (ws:=ws) (ss:=ss) (n:=n) h p) (show 0<=many by lia);have c:=h p a;unfold mG;split<;>lia
theorem FZ{f h:Str->Int}(l:2<=many)(j:HE g ws ss ls many n f)(e:∀p∈ls,f p<=h p):∀p∈ls,f p<=mG g ws ss ls many n h p:=λp a=>by
 have b:=j p a;have c:=Dy (g:=g) (ws:=ws) (ss:=ss) (n:=n) e p;have d:f p<=iA g ws ss ls n h p/many:=(weu 1.0).mpr (by rw[Œ];omega);have i:=e p a;unfold mG;split<;>omega
theorem Mi{f:Str->Int}(j:2<=many)(e:∀p∈ls,mG g ws ss ls many n f p=f p):HE g ws ss ls many n f:=λp a=>by
 have h:=e p a;unfold mG at h
 have b:f p<=iA g ws ss ls n f p/many:=by
  grind
 have:=(weu (show 0<many by lia)).mp b;rw[Œ]at this;exact this
theorem P0{f:Str->Int}(j:2<=many)(h0:∀p∈ls,0<=f p)(e:¬∀p∈ls,mG g ws ss ls many n f p=f p):(ls.map λp=>(mG g ws ss ls many n f p).toNat).sum<(ls.map λp=>(f p).toNat).sum:=by
 have b:∀p∈ls,mG g ws ss ls many n f p<=f p:=λp _=>Jm many n f p;have c:=Jn (g:=g) (ws:=ws) (ss:=ss) (n:=n) j h0;generalize mG g ws ss ls many n f=h at e b c
 have key:∀l:List Str,(∀p∈l,h p<=f p/\0<=h p)->(l.map λp=>(h p).toNat).sum<=(l.map λp=>(f p).toNat).sum/\((∃p∈l,h p≠f p)->(l.map λp=>(h p).toNat).sum<(l.map λp=>(f p).toNat).sum):=by
  intro l
  induction l with
  |nil=>intro _;exact{Ä _,λ⟨p,a,_⟩=>nomatch a}
  |cons x l i=>
   intro hl
   let{m,k}:=i λp a=>hl p (Ô _ a)
   let{o,r}:=hl x (Ø ..)
   rw[Ó,Ó,ú,ú];refine{(),λ⟨p,a,d⟩=>?_};rcases à.mp a with z |z
   .rw[z]at d
    lia
   .have:=k ⟨p,z,d⟩
    lia
 refine(key ls λp a=>{b p a,c p a}).2 ?_;apply wcE;intro q;exact e λp a=>wcE λz=>q ⟨p,a,z⟩
noncomputable def P4(g:Str):Nat->List Str
 |0=>[""]
 |n+1=>(ch g).flatMap λc=>(P4 g n).map λr=>({#[c]}:Str)++r
noncomputable def La(g:Str):Nat->List Str
 |0=>[""]
 |n+1=>(La g n).flatMap λr=>(ch g).map λc=>r++({#[c]}:Str)
theorem uQ:∀n,La g n=P4 g n
 |0=>rfl
 |1=>by
  show ([""]:List Str).flatMap (λr=>(ch g).map λc=>r++({#[c]}:Str))=(ch g).flatMap λc=>([""]:List Str).map λr=>({#[c]}:Str)++r;rw[List.flatMap_singleton]
  have:∀a:List Nat,(a.map λc=>("":Str)++({#[c]}:Str))=a.flatMap λc=>([""]:List Str).map λr=>({#[c]}:Str)++r:=by
   intro a
   induction a with
   |nil=>rfl
   |cons c a b=>
    rw[Ó,wdB,b];show (("":Str)++({#[c]}:Str))::_=[({#[c]}:Str)++("":Str)]++_;rw[uP,kL];rfl
  exact this _
 |n+2=>by
  show (La g (n+1)).flatMap (λr=>(ch g).map λc=>r++({#[c]}:Str))=(ch g).flatMap λc=>(P4 g (n+1)).map λr=>({#[c]}:Str)++r;rw[uQ (n+1)];show ((ch g).flatMap λc=>(P4 g n).map λr=>({#[c]}:Str)++r).flatMap (λr=>(ch g).map λc=>r++({#[c]}:Str))=_;rw[List.flatMap_assoc];congr 1;funext c;rw[<-uQ (n+1)];show _=((La g n).flatMap λr=>(ch g).map λc=>r++({#[c]}:Str)).map λr=>({#[c]}:Str)++r;rw[uQ n,List.map_flatMap,List.flatMap_map];congr 1;funext r;rw[Î];refine ĕ λd _=>?_;exact f7 _ _ _
end
section
variable{ws ss ls:List Str}{p:Str}
noncomputable def kP(ws ss:List Str)(p:Str)(r:Str):Option (Str×Str):=if bears ws (p++r)=true then τ else ρ (r,lend ss (p++r))
noncomputable def Mj(ws ss ls:List Str)(p:Str)(r:Str):Option (Str×Str):=if bears ws (p++r)=true then τ else if lend ss (p++r)∈ls then ρ (r,lend ss (p++r)) else τ
end
end _B
namespace K54
section
variable{w:World}
noncomputable def top(i:Nat):Stmt:=ö.main.body.getD i (.Pass ⟨0,0,0,0⟩)
theorem da{X:Cx}{f}:(X.kl f).K=X.K:=rfl
theorem mj{t u:TS}{D:Ends}{σ:St}{H:Hp}(h:∀R:St->Hp->Prop,(∀σ H,u D σ H->R σ H)->t (D.L7 R) σ H):Ow t u D σ H:=h _ λ_ _ x=>x
theorem aY{x p y q e}:(Ţ [.Name x p,.Name y q] e).9=2:=rfl
theorem aZ{x p y q z r e}:(Ţ [.Name x p,.Name y q,.Name z r] e).9=3:=rfl
structure G0(K:Á)(C:Addr):Prop where
 cl:AA K C
 bu:bY K C "writer"
 EZ:bY K C "pairs"
structure Ml(K:Á)(C:Addr):Prop where
 cl:AA K C
 q8:bY K C "signs"
 wo:bY K C "barred"
 kQ:bY K C "moves"
 sr:bY K C "lasting"
structure Jo(K:Á)(C:Addr):Prop where
 cl:AA K C
 gm:bY K C "homes"
 dI:bY K C "weights"
 d2:bY K C "lines"
structure Mm(K:Á)(C:Addr):Prop where
 cl:AA K C
 dI:bY K C "weights"
 Bo:bY K C "splits"
 Jp:bY K C "kept"
 Jq:bY K C "last"
inductive Vx(lns:List (List (Str×Nat)))(rs ys:List Nat)(x rd wl a:Addr)(d z:Nat)(H:Hp)(i:Nat)(σ:St)(H5:Hp):Prop
 |mk (ad v5 v6) (_:σ=[ρ (.ref x),ρ (.int (d:Int)),ρ (.ref rd),ρ (.ref wl),ρ (.ref a),v5,v6]) (_:a8 H H5) (_:H5 rd=ρ (.dK (dB (rs++ad)))) (_:H5 wl=ρ (.lst ((nI (ys++ad)).map V.int))) (_:(rs++ad).Nodup) (_:∀r∈rs++ad,r<lns.9) (_:∀q∈(lns.getD z []).take i,q.2∈rs++ad)
theorem Vx.s{wl:Addr}(q:Vx lns rs ys x rd wl a d z H i σ g):a8 H g:=by
 let{_,_,_,_,h,_}:=q
 exact h
inductive Jr(vs:List V)(H:Hp)(Q:VK)(eF:XK):Prop
 |mk (a ts many) (_:vs=[.ref a,.int many]) (_:H a=ρ (.lst ((nI ts).map V.int))) (_:(∀t∈ts,(t:Int)<many)) (_:∀H',a8 H H'->Q .non H')
noncomputable abbrev XY(R:Wr)(pl win:Str)(z ld:Addr)(v6 v7 v8:Option V):St:=[ρ (.ref z),ρ (.str win),ρ (.int ((R.n*R.b:Nat):Int)),ρ (.int ((R.n*(R.b+1):Nat):Int)),ρ (.str pl),ρ (.ref ld),v6,v7,v8]
inductive wfA(R:Wr)(H4:Hp)(pl w win:Str)(us:List Str)(z ld:Addr)(i:Nat)(σ:St)(H5:Hp):Prop
 |mk (_:i<=R.wl.9) (_:a8 H4 H5) (_:∀d j e:Nat,d<i->R.hk.getD d ""=pl->(R.wl.getD d [])[j]?=ρ (w,e)->¬jO R.wl e us) (v6 v7 v8) (_:σ=XY R pl win z ld v6 v7 v8)
inductive Vy(R:Wr)(H6:Hp)(pl w win:Str)(us:List Str)(z ld:Addr)(i j:Nat)(σ:St)(H7:Hp):Prop
 |mk (_:a8 H6 H7) (_:∀j' e:Nat,j'<j->(R.wl.getD i [])[j']?=ρ (w,e)->¬jO R.wl e us) (v7 v8) (_:σ=XY R pl win z ld (ρ (.int (i:Int))) v7 v8)
theorem Vy.s{w:Str}(q:Vy R g pl w l us z ld i j σ p):a8 g p:=by
 let{h,_}:=q
 exact h
theorem P5{C:Addr}{nm:Str}{v:V}{H g:Hp}{E:XK}(h:J8 C nm v H E)(s:a8 H g):J8 C nm v g E:=λd a b f e=>h d a (s.trans b) (none_of s f) e
noncomputable abbrev F3:List V:=[V.bl false,V.bl false,V.bl false]
noncomputable abbrev B3(s:Nat):List V:=[V.bl (decide (s=0)),V.bl (decide (s=1)),V.bl (decide (s=2))]
inductive G7(CR CL CU:Addr)(H:Hp)(HF:V)(s:Nat)(C:Addr)(nm:Str)(od:Option Addr):Prop
 |r (_:s=0) (_:C=CR) (_:nm="NoRow") (dd:Addr) (i:Int) (_:od=ρ dd) (_:H dd=ρ (.xd [("number",.int i)])) (_:HF=.int i)
 |l (_:s=1) (_:C=CL) (_:nm="NoLength") (dd:Addr) (i:Int) (_:od=ρ dd) (_:H dd=ρ (.xd [("length",.int i)])) (_:HF=.int i)
 |u (_:s=2) (_:C=CU) (_:nm="NoNumber")
noncomputable def yU:List Str:=["!","A"," ","_","~","."]
inductive Mo(vs:List V)(H:Hp)(Q:VK)(eF:XK):Prop
 |mk (g c) (_:vs=[.str g,.int c]) (_:∀k H',a8 H H'->(⟨#[k]⟩:Str)∈yU->Q (.str ⟨#[k]⟩) H')
theorem Sq:∀st:Fin 36,∀sp∈[1,5,7,11,13,35],∀n∈[2,3,4],((mF st sp n).Nodup/\∀c∈mF st sp n,c∈ch fQ):=∅
theorem Bp{st sp n:Nat}{x:Str}(j:st<36)(hs:sp∈[1,5,7,11,13,35])(hn:n∈[2,3,4])(g:ch x=mF st sp n):yS x:=by
 let{a,b}:=Sq ⟨st,j⟩ sp hs n hn
 have hl:x.9=n:=by grind [aP,mF,À]
 have c:n=2\/n=3\/n=4:=by simpa using hn
 exact{(),(),by rw[g];exact a,by rw[g];exact b}
theorem P6:∀d:Int,0<=d->d<8->∃n:Nat,zv ([.int 2,.int 2,.int 2,.int 3,.int 2,.int 4,.int 2,.int 3]:List V) d=ρ (.int (n:Int))/\n∈[2,3,4]:=under 8 λk=>{[2,2,2,3,2,4,2,3].getD k.val 0,by revert k;decide,by revert k;decide}
theorem P7:∀d:Int,0<=d->d<6->∃n:Nat,zv ([.int 1,.int 5,.int 7,.int 11,.int 13,.int 35]:List V) d=ρ (.int (n:Int))/\n∈[1,5,7,11,13,35]:=under 6 λk=>{[1,5,7,11,13,35].getD k.val 0,by revert k;decide,by revert k;decide}
theorem P8:∀d:Int,0<=d->d<8->∃n:Nat,zv ([.int 0,.int 1,.int 2,.int 3,.int 1,.int 2,.int 3,.int 6]:List V) d=ρ (.int (n:Int))/\n<=6:=under 8 λk=>{[0,1,2,3,1,2,3,6].getD k.val 0,by revert k;decide,by revert k;decide}
theorem P9:∀d:Int,0<=d->d<8->∃n:Nat,zv ([.int 2,.int 3,.int 4,.int 2,.int 3,.int 4,.int 1,.int 5]:List V) d=ρ (.int (n:Int))/\1<=n/\n<=5:=under 8 λk=>{[2,3,4,2,3,4,1,5].getD k.val 0,by revert k;decide,by revert k;decide}
theorem Mp{xs:List Int}(h:xs.9=4):∃a b c d,xs=[a,b,c,d]:=by
 match xs,h with
 |[a,b,c,d],_=>exact⟨a,b,c,d,rfl⟩
theorem Js{n:Nat}{many wide:Int}(r:2<=n)(l:n<=4)(p:2<=many)(m8:many<=8)(g:1<=wide)(j:wide<=6)(h:2<n->wide<=3):gO n many wide:=by
 have key:∀(m:Fin 5) (k:Fin 7),(2<m.val->k.val<=3)->(m.val:Int)^k.val<=64:=⋯
 let{k,rfl}:=wg6 (χ ⋯ g)
 exact{p,m8,g,j,key {n,whM l} {k,whM (Int.ofNat_le.mp j)} λz=>Int.ofNat_le.mp (h z)}
noncomputable def Vz:List (Int×Int):=[(2,2),(2,3),(4,3),(3,3),(2,4),(3,2),(5,3),(8,5),(2,1),(6,4),(7,5),(7,6)]
theorem Pa:∀d:Int,0<=d->d<12->∃p,Vz[d.toNat]?=ρ p/\2<=p.1/\p.1<=8/\1<=p.2/\p.2<=6:=under 12 λk=>{Vz.getD k.val (0,0),by revert k;decide}
theorem G8{R:Wr}(n1:1<=R.n):q0 R (((R.n*R.b:Nat):Int)+(R.n:Int)*(R.c:Int)-1):=by
 delta q0;rw[show ((R.n*R.b:Nat):Int)+(R.n:Int)*(R.c:Int)-1-((R.n*R.b:Nat):Int)=-1+(R.n:Int)*(R.c:Int) by lia]
 by_cases h:R.n=1
 .right
  rw[h]
  lia
 .left
  rw[wfp];intro z;have:=Int.dvd_of_emod_eq_zero z;have:=Int.le_of_dvd ⋯ ((Int.dvd_neg).mpr this)
  lia
theorem Jt{R:Wr}{m d:Nat}(hd:d+2<=R.n):q0 R (((R.n*(R.b+m+R.c):Nat):Int)+1+(d:Int)):=by
 left
 rw[show ((R.n*(R.b+m+R.c):Nat):Int)+1+(d:Int)-((R.n*R.b:Nat):Int)=(1+(d:Int))+(R.n:Int)*((m:Int)+(R.c:Int)) by rw[wh9,ĩ,<-Ō m R.c,<-ą];lia,wfp,Int.emod_eq_of_lt () ()]
 lia
theorem Pb(cell:Nat){n:Nat}(n1:1<=n):∃d:Nat,(n≠1->d+2<=n)/\(cell:Int)%(if (n:Int)-1>1 then(n:Int)-1 else 1)=(d:Int):=by
 by_cases h:(n:Int)-1>1
 .rw[if_pos h];have a:=Ę (cell:Int) (show 0<(n:Int)-1 by omega);have b:=ċ (cell:Int) (show (n:Int)-1≠0 by omega);exact{((cell:Int)%((n:Int)-1)).toNat,λ_=>1.0,1.0}
 .rw[if_neg h];exact⟨0,λ_=>1.0,Int.emod_one _⟩
theorem Pg(c:Int){n:Nat}(h:0<n):∃i:Nat,i<n/\c%(n:Int)=(i:Int):={(c%(n:Int)).toNat,by have:=Ę c (show 0<(n:Int) by omega);have:=ċ c (show (n:Int)≠0 by omega);omega,by have:=ċ c (show (n:Int)≠0 by omega);omega}
theorem F0{r:Str}{k i:Nat}(h:i<=r.9)(g:r.9<=900):(bT r i).9+1<=1000/\(bT r i++({#[k]}:Str)).length+(cm r i).9<=1000/\(bT r i++({#[k]}:Str)++cm r i).9<=1000:=by
 rw[<-len_app,Jk h,<-aP (bT r i),f5,Ú,aP];omega
noncomputable abbrev Ph(R:Wr)(a lw x ld z:Addr)(v8 v9 v10 v11 v12 v13 v14 v15 Qx Qy Sr:Option V):St:=[ρ (.ref a),ρ (.str R.g),ρ (.ref lw),ρ (.int R.many),ρ (.int (R.n:Int)),ρ (.ref x),ρ (.ref ld),ρ (.ref z),v8,v9,v10,v11,v12,v13,v14,v15,Qx,Qy,Sr]
noncomputable abbrev Mq(R:Wr)(a lw x ld z:Addr)(row:Str)(cell at1 kc room:Nat)(win:Str):Option V->Option V->Option V->Option V->Option V->St:=Ph R a lw x ld z (ρ (.str row)) (ρ (.int (cell:Int))) (ρ (.int (at1:Int))) (ρ (.str {#[kc]})) (ρ (.int (room:Int))) (ρ (.str win))
end
theorem df{CX P w K mg base N q g f cd A o s H E}:(vr CX P w K mg base N q g f cd A o s H E).K=K:=rfl
section
variable{K:Á}
inductive Mr(K:Á)(vs:List V)(H:Hp)(Q:VK)(eF:XK):Prop
 |mk (l b:Addr) (rs:List Addr) (ps:List (Nat×Nat)) (es:List Nat) (_:vs=[.ref l,.ref b]) (_:aO K H l (rs.map V.ref)) (_:b8 H rs (ps.map jP)) (_:aO K H b ((nI es).map V.int)) (_:ps.9<=1000) (_:es.9<=1000) (_:∀y ds H',a8 H H'->H' y=ρ (.lst ((nI ds).map V.int))->(∀i:Nat,i∈ds↔∃e∈es,(i,e)∈ps)->ds.9<=ps.9->Q (.ref y) H')
end
end K54
namespace _L
open PySem.Spec PyProof.Rows
section
variable{X:Cx}
noncomputable def U7(r:Str):V->V:=λv=>match v with
 |.str y=>.bl (_B.NS y r)
 |_=>.non
theorem Ju(r:Str)(ws:List Str):(ws.map V.str).map (U7 r)=(ws.map λw=>_B.NS w r).map V.bl:=by
 rw[Î,Î];rfl
theorem G9(a b:Str):(fm a).map (U7 b)=((_B.ch a).map λc=>decide (c∈_B.ch b)).map V.bl:=by
 unfold fm;rw[Î,Î];refine ĕ λc _=>?_;show V.bl (_B.NS {#[c]} b)=V.bl (decide (c∈_B.ch b));rw[_B.EX]
theorem Ga(g:List Str)(b:Str):putK (lE g) (Å b:Key) (.bl true)=lE (_B.A4 g b):=by
 unfold putK _B.A4
 by_cases h:b∈g
 .have a:((lE g).any λc=>decide (c.1=(Å b:Key)))=true:=by
   refine ō.mpr {(Å b,.bl true),?_,decide_eq_true rfl};exact Æ.mpr ⟨b,h,rfl⟩
  rw[if_pos a,if_pos h];delta lE;rw[Î];refine ĕ λk _=>?_;show (if (Å k:Key)=Å b then((Å k:Key),V.bl true) else((Å k:Key),V.bl true))=_;split<;>rfl
 .have a:¬((lE g).any λc=>decide (c.1=(Å b:Key)))=true:=by
   intro z
   let{p,d,e}:=ō.mp z
   let{k,hk,rfl}:=Æ.mp d
   have:(Å k:Key)=Å b:=of_decide_eq_true e;have:k=b:=Ě this;subst this;exact h hk
  rw[if_neg a,if_neg h];delta lE;rw[Ü];rfl
theorem q9(h:(_B.ch x).Nodup):∀i,i<=x.cps.size->dn (fF x) i=(Ö i).map (fF x)
 |0,_=>rfl
 |i+1,hi=>by
  have c:=q9 h i 1.0;rw[j8,c,Δ,Ü];delta sU;rw[if_neg]
  .rfl
  .intro z
   let{y,d,e}:=ō.mp z
   let{j,f,rfl}:=Æ.mp d
   have l:j<i:=Ą.mp f;have a:fF x j=fF x i:=eq_of_beq e;unfold fF at a
   have b:x.cps.getD j 0=x.cps.getD i 0:=by
    injection a with m
    have:=congrArg Array.toList m;simpa using this
   have g:∀k,(hk:k<x.cps.size)->x.cps.getD k 0=(_B.ch x)[k]'(by simpa using hk):=λk hk=>by
    simp[Array.getD,hk]
   rw[g j 1.0,g i 1.0]at b;have:=(Ř h).mp b;omega
theorem Bq(h:(_B.ch x).Nodup):(dn (fF x) x.cps.size).9=x.9:=by
 rw[q9 h _ (Ä _),À,ì];rfl
noncomputable def uR(ws ps:List Str)(p:Str)(c:Nat):V:=if bears ws (p++{#[c]})=true then .non else .str (lend ps (p++{#[c]}))
noncomputable def rowOf(g:Str)(ws ps:List Str)(p:Str):List (Key×V):=(ch g).map λc=>((Å ({#[c]}:Str):Key),uR ws ps p c)
theorem Gb(g:Str)(ws ps:List Str)(p:Str):(rowOf g ws ps p).9=g.9:=by delta rowOf;rw[À,aP]
theorem Dz(g:Str)(ws ps:List Str)(p:Str):((rowOf g ws ps p).map (·.2)).all eh=true:=by
 delta rowOf;rw[Î];refine õ.mpr λv a=>?_
 let{c,1}:=Æ.mp a
 show eh (uR ws ps p c)=true;unfold uR;split<;>rfl
theorem F1(h:c∈ch g):bD (rowOf g ws ps p) (Å ({#[c]}:Str):Key)=ρ (uR ws ps p c):=
 Ia (uR ws ps p) (λc=>({#[c]}:Str)) (λa b e=>by
  grind) h
theorem yV{z:Str}{g:TG}{C:TS}{D:Ends}{σ:St}{H:Hp}(Pv:Nat->St->Hp->Prop)(h0:Pv 0 σ H)
 (hs:∀i c σ H T,(_B.ch z)[i]?=ρ c->Pv i σ H->H T=τ->g (.ref T) σ (upd H T (.tup [.int (i:Nat),.str {#[c]}])) λj t=>C (D.lp (Pv (i+1))) j t) (hd:∀σ H,Pv z.length σ H->D.nx σ H) :
 ∃W:Nat->Nat->St->Hp->Prop,(∃m,W 0 m σ H)/\∀i m σ H,W i m σ H ->
  ((Ib z).stop i H/\D.nx σ H)\/((Ib z).go i H/\∃N:St->Hp->Prop,(∀l r,N l r->∃I,I<m/\W (i+1) I l r)/\∀x r,(Ib z).uY i H x r->g x σ r λj t=>C (D.lp N) j t):=by
 refine{λi m σ H=>m=z.9-i/\i<=z.9/\Pv i σ H,{z.9,by simp,Û _,h0},?_};rintro i m σ H ⟨rfl,hi,p⟩
 by_cases a:i<z.9
 .refine .inr {a,Pv (i+1),λl r b=>{z.9-(i+1),(),rfl,a,b},λx r y=>?_}
  let{T,d,f,h}:=y
  subst f h
  have hc:(_B.ch z)[i]?=ρ (z.cps.getD i 0):=by
   have:i<z.cps.size:=a;rw[Ź];simp[this]
  exact hs i _ σ _ T hc p d
 .have e:i=z.9:=();subst e;exact .inl {Ä _,hd σ H p}
theorem ai{i:Nat}{x:Str}{e:Expr}{j:TE}{g:Pos}(he:PE X e j)(l:X.N.Nodup:=by assumption)(hi:X.N[i]?=ρ x:=by rfl)(p:Loc X.env.scope x:=by first |exact ğ rfl |exact Or.inr rfl)(hs:Ċ e (ρ (.Name x g)) pos.line X.5=pure false:=by rfl)
 (r:X.fn x=true\/X.env.scope.names.lookup x=ρ .local:=by first |exact .inl rfl |exact .inr rfl |assumption):PS X (.Assign [.Name x g] e pos) (LJ j (bR i)):=
 Il l hi p he hs r
theorem ay{i:Nat}{x:Str}(g:X.N.Nodup:=by assumption)(hi:X.N[i]?=ρ x:=by rfl)(j:Loc X.env.scope x:=by first |exact ğ rfl |exact Or.inr rfl)(l:X.fn x=true\/X.env.scope.names.lookup x=ρ .local:=by first |exact .inl rfl |exact .inr rfl |assumption):PG X (.Name x pos) (bR i):=
 ky g hi j l
noncomputable def ik(g:Str)(ws ss:List Str)(p:Str):List Str:=(ch g).filterMap λc=>if bears ws (p++{#[c]})=true then τ else ρ (lend ss (p++{#[c]}))
theorem Br(ws ss:List Str)(p:Str)(g:List Nat):((g.map (uR ws ss p)).filter Cv)=(g.filterMap λc=>if bears ws (p++{#[c]})=true then τ else ρ (lend ss (p++{#[c]}))).map V.str:=by
 induction g with
 |nil=>rfl
 |cons c g a=>
  grind [uR,lend,Cv]
theorem DA(g:Str)(ws ss:List Str)(p:Str):(ik g ws ss p).9<=g.9:=by
 delta ik;have:=wef (λc=>if bears ws (p++{#[c]})=true then τ else ρ (lend ss (p++({#[c]}:Str)))) (ch g);rw[aP]at this;exact this
noncomputable def iD(g:Str)(ws ss:List Str):Nat->Str->Int
 |0,_=>1
 |n+1,p=>((ik g ws ss p).map (iD g ws ss n)).sum
noncomputable abbrev Pj(g:Str)(ws ss:List Str)(n:Nat):List (Key×V):=rL (λp=>.int (iD g ws ss n p)) ss
noncomputable def XZ(ws ss:List Str)(p:Str):V->V:=λv=>match v with
 |.str z=>uR ws ss p (z.cps.getD 0 0)
 |_=>.non
theorem Gd(g:Str)(ws ss:List Str)(p:Str):(fm g).map (XZ ws ss p)=(ch g).map (uR ws ss p):=by
 unfold fm;rw[Î];rfl
theorem bz.len{K:Á}{H:Hp}:∀{g:List kj} {xs:List V},bz K H g xs->xs.9=g.9
 |[],xs,h=>by
  have e:xs=[]:=h;subst e;rfl
 |d::g,_,h=>by
  let{v,a,rfl,_,hl}:=h
  rw[ê,ê,bz.len hl]
theorem bz.at{K:Á}{H:Hp}{g:List kj}{xs:List V}(h:bz K H g xs){i:Nat}{d:kj}(e:g[i]?=ρ d):∃x,xs[i]?=ρ x/\bN K H d x:=by
 have hi:i<g.9:=(Ñ.mp e).1;have a:xs[i]?=ρ (xs[i]'(by rw[h.len];exact hi)):=Ã _
 let{c,b,r}:=h.get i _ a
 rw[e]at b;cases b;exact{_,a,r}
theorem f9(s:a8 g H):a8 (aM H j) (aM g j):=λa o e=>by
 unfold aM at e ⊢
 cases h:H a with
 |none=>rw[h]at e;rw[none_of s h];exact e
 |some z=>rw[h]at e;cases e
theorem iQ(s:a8 g j):a8 (aM H g) (aM H j):=λa o e=>by
 unfold aM at e ⊢
 cases h:H a with
 |none=>rw[h]at e;exact s _ _ e
 |some z=>rw[h]at e;cases e
theorem bV(hl:H l=ρ o)(kp:∀b o,g b=ρ o->b≠l->j b=ρ o):a8 (aM H g) (aM H j):=λa c e=>by
 unfold aM at e ⊢
 cases h:H a with
 |none=>
  rw[h]at e;exact kp _ _ e λz=>by rw[z,hl]at h;cases h
 |some z=>rw[h]at e;cases e
theorem fE(kp:∀b o,H b=ρ o->b≠x->g b=ρ o):a8 (gG H x) g:=λd o e=>by
 unfold gG at e
 by_cases hd:d=x
 .rw[if_pos hd]at e;cases e
 .rw[if_neg hd]at e;exact kp _ _ e hd
theorem Pk(g:H x=ρ (.ins C j fs))(h:Rd H d o)(l:∀z,o≠.ins C j z)(p:∀a b,HO.frz a b≠.ins C j fs):Rd (gG H x) d o:=by
 rcases h with e |⟨z,e⟩
 .exact .inl (fY e λq=>by rw[q,g]at e;exact l fs (Ò e).symm)
 .exact .inr {z,fY e λq=>by rw[q,g]at e;exact p _ _ (Ò e).symm}
mutual
theorem bN.off{K:Á}{H:Hp}{x C j:Addr}{fs:List (Str×V)}(g:H x=ρ (.ins C j fs)):∀(d:kj) (v:V),bN K H d v->bN K (gG H x) d v
 |.at _,_,h=>h
 |.tup c,_,h=>by
  let{a,b,e,f,hl}:=h
  exact{a,b,e,fY f (λz=>by grind),bz.off g c b hl}
 |.lst c,_,h=>by
  let{a,b,e,f,hl}:=h
  exact{a,b,e,Pk g f (λ_ z=>by cases z) (λ_ _ z=>by cases z),bz.off g c b hl}
theorem bz.off{K:Á}{H:Hp}{x C l:Addr}{fs:List (Str×V)}(j:H x=ρ (.ins C l fs)):∀(g:List kj) (xs:List V),bz K H g xs->bz K (gG H x) g xs
 |[],_,h=>h
 |d::g,_,h=>by
  let{v,a,e,b,hl}:=h
  exact{v,a,e,bN.off j d v b,bz.off j g a hl}
end
theorem Jv(K:Á)(a:Addr)(xs:List V):kq (Oo K a xs.9) (λH=>aO K H a xs) xs.reverse:=
 {λi H q hi=>{xs,xs[xs.9-1-i]'(by rw[ξ]at hi;omega),q,rfl,by rwa[ξ]at hi,Ã _},λi H x b q hi y=>{y.1,by rw[wgI (by rwa[ξ]at hi)];exact y.2 xs q},λH _=>ξ ..}
theorem Bt:dO X (.type "range") (λxs H Q=>∃i j:Int,xs=[.int i,.int j]/\∀p,H p=τ->Q (.ref p) (upd H p (.rng i j))):=by
 intro c s σ H xs e Q I r h
 let{i,j,rfl,q}:=h
 cases r with
 |cons r a=>
  cases a with
  |cons d a=>
   cases a
   let{t,rfl}:=r
   let{f,rfl}:=d
   exact call_range_2 {.ref s.8,_,I.laid (λb ob q=>Õ _ q) (Ä _) (show bP X.prog X.w _ _ _ (.rng i j) from {_,_,_,è _ rfl}),rfl,q _ (I.b6.fresh (Ä _))}
end
section
variable{X:Cx}{x:Str}{pos:Pos}{e:Expr}{te:Np}{i:Nat}{pos':Pos}
theorem Ms(g:X.N.Nodup)(hi:X.N[i]?=ρ x)(j:Loc X.env.scope x)(he:TX X e te)(hs:Ċ e (ρ (.Name x pos')) pos.line X.5=pure false:=by rfl)(l:X.fn x=true\/X.env.scope.names.lookup x=ρ .local:=by first |exact .inl rfl |exact .inr rfl |assumption) :
 Ru X (.Assign [.Name x pos'] e pos) (Vn te i):=by
 refine{?_};intro a s σ H D E I h;refine wdA (í (he a s σ H _ (E σ) I h) (λv b ⟨y,c,d,f,k⟩=>?_) λn b z=>⟨σ,z⟩) hs;exact hV d g hi j f (λo m=>{_,c,m,k}) l
end
section
variable{P:Ê}{w:World}{K:Á}{mg:Str->Option Value}{base:Heap}{N:List Str}{qual:Str}{f:Addr}{A:Around}{outer:List Env}{s:Shared}{H:Hp}{E:XK}
theorem zy.okE{x qual:Str}{st:Stmt}{f:Addr}{fd:ï}{N ps:List Str}{k:Nat}{sp:Sp}(F:zy K x qual st f fd)(S:uJ N ps (aL st))(len:∀vs H Q E,sp vs H Q E->vs.9=ps.9)
 (j:∀(g:Value) (A:Around) (outer:List Env) (s:Shared) (H:Hp) (vs:List V) (Q:VK) (E:XK),dJ k (A.deeper (envOfC qual (aL st) s.heap.objs.size f g))->sp vs H Q E ->
   ∃t,xG (vr (uM P w) P w K mg base N qual (aL st) f g A outer s H E) (cn st) t/\t (Ends.fn Q) (start N vs) H):aR P w K mg base (uM P w) (k+1) f fd ps sp:=by
 let{h,i,kV,c,pm,l,g,ct,d,rfl,lk,a}:=F.ex
 exact NA lk a S len λA outer s H vs Q E e b=>j g A outer s H vs Q E e b
end
section
variable{X:Cx}{k:Nat}{f C:Addr}{fd:ï}{ps:List Str}{sp:Sp}{x:Str}{p pos:Pos}{e:Expr}{es:List Expr}{t:TA}
theorem Jw(M:Mk X.K C f)(F:aR X.prog X.w X.K X.mg X.base (uM X.prog X.w) k f fd ps sp)(J:dJ (k+1) X.A)(T:Gl X x)(U:X.mg x=ρ (.ref C))(hb:Binds X.K fd ps [])
 (ha:PA X.HC (e::es) t) (l:(x==("__debug__":Str))=false:=by decide) (he:starEach (e::es) X.5=(false,eval e X.5)::starEach es X.5:=by rfl) (hpl:(backTo pos (starEach es X.5)).any (·.1)=false:=by rfl) :
 TX X (.Call (.Name x p) (e::es) [] pos) (OA C sp t):=by
 refine{?_};intro d s σ H Q E I h;refine Ń (g8 I T U ?_ l);refine ų (h₀:=X.base) I.ok.mod.Ln M.kp (CV (bQ (ha pos d s σ H _ (I.kl _) h) λc b o=>?_)) he hpl
 let{y,N,g,r,q}:=o.eP
 refine{g.gJ,?_};have m:=q (b.8+1) b.heap.objs.size (g.b6.fresh (Ġ _)) (g.b6.fresh (Ä _)) (Ù (ň _));have j:=Inv.made (C:=C) g;have n:Vals (V.ref (b.8+1)::y) (È (b.8+1)::c):=.cons rfl r
 have hl:(È (b.8+1)::c++[]).9=ps.9:=by
  have e:=n.9;rw[F.len _ _ _ _ m]at e;rw[û];exact e.symm
 have i:=hb _ (È (b.8+1)::c) j.gJ hl;rw[û]at i
 refine ě (B6 (f:=f) g.gJ M.makes M.init (beq_iff_eq.mp M.fn) (Ī (F.run _ X.stack _ _ {È (b.8+1)::c,[]} (È (b.8+1)::c) _ _ E (J.make C c [])
  (j.Io.make C c []) i n m) λr O a=>?_))
 cases r with
 |error e=>exact{_,_,j,a}
 |ok fl=>
  cases fl with
  |ret u=>
   let{v,z,B,D,G,L}:=j.after a
   subst G;exact{D,{V.ref (b.8+1),z,B,rfl,L}}
  |next=>exact é a
  |brk=>exact é a
  |cont=>exact é a
end
end _L
namespace _B
noncomputable def lH(q:Str×Nat):kj:=.tup [.at (.str q.1),.at (.int (q.2:Int))]
noncomputable def cj(qs:List (Str×Nat)):kj:=.lst (qs.map lH)
noncomputable def kR(lns:List (List (Str×Nat))):kj:=.lst (lns.map cj)
noncomputable def tq(hs:List Str):kj:=.lst (hs.map λh=>.at (.str h))
noncomputable def o7(ws:List Int):kj:=.lst (ws.map λw=>.at (.int w))
theorem Jx(h:bN K H (tq hs) v):∃a,v=.ref a/\aO K H a (hs.map V.str):=by
 let{a,b,rfl,f,hl}:=h
 refine{a,rfl,?_}
 have:b=hs.map V.str:=by
  refine whN λi=>?_
  cases e:b[i]? with
  |none=>
   have:=hl.len;rw[À]at this;rw[Χ (by rw[À];have:=wfH.mp e;lia)]
  |some x=>
   let{d,hd,r}:=hl.get i x e
   rw[Ç]at hd ⊢
   cases c:hs[i]? with
   |none=>rw[c]at hd;cases hd
   |some z=>
    rw[c]at hd;cases hd;rw[r.1];rfl
 rw[<-this];exact .inl f
theorem iR(h:bN K H (o7 ws) v):∃a,v=.ref a/\aO K H a (ws.map V.int):=by
 let{a,b,rfl,f,hl}:=h
 refine{a,rfl,?_}
 have:b=ws.map V.int:=by
  refine whN λi=>?_
  cases e:b[i]? with
  |none=>
   have:=hl.len;rw[À]at this;rw[Χ (by rw[À];have:=wfH.mp e;lia)]
  |some x=>
   let{d,hd,r}:=hl.get i x e
   rw[Ç]at hd ⊢
   cases c:ws[i]? with
   |none=>rw[c]at hd;cases hd
   |some z=>
    rw[c]at hd;cases hd;rw[r.1];rfl
 rw[<-this];exact .inl f
theorem qa(h:H a=ρ (.lst (hs.map V.str))):bN K H (tq hs) (.ref a):=
 {a,1,.inl h,bz.rJ _ _ (by simp) λi d y hd b=>by
   rw[Ç]at hd b
   cases e:hs[i]? with
   |none=>rw[e]at hd;cases hd
   |some z=>rw[e]at hd b;cases hd;cases b;exact⟨rfl,rfl⟩}
theorem jS(h:H a=ρ (.lst (ws.map V.int))):bN K H (o7 ws) (.ref a):=
 {a,1,.inl h,bz.rJ _ _ (by simp) λi d y hd b=>by
   rw[Ç]at hd b
   cases e:ws[i]? with
   |none=>rw[e]at hd;cases hd
   |some z=>rw[e]at hd b;cases hd;cases b;exact⟨rfl,rfl⟩}
theorem kT(h:bN K H (cj g) v):∃a xs,v=.ref a/\aO K H a xs/\xs.9=(g.map eR).9/\∀(i:Nat) (q:V×V),(g.map eR)[i]?=ρ q->∃r,xs[i]?=ρ (.ref r)/\H r=ρ (.tup [q.1,q.2]):=by
 let{a,xs,rfl,j,hl}:=h
 refine{a,xs,rfl,.inl j,by rw[hl.len,À,À],λi q b=>?_};rw[Ç]at b
 cases e:g[i]? with
 |none=>rw[e]at b;cases b
 |some z=>
  rw[e]at b;cases b
  let{x,k,r}:=hl.at (i:=i) (d:=lH z) (by rw[Ç,e];rfl)
  let{l,p,rfl,f,m}:=r
  let{v1,s,rfl,{rfl,_},n}:=m
  let{t,c,rfl,{rfl,_},o}:=n
  rw[show c=[] from o]at f;exact⟨l,k,f⟩
theorem mH(g:H r=τ)(q:Str×Nat):bN K (aM H (upd H r (.tup [.str q.1,.int (q.2:Int)]))) (lH q) (.ref r):=
 {r,1,cg g a6,.str q.1,[.int (q.2:Int)],rfl,⟨rfl,rfl⟩,.int (q.2:Int),[],rfl,⟨rfl,rfl⟩,rfl}
structure cp(K:Á)(C:Addr)(H:Hp)(x:Addr)(hs:List Str)(ws:List Int)(lns:List (List (Str×Nat))):Prop where
 ex:∃dx a b c,H x=ρ (.ins C dx (De a b c))/\bN K H (tq hs) (.ref a)/\bN K H (o7 ws) (.ref b)/\bN K H (kR lns) (.ref c)
theorem nR{hs:List Str}{k:Str}(h:k∈hs):hs[hs.idxOf k]?=ρ k/\∀j:Nat,j<hs.idxOf k->hs[j]?≠ρ k:=by
 have hl:hs.idxOf k<hs.9:=ν.mpr h;refine{by rw[Ã hl,Ε hl],λj c e=>?_};have a:j<hs.9:=1.0;rw[Ã a]at e;have b:hs[j]=k:=Ò e
 have:hs.idxOf k<=j:=by
  rw[<-b];exact sY a
 omega
theorem Bu(p:Nat->Bool)(h:bz K H (g.map lH) xs):bz K H ((bj p 0 g).map lH) (bj p 0 xs):=by
 rw[<-yA];exact h.pick p 0 _ _
theorem A6{α:Type}{K:Á}{H:Hp}(f:α->V):∀(g:List α) (xs:List V),bz K H (g.map λz=>kj.at (f z)) xs->xs=g.map f
 |[],xs,h=>h
 |z::g,_,h=>by
  let{v,a,rfl,{rfl,_},hl}:=h
  rw[A6 f g a hl];rfl
theorem uS(h:bN K H (tq hs) (.ref a)):Rd H a (.lst (hs.map V.str)):=by
 let{d,b,e,c,hl}:=h
 cases e;rwa[A6 V.str hs b hl]at c
theorem Mt(h:bN K H (o7 ws) (.ref a)):Rd H a (.lst (ws.map V.int)):=by
 let{d,b,e,c,hl}:=h
 cases e;rwa[A6 V.int ws b hl]at c
theorem ez(h:bN K H (cj j) v):∃a rs,v=.ref a/\aO K H a (rs.map V.ref)/\b8 H rs ((j.map eR).map jG):=by
 let{a,d,rfl,m,b,k}:=kT h
 have ex:d=(d.map λv=>match v with |.ref r=>r |_=>0).map V.ref:=by
  rw[Î];refine(Θ d).symm.trans (ĕ λv n=>?_)
  let{i,hi,rfl}:=Ŭ n
  let{r,l,_}:=k i _ (Ã (by rw[<-b];exact hi))
  rw[Ã hi]at l;rw[Ò l];rfl
 refine{a,1,by rw[<-ex];exact m,by rw[À,À,b],λi r p f c=>?_};rw[Ç]at f c
 cases e:(j.map eR)[i]? with
 |none=>rw[e]at c;cases c
 |some q=>
  rw[e]at c;cases c
  let{s,g,o}:=k i q e
  rw[g]at f;cases f;exact o
theorem DB(h:q∈fi d t l):q.2=t\/q∈l:=by
 unfold fi at h
 let{z,b,a}:=Ŧ.mp h
 split at a
 .rcases à.mp a with e |a
  .rw[e];exact .inr b
  .rw[Þ.mp a];exact .inl rfl
 .rw[Þ.mp a];exact .inr b
theorem wq(h:fu ws many g w=true):g≠[]/\1<=w/\many*w<=bg ws g:=by
 unfold fu at h;simp only[ś]at h;exact{λz=>by rw[z]at h;simp at h,of_decide_eq_true h.2.1,of_decide_eq_true h.2.2}
theorem jc.split{many:Int}{hs:List Str}{ws:List Int}{lns:List (List (Str×Nat))}(S:jc many hs ws lns){d:Nat}{ns:List Int}{w:Int}(h:eJ ws lns many (d:Int) ns w=true):jc many (dG hs d) (cW ws d w) (dU lns d ns)/\d<hs.9:=by
 unfold eJ at h;simp only[ś]at h
 let{n,A,v,x}:=h
 rw[ç]at A v x
 let{c1,E,B}:=wq v
 let{G,H,C}:=wq x
 have j:=S.w;have o:=S.l
 have hd:d<lns.9:=by
  unfold fB at n;rw[ś]at n;have:=of_decide_eq_true n.2
  lia
 have f:d<ws.9:=();have r:(dG hs d).9=hs.9+1:=by unfold dG;rw[É];rfl
 have a:lns.getD d []∈lns:=by
  rw[Ë,Ã hd];exact ñ hd
 have k:=S.e _ a
 have c:∀l∈(lns++[b0 ns (lns.getD d [])]).set d (b5 ns (lns.getD d [])),∀q∈l,q.2<hs.9:=λl hl=>by
  rcases wd5 hl with z |z
  .rcases ä.mp z with z |z
   .exact S.e l z
   .rw[Þ.mp z];exact λq a=>k q (eu a)
  .rw[z];exact λq a=>k q (eu a)
 refine{{by rw[r,Df,j],?_,λz y=>?_,λl hl q a=>?_,λi l hl=>?_},()}
 .unfold dU;rw[r,À,ŧ,É,o];rfl
 .unfold cW at y;rcases wd5 y with q |q
  .rcases ä.mp q with q |q
   .exact S.p z q
   .rw[Þ.mp q];lia
  .rw[q];lia
 .rw[r];unfold dU at hl
  let{m,s,rfl}:=Æ.mp hl
  rcases DB a with e |e
  .lia
  .have:=c m s q e
   lia
 .unfold dU at hl;rw[Ç]at hl
  cases e:((lns++[b0 ns (lns.getD d [])]).set d (b5 ns (lns.getD d [])))[i]? with
  |none=>rw[e]at hl;cases hl
  |some m=>
   rw[e]at hl;cases hl;have D:=c m (Ð e);rw[show lns.9=ws.length by lia,o6 f m (λq a=>by rw[j];exact D q a)]
   by_cases g:i=d
   .subst g;rw[Λ (by rw[É];lia)]at e;cases e;rw[sZ f];exact B
   .rw[wcJ (λz=>g z.symm)]at e
    by_cases t:i<lns.9
    .rw[ā t]at e;rw[pT () g];exact S.b i m e
    .have u:i=lns.9:=by
      have:=(Ñ.mp e).1;rw[É]at this;simp at this
      lia
     subst u;rw[ü (Ä _),Ď]at e;cases e;rw[show lns.9=ws.length by lia,t7 f];exact C
theorem kU:∀{hs:List Str} {lns:List (List (Str×Nat))} {i:Nat} {l:List (Str×Nat)},hs[i]?=ρ p->lns[i]?=ρ l->l.count z<=i3 p z hs lns
 |y::hs,x::lns,0,l,a,b=>by
  cases a;cases b;show _<=(if p=p then x.count z else 0)+_;rw[if_pos rfl]
  lia
 |h::hs,x::lns,i+1,l,a,b=>by
  have:=kU (z:=z) (hs:=hs) (lns:=lns) (i:=i) (by simpa using a) (by simpa using b);show _<=_+i3 p z hs lns
  lia
 |[],_,_,_,a,_=>by simp at a
 |_::_,[],_,_,_,b=>by simp at b
theorem xO.split{B:Str->List (Str×Str)}(h:xO B hs lns)(hl:lns.9=hs.9)(he:∀l∈lns,∀q∈l,q.2<hs.9)(hd:d<hs.9)(ns:List Int):xO B (dG hs d) (dU lns d ns):=by
 intro p w e
 have t:lns.getD d []∈lns:=by
  rw[Ë,Ã ()];exact ñ _
 have k:∀l∈(lns++[b0 ns (lns.getD d [])]).set d (b5 ns (lns.getD d [])),∀q∈l,q.2<lns.9:=λl b=>by
  rw[hl];rcases wd5 b with z |z
  .rcases ä.mp z with z |z
   .exact he l z
   .rw[Þ.mp z];exact λq c=>he _ t q (eu c)
  .rw[z];exact λq c=>he _ t q (eu c)
 have n:(hs++[hs.getD d ""]).getD d ""=hs.getD d "":=by
  rw[Ë,ā hd,<-Ë]
 have o:(lns++[b0 ns (lns.getD d [])]).getD d []=lns.getD d []:=by
  rw[Ë,ā (),<-Ë]
 unfold dG dU;rw[Bd p (z':=(w,if e=lns.length then d else e)) _ _ λl b=>t8 () w e l (k l b)];have r:=Bc p (w,if e=lns.length then d else e) (b5 ns (lns.getD d [])) (hs++[hs.getD d ""]) (lns++[b0 ns (lns.getD d [])]) d (by rw[É,É];simp[hl]) (by rw[É];lia);rw[n,o,yK p _ _ _ hs lns hl.symm]at r;have u:=oX (λi=>decide ((i:Int)∈ns)) (w,if e=lns.length then d else e) 0 (lns.getD d []);have y:(b5 ns (lns.getD d [])).count (w,if e=lns.length then d else e)+(b0 ns (lns.getD d [])).count (w,if e=lns.length then d else e)=(lns.getD d []).count (w,if e=lns.length then d else e):=u;have v:=h p w (if e=lns.length then d else e)
 have x:i3 p (w,if e=lns.length then d else e) (hs++[hs.getD d ""]) ((lns++[b0 ns (lns.getD d [])]).set d (b5 ns (lns.getD d [])))=i3 p (w,if e=lns.length then d else e) hs lns:=by
  by_cases j:hs.getD d ""=p
  .rw[if_pos j,if_pos j,if_pos j]at r
   lia
  .rw[if_neg j,if_neg j,if_neg j]at r
   lia
 rw[x,v]
 have m:p∈hs++[hs.getD d ""]↔p∈hs:=by
  rw[ä,Þ];refine{λz=>z.elim id λz=>?_,.inl};rw[z,Ë,Ã hd];exact ñ _
 have a:(hs++[hs.getD d ""]).9=hs.9+1:=by rw[É];rfl
 by_cases f:e=lns.9
 .rw[if_pos f]
  have s:(hs++[hs.getD d ""]).getD e ""=hs.getD d "":=by
   rw[f,hl,Ë,ü (Ä _),Ď];rfl
  rw[s,a];refine RV {λz=>{(),m.mpr z.2.1,z.2.2},λz=>{hd,m.mp z.2.1,z.2.2}}
 .rw[if_neg f]
  by_cases g:e<hs.9
  .have s:(hs++[hs.getD d ""]).getD e ""=hs.getD e "":=by
    rw[Ë,ā g,<-Ë]
   rw[s,a];refine RV {λz=>{(),m.mpr z.2.1,z.2.2},λz=>{g,m.mp z.2.1,z.2.2}}
  .rw[if_neg (λz=>g z.1),if_neg (λz=>by have:=z.1;lia)]
theorem qc:∀{l:List (Str×Str)},(l.map (·.1)).Nodup->l.Nodup
 |[],_=>΢
 |q::l,h=>by
  rw[Ó,Đ]at h;exact Đ.mpr {λz=>h.1 (Æ.mpr ⟨q,z,rfl⟩),qc h.2}
theorem Jy{f:Str->Int}(hn:∀p∈ls,0<=f p)(p:Str):bg ((av ls f).map f) (gT g ws ss ls n (av ls f) p)=iA g ws ss ls n f p:=by
 delta iA;rw[kF (λq:Str×Str=>f q.2) (aX g ws ss ls n p) λq a=>hn _ (dW a)];delta bg gT;rw[Î]
 have e:(aX g ws ss ls n p).filter (λq=>decide (q.2∈av ls f))=(aX g ws ss ls n p).filter λq=>decide (0<f q.2):=whO λq a=>by
  delta av;exact decide_eq_decide.mpr (by rw[ß];exact{λz=>of_decide_eq_true z.2,λz=>{dW a,decide_eq_true z}})
 rw[e];refine congrArg List.sum (ĕ λq a=>?_)
 have b:q.2∈av ls f:=by
  delta av;have:=ß.mp a;exact ß.mpr {dW this.1,this.2}
 show ((av ls f).map f).getD ((av ls f).idxOf q.2) 0=f q.2;rw[Ë,Ç,(nR b).1];rfl
theorem yW(h:∀d∈S,d∈T):∀g:List (Str×Nat),(d5 S g).9<=(d5 T g).9
 |[]=>Ä _
 |q::g=>by
  have a:=yW h g;unfold d5 at a ⊢
  by_cases b:q.2∈S
  .rw[ĥ (by exact decide_eq_true b),ĥ (by exact decide_eq_true (h _ b))];exact Nat.succ_le_succ a
  .rw[Ľ (by simpa using b)]
   by_cases c:q.2∈T
   .rw[ĥ (by exact decide_eq_true c)];exact whP a
   .rw[Ľ (by simpa using c)];exact a
theorem wt{f:Nat->Int}:∀ns:List Nat,(∀n∈ns,f n<=h)->x∈ns->f x<h->(ns.map f).sum<(ns.9:Int)*h
 |[],_,a,_=>nomatch a
 |n::ns,c,a,b=>by
  have h0:=c n (Ø ..);rw[Ó,ú,ê,Ō,wgu];show _<_+1*h;rcases à.mp a with e |a
  .have g:=oZ ns λp d=>c p (Ô _ d);rw[e]at b
   lia
  .have g:=wt ns (λp d=>c p (Ô _ d)) a b
   lia
theorem Jz:∀{a b:List Nat},nI a=nI b->a=b
 |[],[],_=>rfl
 |[],_::_,h=>nomatch h
 |_::_,[],h=>nomatch h
 |x::a,y::b,h=>by
  unfold nI at h;rw[Ó,Ó]at h;injection h with d c
  rw[Jz (a:=a) (b:=b) c,show x=y by lia]
theorem wu{ls g:List Str}{f:Str->Int}(h:∀p∈ls,0<=f p):∀p∈ls,0<=du g f p:=λp a=>by
 delta du;split
 .exact h p a
 .exact θ _
theorem Bv{ls g:List Str}{f:Str->Int}(h:∀p∈ls,0<=f p):∀p∈ls,du g f p<=f p:=λp a=>by
 delta du;split
 .exact θ _
 .exact h p a
theorem Ge{ls g:List Str}{f:Str->Int}(h:∀p∈ls,0<=f p):(ls.map (du g f)).sum<=(ls.map f).sum:=vT ls (Bv h)
theorem Gf{ls:List Str}{f:Str->Int}{rs:List Nat}(h:∀p∈ls,0<=f p)(hl:∀d∈rs,d<(av ls f).9)(g:rs≠[]):0<(ls.map (du (rs.map λd=>(av ls f).getD d "") f)).sum:=by
 cases rs with
 |nil=>exact absurd rfl g
 |cons d rs=>
  have hd:=hl d (Ø ..)
  have a:(av ls f).getD d ""∈av ls f:=by
   rw[Ë,Ã hd];exact ñ hd
  let{b,c}:=ß.mp a
  refine vU ls (wu h) b ?_;delta du;rw[if_pos (Æ.mpr {d,Ø ..,rfl})];exact of_decide_eq_true c
theorem su(a b:List Nat):uq ((nI a).map V.int) ((nI b).map V.int)=decide (a=b):=by
 rw[yN];exact decide_eq_decide.mpr {Jz,λe=>by rw[e]}
theorem nodup_map_on{α β:Type}{f:α->β}:∀{l:List α},l.Nodup->(∀a∈l,∀b∈l,f a=f b->a=b)->(l.map f).Nodup
 |[],_,_=>΢
 |a::l,h,d=>by
  have g:=Đ.mp h;rw[Ó];refine Đ.mpr {λz=>?_,nodup_map_on g.2 λx i y j=>d x (Ô _ i) y (Ô _ j)}
  let{b,c,e}:=Æ.mp z
  have:=d b (Ô _ c) a (Ø ..) e;rw[this]at c;exact g.1 c
theorem Bw:∀{m:Nat},i0<m->(restOf m i0).9=m-1
 |m+1,h=>by
  unfold restOf;rw[Δ,ń,É]
  by_cases e:i0=m
  .subst e;have b:(Ö i0).filter (λn=>decide (n≠i0))=Ö i0:=ĝ.mpr λn hn=>decide_eq_true (by grind);rw[b,Ľ (by simp),ì];rfl
  .have a:=Bw (i0:=i0) (m:=m) ();unfold restOf at a;rw[a,ĥ (by grind)];show m-1+1=_
   lia
theorem By(h:i0<m)(hk:k+1<=m):(numsOf m i0 k).9=k+1:=by
 grind [numsOf,ê,Bw]
noncomputable def A7(s:zX):kj:=.tup [.at (.int (s.1:Int)),o7 (nI s.2.1),.at (.int s.2.2)]
structure p6(K:Á)(C CS:Addr)(H:Hp)(x:Addr)(m:List (Str×Int))(rB:List zX)(ks:List Nat)(hs:List Str)(ws:List Int)(lns:List (List (Str×Nat))):Prop where
 ex:∃dx a b c d,H x=ρ (.ins C dx (vY a b c d))/\H a=ρ (.dK (bK m))/\bN K H (.lst (rB.map A7)) (.ref b)/\bN K H (o7 (nI ks)) (.ref c)/\cp K CS H d hs ws lns
theorem qe(s:a8 H g):a8 (gG H b) (gG g b):=λc o e=>by
 unfold gG at e ⊢
 by_cases h:c=b
 .rw[if_pos h]at e;cases e
 .rw[if_neg h]at e ⊢;exact s _ _ e
theorem wx:a8 (gG H b) H:=fE λ_ _ e _=>e
theorem F4(h:H b=ρ o):a8 (aM H g) (gG g b):=λc d e=>by
 have a:=ck _ _ _ _ e;refine fY a λz=>?_;unfold aM at e;rw[z,h]at e;cases e
theorem F5(g:H t=ρ (.tup [.int (d:Int),.ref l,.int w]))(j:H l=ρ (.lst ((nI ns).map V.int))):bN K H (A7 (d,ns,w)) (.ref t):=
 {t,1,g,_,1,⟨rfl,rfl⟩,_,1,jS j,_,1,⟨rfl,rfl⟩,rfl}
theorem fI.step{g:Str}{bw ss ls:List Str}{many:Int}{n:Nat}{f:Str->Int}{j:List zX}{hs:List Str}{ws:List Int}{lns:List (List (Str×Nat))}(h:fI g bw ss ls many n f j hs ws lns){d:Nat}{ns:List Nat}{w:Int}(ok:eJ ws lns many (d:Int) (nI ns) w=true)(hn:ns.9<=1000) :
 fI g bw ss ls many n f (j++[(d,ns,w)]) (dG hs d) (cW ws d w) (dU lns d (nI ns)):=by
 let{b,hd}:=h.b.split ok
 have hw:=h.b.w;have hl:=h.b.l;refine{.snoc h.rn ok hn,b,h.cv.split hl h.b.e hd (nI ns),?_,?_,λp a=>?_}
 .rw[Dg ()];exact h.sm
 .have:=h.sl;unfold dG;rw[É,É];show j.9+1+_=hs.9+1
  lia
 .unfold dG at a;rcases ä.mp a with a |a
  .exact h.sb p a
  .rw[Þ.mp a,Ë,Ã hd];exact h.sb _ (ñ hd)
theorem fI.len{f:Str->Int}(h:fI g bw ss ls many n f j hs ws lns):(hs.9:Int)<=(ls.map f).sum:=by
 have:=vZ h.b.p;have a:=h.sm;have c:=h.b.w
 lia
def Gg(g:Str)(bw ss:List Str)(many:Int)(n:Nat):Prop:=∀j:Nat,1<=j->(j:Int)<=24->¬iD g bw ss (j*n) "" < many^j
noncomputable def lI(wl:List (List (Str×Nat)))(s:Str×Nat)(t:Nat):Str×Nat:=(s.1++((wl.getD s.2 []).getD t ("",0)).1,((wl.getD s.2 []).getD t ("",0)).2)
noncomputable def cP(wl:List (List (Str×Nat)))(d:Nat)(ts:List Nat):Str×Nat:=ts.foldl (lI wl) ("",d)
theorem yX(wl:List (List (Str×Nat)))(d:Nat)(ts:List Nat)(t:Nat):cP wl d (ts++[t])=lI wl (cP wl d ts) t:=by
 unfold cP;rw[weo];rfl
theorem Mu(h:k∈g):(nI g)[g.idxOf k]?=ρ (k:Int)/\∀j:Nat,j<g.idxOf k->(nI g)[j]?≠ρ (k:Int):=by
 have hl:g.idxOf k<g.9:=ν.mpr h;unfold nI;refine{by rw[Ç,Ã hl,Ε hl];rfl,λj c e=>?_};have a:j<g.9:=1.0;rw[Ç,Ã a]at e;have b:g[j]=k:=by have:((g[j]:Nat):Int)=k:=Ò e;omega
 have:=w6 a;rw[b]at this;omega
theorem JA(wl:List (List (Str×Nat))):∀(b:List Nat) (r:Str) (e:Nat),b.foldl (lI wl) (r,e)=(r++(b.foldl (lI wl) ("",e)).1,(b.foldl (lI wl) ("",e)).2):=by intro b;induction b<;>grind [kL,Ů,lI,wl,uP,f7]
theorem wy{p:Str}{z:Str×Nat}:∀{hs:List Str} {lns:List (List (Str×Nat))} {i j:Nat} {l m:List (Str×Nat)},i<j->hs[i]?=ρ p->hs[j]?=ρ p->lns[i]?=ρ l->lns[j]?=ρ m->l.count z+m.count z<=i3 p z hs lns
 |[],_,_,_,_,_,_,h,_,_,_=>nomatch h
 |_,[],_,_,_,_,_,_,_,h,_=>nomatch h
 |h::hs,k::lns,0,j+1,l,m,_,a,b,c,d=>by
  cases a;cases c;have:=kU (z:=z) (p:=p) (hs:=hs) (lns:=lns) (i:=j) (by simpa using b) (by simpa using d);show _<=(if p=p then k.count z else 0)+_;rw[if_pos rfl]
  lia
 |h::hs,k::lns,i+1,j+1,l,m,q,a,b,c,d=>by
  have:=wy (z:=z) (hs:=hs) (lns:=lns) (i:=i) (j:=j) (l:=l) (m:=m) () (by simpa using a) (by simpa using b) (by simpa using c) (by simpa using d);show _<=(if h=p then k.count z else 0)+_
  lia
theorem xO.most{B:Str->List (Str×Str)}{hs:List Str}{lns:List (List (Str×Nat))}(h:xO B hs lns)(p:Str)(z:Str×Nat):i3 p z hs lns<=1:=by
 have:=h p z.1 z.2;rw[show (z.1,z.2)=z from rfl]at this;rw[this];split<;>lia
theorem xO.one{B:Str->List (Str×Str)}{hs:List Str}{lns:List (List (Str×Nat))}(h:xO B hs lns)(hl:lns.9=hs.9){d d':Nat}(hd:d<hs.9)(g:d'<hs.9)(e:hs.getD d ""=hs.getD d' ""){q:Str×Nat}(j:q∈lns.getD d [])(l:q∈lns.getD d' []):d=d':=by
 have c1:=ł.mpr j;have f:=ł.mpr l;have a:=getD_some ("":Str) hd;have b:=getD_some ("":Str) g;rw[<-e]at b;have m:=h.most (hs.getD d "") q;have l1:=getD_some [] (show d<lns.length by lia);have c:=getD_some [] (show d'<lns.length by lia);rcases wer d d' with z |z |z
 .have:=wy (z:=q) z a b l1 c;lia
 .exact z
 .have:=wy (z:=q) z b a c l1;lia
theorem xO.cnt{B:Str->List (Str×Str)}{hs:List Str}{lns:List (List (Str×Nat))}(h:xO B hs lns)(hl:lns.9=hs.9){d:Nat}(hd:d<hs.9)(q:Str×Nat):(lns.getD d []).count q<=1:=
 Í (kU (getD_some ("":Str) hd) (getD_some [] (show d<lns.length by lia))) (h.most _ q)
def Gh(hs:List Str)(lns:List (List (Str×Nat)))(s:Nat):Prop:=∀d d' ws,d<lns.9->d'<lns.9->hs.getD d ""=hs.getD d' ""->ws.9=s->jO lns d ws->jO lns d' ws->d=d'
theorem wA{l:List (Str×Nat)}{w:Str}{d t e:Nat}(hl:∀q∈l,q.2<t)(h:(w,e)∈fi d t l):(w,uw d t e)∈l:=by
 unfold fi at h
 let{q,a,h}:=Ŧ.mp h
 have:=hl q a;unfold uw
 by_cases c:q.2=d
 .rw[if_pos c]at h;rcases à.mp h with z |z
  .rw[<-z]at a this;rw[if_neg (show ¬e=t from Ù this)];exact a
  .have z:=Þ.mp z
   let{rfl,rfl}:=ġ z
   rw[if_pos rfl,<-c];exact a
 .rw[if_neg c]at h;have z:=Þ.mp h;rw[<-z]at a this;rw[if_neg (show ¬e=t from Ù this)];exact a
theorem nT{lns:List (List (Str×Nat))}{d i e:Nat}{ns:List Int}{w:Str}(hd:d<lns.9)(hi:i<lns.9+1)(he:∀l∈lns,∀q∈l,q.2<lns.9)(h:(w,e)∈(dU lns d ns).getD i []) :
 (w,uw d lns.length e)∈lns.getD (uw d lns.length i) []/\(i=d->(w,uw d lns.length e)∈b5 ns (lns.getD d []))/\(i=lns.9->(w,uw d lns.length e)∈b0 ns (lns.getD d [])):=by
 have g:∀j,∀q∈lns.getD j [],q.2<lns.9:=λj q f=>by
  by_cases z:j<lns.9
  .exact he _ (Ð (getD_some [] z)) q f
  .rw[Ë,Χ 1.0]at f;cases f
 rw[FR hd hi]at h
 by_cases a:i=d
 .rw[if_pos a]at h;have c:=wA (λq f=>g d q (eu f)) h;refine{?_,λ_=>c,λz=>absurd z 1.0};have:uw d lns.length i=d:=by unfold uw;rw[if_neg 1.0];exact a
  rw[this];exact eu c
 .rw[if_neg a]at h
  by_cases b:i=lns.9
  .rw[if_pos b]at h;have c:=wA (λq f=>g d q (eu f)) h;refine{?_,λz=>absurd z a,λ_=>c};have:uw d lns.length i=d:=by unfold uw;rw[if_pos b]
   rw[this];exact eu c
  .rw[if_neg b]at h;refine{?_,λz=>absurd z a,λz=>absurd z b};have:uw d lns.length i=i:=by unfold uw;rw[if_neg b]
   rw[this];exact wA (g i) h
theorem sv{lns:List (List (Str×Nat))}{d i e:Nat}{ns:List Int}{w:Str}(hd:d<lns.9)(hi:i<lns.9+1)(he:∀l∈lns,∀q∈l,q.2<lns.9)(h:(w,e)∈(dU lns d ns).getD i []):e<lns.9+1:=by
 have a:=(nT hd hi he h).1
 by_cases z:e=lns.9
 .lia
 .have:uw d lns.length e=e:=by unfold uw;rw[if_neg z]
  rw[this]at a;have b:uw d lns.length i<lns.9:=by unfold uw;split<;>lia
  have:=he _ (Ð (getD_some [] b)) _ a;have:e<lns.9:=this
  lia
theorem A8{lns:List (List (Str×Nat))}{d:Nat}{ns:List Int}(hd:d<lns.9)(he:∀l∈lns,∀q∈l,q.2<lns.9):∀(ws:List Str) (i:Nat),i<lns.9+1->jO (dU lns d ns) i ws->jO lns (uw d lns.length i) ws
 |[],_,_,_=>trivial
 |w::ws,i,hi,⟨e,h,r⟩=>{uw d lns.length e,(nT hd hi he h).1,A8 hd he ws e (sv hd hi he h) r}
theorem Gh.split{B:Str->List (Str×Str)}{hs:List Str}{lns:List (List (Str×Nat))}{m d:Nat}{F:Str->Str->Str}(D:Gh hs lns m)(C:xO B hs lns)(hl:lns.9=hs.9)(he:∀l∈lns,∀q∈l,q.2<hs.9)(hd:d<hs.9)(I:∀i,i<hs.9->∀q∈lns.getD i [],hs.getD q.2 ""=F (hs.getD i "") q.1)(ns:List Int):Gh (dG hs d) (dU lns d ns) (m+1):=by
 intro i j f hi b n a r s;have sl:(dU lns d ns).9=lns.9+1:=by unfold dU;rw[À,ŧ,É];rfl
 rw[sl]at hi b;rw[<-hl]at he hd;have H:=λk (hk:k<lns.9+1)=>FT (hs:=hs) (d:=d) (i:=k) ()
 cases f with
 |nil=>cases a
 |cons w f=>
  let{e,u,o}:=r
  let{v,z,p}:=s
  let{a1,a2,a3}:=nT hd hi he u
  let{b1,A,E}:=nT hd b he z
  have o:=A8 hd he f e (sv hd hi he u) o;have p:=A8 hd he f v (sv hd b he z) p;rw[H i hi,H j b,<-hl]at n;have lt:∀k,k<lns.9+1->uw d lns.length k<lns.9:=λk hk=>by unfold uw;split<;>lia
  have G:=I _ (by have:=lt i hi;lia) _ a1;have J:=I _ (by have:=lt j b;lia) _ b1;have L:=he _ (Ð (getD_some [] (lt i hi))) _ a1;have M:=he _ (Ð (getD_some [] (lt j b))) _ b1;have t:=D _ _ f L M (by rw[G,J,n]) (wir a) o p;have t:uw d lns.length e=uw d lns.length v:=t;rw[<-t]at b1 A E;have c:=C.one hl (by have:=lt i hi;lia) (by have:=lt j b;lia) n a1 b1
  have hc:∀{q},q∈b5 ns (lns.getD d [])->q∈b0 ns (lns.getD d [])->False:=λ{q} x y=>by
   have c1:=ł.mpr x;have N:=ł.mpr y;have:=C.cnt hl (by lia:d<hs.9) q;have:=oX (λi=>decide ((i:Int)∈ns)) q 0 (lns.getD d []);unfold b5 at c1;unfold b0 at N
   lia
  unfold uw at c
  by_cases h:i=lns.9
  .by_cases g:j=lns.9
   .lia
   .rw[if_pos h,if_neg g]at c;exact(hc (A c.symm) (a3 h)).elim
  .by_cases g:j=lns.9
   .rw[if_neg h,if_pos g]at c;exact(hc (a2 c) (E g)).elim
   .rw[if_neg h,if_neg g]at c;exact c
theorem JB{lns:List (List (Str×Nat))}{g:List Nat}{m d:Nat}{q:Str×Nat}(h:q∈(fH lns g m).getD d []):d<g.9:=by
 refine wcE λz=>?_;rw[Ë,Χ (by rw[we];omega)]at h;cases h
theorem A9{lns:List (List (Str×Nat))}{g:List Nat}{m d e:Nat}{w:Str}(h:(w,e)∈(fH lns g m).getD d []):e<g.9/\(w,g.getD e 0)∈lns.getD (g.getD d 0) []:=by
 rw[NN (JB h)]at h;unfold gg at h
 let{q,b,c}:=Æ.mp h
 let{f,a}:=ß.mp (ő b)
 have a:=of_decide_eq_true a
 let{rfl,rfl}:=ġ c
 have hl:=ν.mpr a;refine{hl,?_};have:g.getD (g.idxOf q.2) 0=q.2:=by rw[Ë,Ã hl];exact Ε hl
 rw[this];exact f
theorem Aa{lns:List (List (Str×Nat))}{g:List Nat}{m:Nat}:∀(ws:List Str) (d:Nat),jO (fH lns g m) d ws->jO lns (g.getD d 0) ws
 |[],_,_=>trivial
 |_::ws,_,⟨e,h,r⟩=>{g.getD e 0,(A9 h).2,Aa ws e r}
theorem yY:∀{l:List (Str×Nat)},(∀q,l.count q<=1)->l.Nodup
 |[],_=>΢
 |a::l,h=>by
  refine Đ.mpr {λz=>?_,yY λq=>Í (List.count_le_count_cons ..) (h q)};have b:=h a;rw[List.count_cons_self]at b;have:=ł.mpr z
  lia
theorem iS(wl:List (List (Str×Nat))):∀(ts:List Nat) (d:Nat),cP wl d ts=(cat (eS wl d ts),pZ wl d ts)
 |[],_=>rfl
 |t::ts,d=>by
  have h:=iS wl ts (gk wl d t).2;unfold cP at h ⊢;rw[Ů,show lI wl ("",d) t=(("":Str)++(gk wl d t).1,(gk wl d t).2) from rfl,uP,JA,h];rfl
theorem Gi{ss:List Str}{a p:Str}(he:("":Str)∈ss)(h:∀s∈ss,s.9<=p.9):lend ss (a++p)=lend ss p:=by
 have key:∀r:Str,∃k,k<=r.9/\lend ss r=cm r k/\cm r k∈ss/\∀m,m<k->cm r m∉ss:=by
  intro r
  have i:∃k,k<=r.9/\cm r k∈ss/\∀m,m<k->cm r m∉ss:=by
   have:∀j,j<=r.9->(∃k,k<=j/\cm r k∈ss)->∃k,k<=j/\cm r k∈ss/\∀m,m<k->cm r m∉ss:=by
    intro j
    induction j with
    |zero=>rintro _ ⟨k,hk,f⟩;exact{k,hk,f,λm d=>absurd d ()}
    |succ j l=>
     rintro v ⟨k,hk,f⟩
     by_cases c:∃k,k<=j/\cm r k∈ss
     .let{k,a,b}:=l () c
      exact{k,(),b}
     .exact{k,hk,f,λm d z=>c {m,(),z}}
   let{k,a,b}:=this r.length (Ä _) {r.9,Ä _,by
    have:cm r r.9="":=dA (by rw[hH];exact wev (Ν (aP r)))
    rw[this];exact he}
   exact⟨k,a,b⟩
  let{k,a,b,c}:=i
  exact{k,a,by unfold lend;rw[vJ b c a],b,c}
 let{k,w,n,g,o}:=key (a++p)
 let{m,m1,q,t,u}:=key p
 rw[n,q];have hd:∀j,cm (a++p) (a.9+j)=cm p j:=λj=>dA (by rw[hH,hH,aV,<-aP a,wi9];simp)
 have hk:a.9<=k:=by
  have:=h _ g;rw[<-aP,hH,ē,aP,len_app]at this
  lia
 have e:a.9+m=k:=by
  rcases wer (a.9+m) k with z |z |z
  .exact absurd (by rw[hd];exact t) (o _ z)
  .exact z
  .have:=hd (k-a.9);rw[show a.9+(k-a.9)=k by lia]at this;exact absurd (by rw[<-this];exact g) (u (k-a.9) ())
 rw[<-e,hd]
theorem sx{many:Int}(m1:1<=many){ts:List Nat}(h:∀t∈ts,(t:Int)<many)(b c:Nat):∀t∈ig b c ts,(t:Int)<many:=λt a=>by
 unfold ig at a;rcases ä.mp a with z |z
 .rw[(η.mp z).2];omega
 .rcases ä.mp z with z |z
  .exact h t z
  .rw[(η.mp z).2];omega
noncomputable def Wr.o(R:Wr):Str×Nat:=cP R.wl 0 (Ý R.b 0)
theorem Gj{ss:List Str}(h:lF bw n b)(hn:1<=n)(g:ss.Perm (bU bw "" bw)):∀s∈ss,s.9<=n*b:=by
 intro s a
 let{_,M,{u,_},e}:=h
 rcases(jA _).mp (g.mem_iff.mp a) with rfl |⟨w,hw,i,hi,rfl,_⟩
 .exact Û _
 .have d:=u w hw;have f:(bT w (1+i)).9=min (1+i) w.9:=by rw[<-aP,f5,Ú,aP]
  have j:M-1<=(n:Int)*(b:Int):=by
   rw[if_neg 1.0]at e;have c:=wgJ (M-1+(n:Int)-1) (n:Int);have k:=Ę (M-1+(n:Int)-1) (show 0<(n:Int) by omega);rw[<-e]at c;omega
  have l:((n*b:Nat):Int)=(n:Int)*(b:Int):=ą ..;omega
theorem iC.put{wl:List (List (Str×Nat))}(h:iC H a wl)(j:H z=ρ (.ins C d f))(o:HO):iC (upd H z o) a wl:=by
 let{g,k,m}:=h
 have n:∀{c u},H c=ρ u->(∀x y q,u≠.ins x y q)->(upd H z o) c=ρ u:=λ{c u} e q=>by rw[ae (λy=>by rw[y,j]at e;cases e;exact q _ _ _ rfl)];exact e
 refine{g,n k (λ_ _ _ z=>nomatch z),λw=>?_};rcases m w with z |⟨l,p,ps,a,b,c,d⟩
 .exact .inl z
 .exact .inr {l,p,ps,a,n b (λ_ _ _ z=>nomatch z),{c.1,λi r s x y=>n (c.2 i r s x y) (λ_ _ _ z=>nomatch z)},d}
structure eK(H0 H:Hp)(a:Addr)(done:List xP):Prop where
 s:a8 H0 H
 fa:H0 a=τ
 ex:∃kvs:List (Key×V),H a=ρ (.dK kvs)/\kvs.9<=done.9 /\
  (∀w:Str,(bD kvs (Å w:Key)=τ/\pairsOf done w=[])\/∃(l:Addr) (rs:List Addr),bD kvs (Å w:Key)=ρ (.ref l)/\H0 l=τ/\H l=ρ (.lst (rs.map V.ref))/\b8 H rs ((pairsOf done w).map jP)) /\
  ∀(w v:Str) (l:Addr),bD kvs (Å w:Key)=ρ (.ref l)->bD kvs (Å v:Key)=ρ (.ref l)->w=v
theorem b8.app{H:Hp}{rs:List Addr}{g:List (List V)}(h:b8 H rs g)(j:H r=ρ (.tup xs)):b8 H (rs++[r]) (g++[xs]):=by
 refine{by rw[É,É,h.1];rfl,λi q c a b=>?_}
 by_cases z:i<rs.9
 .rw[ā z]at a;rw[ā (by rw[<-h.1];exact z)]at b;exact h.2 i q c a b
 .rw[ü 1.0]at a;rw[ü (by rw[<-h.1];omega)]at b
  have e:i-rs.9=0:=by
   have:=(Ñ.mp a).1;rw[Ζ]at this;omega
  rw[<-h.1]at b;rw[e]at a b;cases a;cases b;exact j
theorem eK.add{p H:Hp}{done:List xP}{w:Str}{i e:Nat}{l:Addr}{rs:List Addr}{g:List (Key×V)}(s:a8 p H)(fa:p a=τ)(hk:H a=ρ (.dK g))(hl:g.9<=done.9+1)
 (hw:bD g (Å w:Key)=ρ (.ref l)) (fl:p l=τ) (t:H l=ρ (.lst (rs.map V.ref))) (C:b8 H rs ((pairsOf done w).map jP))
 (I:∀v:Str,v≠w->(bD g (Å v:Key)=τ/\pairsOf done v=[])\/∃(l:Addr) (rs:List Addr),bD g (Å v:Key)=ρ (.ref l)/\p l=τ/\H l=ρ (.lst (rs.map V.ref))/\b8 H rs ((pairsOf done v).map jP))
 (hi:∀(w v:Str) (l:Addr),bD g (Å w:Key)=ρ (.ref l)->bD g (Å v:Key)=ρ (.ref l)->w=v) (j:H r=τ) :
 eK p (upd (upd H r (.tup (jP (i,e)))) l (.lst (rs.map V.ref++[.ref r]))) a (done++[(i,w,e)]):=by
 have k:r≠l:=λz=>by rw[z,t]at j;cases j
 have m:a≠l:=λz=>by rw[z,t]at hk;cases hk
 have n:a≠r:=λz=>by rw[z,j]at hk;cases hk
 have c:∀{q:Addr} {d:List V},H q=ρ (.tup d)->(upd (upd H r (.tup (jP (i,e)))) l (.lst (rs.map V.ref++[.ref r]))) q=ρ (.tup d):=λ{q d} h=>by
  have n1:q≠l:=λz=>by rw[z,t]at h;cases h
  have f:q≠r:=λz=>by rw[z,j]at h;cases h
  rw[ae n1,ae f];exact h
 refine{λb o h=>?_,fa,g,by rw[ae m,ae n];exact hk,by rw[É];exact hl,λv=>?_,hi}
 .have n1:b≠l:=λz=>by rw[z,fl]at h;cases h
  have f:b≠r:=λz=>by have:=s _ _ h;rw[z,j]at this;cases this
  rw[ae n1,ae f];exact s _ _ h
 rw[zZ]
 by_cases z:v=w
 .subst z;rw[if_pos rfl];refine .inr {l,rs++[r],hw,fl,by rw[a6,Ü];rfl,?_};rw[Ü];have B:b8 (upd (upd H r (.tup (jP (i,e)))) l (.lst (rs.map V.ref++[.ref r]))) rs ((pairsOf done v).map jP):={C.1,λi q d a b=>c (C.2 i q d a b)};exact b8.app B (by rw[ae k,a6])
 .rw[if_neg z];rcases I v z with y |⟨u,x,a1,a2,a3,A⟩
  .exact .inl y
  .have n1:u≠l:=λy=>z (hi v w l (by rw[<-y];exact a1) hw);have f:u≠r:=λy=>by rw[y,j]at a3;cases a3
   exact .inr {u,x,a1,a2,by rw[ae n1,ae f];exact a3,{A.1,λi q d a b=>c (A.2 i q d a b)}}
theorem JC{g j l:Hp}(s:a8 g j):a8 g (mC g j l):=λc o h=>by
 unfold mC;rw[s _ _ h];exact h
theorem JD{l g j:Hp}:a8 (aM g j) (mC l g j):=λc o h=>by
 unfold aM at h;unfold mC
 cases e:g c with
 |none=>rw[e]at h;exact h
 |some u=>rw[e]at h;cases h
theorem eK.back{g B H:Hp}{done:List xP}(M:eK B H a done)(s:a8 g B):eK g H a done:=by
 let{h0,fa,b,c,d,e,f}:=M
 refine{s.trans h0,none_of s fa,b,c,d,λw=>?_,f};rcases e w with z |⟨l,h,a1,a2,a3⟩
 .exact .inl z
 .exact .inr {l,h,a1,none_of s a2,a3}
theorem Gk{wl:List (List (Str×Nat))}{i e:Nat}{w:Str}:(i,w,e)∈dX wl wl.length↔(w,e)∈wl.getD i []:=by
 delta dX;constructor
 .intro h
  let{d,_,h}:=Ŧ.mp h
  let{q,a,b}:=Æ.mp h
  let{rfl,c}:=ġ b
  let{rfl,rfl}:=ġ c
  exact a
 .intro h;refine Ŧ.mpr {i,Ą.mpr ?_,Æ.mpr {(w,e),h,rfl}};refine wcE λz=>?_;rw[Ë,Χ 1.0]at h;cases h
theorem eK.done{g H:Hp}{wl:List (List (Str×Nat))}(h:eK g H a (dX wl wl.9))(hl:(dX wl wl.9).9<=1000):iC H a wl:=by
 let{_,_,b,d,m,f,n}:=h
 refine{b,d,λw=>?_};have c:=λi e=>(Bg (dX wl wl.9) w i e).trans Gk;rcases f w with⟨z,y⟩ |⟨l,j,a1,a2,a3,k⟩
 .refine .inl {z,λi e q=>?_};have:=(c i e).mpr q;rw[y]at this;cases this
 .refine .inr {l,j,_,a1,a3,k,?_,c};delta pairsOf;rw[À];exact Í (Ħ ..) hl
theorem JE{g:Str}:∀(n:Nat) (r:Str),r∈La g n->∀c∈ch r,c∈ch g
 |0,r,h,c,hc=>by
  rw[Þ.mp h]at hc;exact nomatch hc
 |n+1,r,h,c,hc=>by
  let{p,a,h}:=Ŧ.mp h
  let{d,hd,rfl}:=Æ.mp h
  rw[aV]at hc;rcases ä.mp hc with z |z
  .exact JE n p a c z
  .rw[Þ.mp z];exact hd
theorem Gm(ts:List Nat):(Ö ts.9).map (λk=>V.int ((ts.getD k 0:Nat):Int))=(nI ts).map V.int:=by
 refine wfW (by rw[À,ì,À,cM]) λi b a=>?_;rw[À,cM]at a;rw[Ρ,wfi,Ρ];unfold nI;rw[Ρ,Ë,Ã a];rfl
theorem Ss{bw:List Str}{n b:Nat}(h:lF bw n b)(hw:∀w∈bw,w.9<=5)(hn:1<=n):n*b<=n+3:=by
 let{_,M,{_,a},e}:=h
 have d:M<=5:=by
  rcases a with⟨a,_⟩ |⟨w,c,a⟩
  .omega
  .have:=hw w c;omega
 have c:(n:Int)*(((if 0>M-1 then 0 else M-1)+(n:Int)-1)/(n:Int))<=(if 0>M-1 then 0 else M-1)+(n:Int)-1:=Int.mul_ediv_self_le 1.0;rw[<-e]at c;have f:(if 0>M-1 then 0 else M-1)<=4:=by split<;>omega
 have g:((n*b:Nat):Int)=(n:Int)*(b:Int):=ą ..;omega
theorem F6{g r:Str}{k i:Nat}(l:∀c∈ch r,c∈ch g)(hk:k∉ch g)(hi:i<=r.9):Out g (bT r i++({#[k]}:Str)++cm r i) i:=by
 have hl:((ch r).take i).9=i:=by rw[Ú,aP];omega
 refine{{k,?_,hk},λj c a hc=>?_}
 .rw[Dv,ü 1.0,hl,Ď];rfl
 .rw[Dv,ā 1.0]at hc;exact l c (ő (Ð hc))
section
variable{g:Str}{ws ss:List Str}
theorem Pm(n:Nat):∀p,0<=iD g ws ss n p:=by
 induction n with
 |zero=>intro p;show (0:Int)<=1;decide
 |succ n a=>intro p;exact vN λe _=>a e
end
theorem DC{m j N:Nat}{many wide:Int}{g:Str}{bw ss:List Str}(l:gO m many wide)(b:(j:Int)<=24)(c:iD g bw ss N "" < many^j):(iD g bw ss N "").natAbs.log2<1920:=by
 have h0:0<=iD g bw ss N "":=Pm N "";obtain⟨k,hk⟩:∃k:Nat,many=k:={many.toNat,by have:=l.a;lia};have d:k<=8:=by have:=l.b;lia
 rw[hk,<-we0]at c;have e:k^j<=8^24:=Í (Nat.pow_le_pow_left d j) (wgY ⋯ ())
 have f:(iD g bw ss N "").natAbs<2^72:=by
  grind
 have h:=Nat.log2_lt (n:=(iD g bw ss N "").natAbs) (k:=72)
 by_cases z:(iD g bw ss N "").natAbs=0
 .rw[z];decide
 .grind
end _B
namespace _S
inductive Mv(vs:List V)(H:Hp)(Q:VK)(eF:XK):Prop
 |mk (a b) (_:vs=[.str a,.str b]) (_:a.9<=1000) (_:∀H',a8 H H'->Q (.bl ((ch a).all λc=>decide (c∈ch b))) H')
inductive Su(vs:List V)(H:Hp)(Q:VK)(eF:XK):Prop
 |mk (x) (_:vs=[.str x]) (_:yS x) (_:∀H',a8 H H'->Q (.bl true) H')
inductive Sv(vs:List V)(H:Hp)(Q:VK)(eF:XK):Prop
 |mk (t g) (_:vs=[.str t,.str g]) (_:A3 g t) (_:∀H',a8 H H'->Q (.bl true) H')
structure b4(C:Addr)(H:Hp)(x:Addr)(g:Str)(ws ss ls:List Str):Prop where
 ex:∃(dx b d q:Addr) (mv:List (Str×Addr)),H x=ρ (.ins C dx (Bi g b d q))/\H b=ρ (.lst (ws.map V.str))/\H d=ρ (.dK (cN mv))/\mv.map (·.1)=ss/\(∀m∈mv,H m.2=ρ (.dK (rowOf g ws ss m.1)))/\H q=ρ (.lst (ls.map V.str))
 pm:ss.Perm (bU ws "" ws)
 so:wg5 ss=true
 lv:RE ss (rowOf g ws ss) ls
theorem b4.same(B:b4 C H x g ws ss ls)(s:a8 H j):b4 C j x g ws ss ls:=by
 let{{a,b,d,q,c,e,f,h,i,k,n},p,o,l}:=B
 exact{{a,b,d,q,c,s _ _ e,s _ _ f,s _ _ h,i,λm r=>s _ _ (k m r),s _ _ n},p,o,l}
inductive JF(C:Addr)(vs:List V)(H:Hp)(Q:VK)(eF:XK):Prop
 |mk (x g ws ss ls) (_:vs=[.ref x]) (_:b4 C H x g ws ss ls) (_:∀(l:Addr) (H':Hp),a8 H H'->H l=τ->H' l=ρ (.lst (ss.map V.str))->Q (.ref l) H')
theorem b4.nd(B:b4 C H x g ws ss ls):ss.Nodup:=B.pm.nodup_iff.mpr (tf ws)
inductive Mw(C:Addr)(vs:List V)(H:Hp)(Q:VK)(eF:XK):Prop
 |mk (x g ws ss ls) (_:vs=[.ref x]) (_:b4 C H x g ws ss ls) (_:∀(l:Addr) (H':Hp),a8 H H'->H l=τ->H' l=ρ (.lst (ls.map V.str))->Q (.ref l) H')
inductive VA(C:Addr)(vs:List V)(H:Hp)(Q:VK)(eF:XK):Prop
 |mk (x p g ws ss ls) (_:vs=[.ref x,.str p]) (_:b4 C H x g ws ss ls) (_:p∈ss) (_:Q .non H)
inductive Sw(C:Addr)(vs:List V)(H:Hp)(Q:VK)(eF:XK):Prop
 |mk (x p c g ws ss ls) (_:vs=[.ref x,.str p,.str ⟨#[c]⟩]) (_:b4 C H x g ws ss ls) (_:p∈ss) (_:c∈ch g) (_:Q (uR ws ss p c) H)
theorem Gn(h:(fm g)[i]?=ρ y):∃c,(ch g)[i]?=ρ c/\y=.str {#[c]}/\i<(ch g).9/\c∈ch g/\(ch g).take (i+1)=(ch g).take i++[c]:=by
 unfold fm at h;rw[Ç]at h
 cases e:(ch g)[i]? with
 |none=>rw[show g.cps.toList[i]?=τ from e]at h;cases h
 |some z=>
  rw[show g.cps.toList[i]?=ρ z from e]at h;exact{z,rfl,(Ò h).symm,(Ñ.mp e).1,Ð e,by rw[ý,e];rfl}
theorem DE(g:Str):(fm g).9=g.9:=by unfold fm;rw[À];exact aP g
theorem b4.few(B:b4 C H x g ws ss ls)(hl:ws.9<=6)(hw:∀w∈ws,A3 g w):ss.9<=25:=by
 have:=nP (ws:=ws) (e:="") (us:=ws) λw a=>(hw w a).hi;rw[B.pm.length_eq];lia
theorem Thing.same(t:Thing H v)(s:a8 H g):Thing g v:=by
 cases t with
 |flat h=>exact .flat h
 |lst h f=>exact .lst (s _ _ h) f
 |tup h f=>exact .tup (s _ _ h) f
 |dic h=>exact .dic (s _ _ h)
inductive DF(C:Addr)(vs:List V)(H:Hp)(Q:VK)(eF:XK):Prop
 |mk (x p g ws ss ls) (_:vs=[.ref x,.str p]) (_:b4 C H x g ws ss ls) (_:p∈ss) (_:g.9<=10) (_:∀(l:Addr) (H':Hp),a8 H H'->H l=τ->H' l=ρ (.lst ((ik g ws ss p).map V.str))->Q (.ref l) H')
inductive Go(C:Addr)(vs:List V)(H:Hp)(Q:VK)(eF:XK):Prop
 |mk (x g ws ss ls) (_:vs=[.ref x]) (_:b4 C H x g ws ss ls) (_:g.9<=10) (_:ss.9<=900) (_:∀(d:Addr) (ev:List (Str×Addr)) (H':Hp),a8 H H'->H d=τ->H' d=ρ (.dK (cN ev))->ev.map (·.1)=ss->(∀m∈ev,H' m.2=ρ (.lst ((ik g ws ss m.1).map V.str)))->(∀m∈ev,H m.2=τ)->Q (.ref d) H')
inductive Mx(C:Addr)(vs:List V)(H:Hp)(Q:VK)(eF:XK):Prop
 |mk (x n g ws ss ls) (_:vs=[.ref x,.int n]) (_:b4 C H x g ws ss ls) (_:g.9<=10) (_:ss.9<=900) (_:0<=n) (_:n<=100000) (_:∀(l:Addr) (ts:List Addr) (H':Hp),a8 H H'->H l=τ->H' l=ρ (.lst (ts.map V.ref))->ts.9=n.toNat+1->(∀i t,ts[i]?=ρ t->H' t=ρ (.dK (Pj g ws ss i)))->Q (.ref l) H')
inductive My(C:Addr)(vs:List V)(H:Hp)(Q:VK)(eF:XK):Prop
 |mk (x n g ws ss ls) (_:vs=[.ref x,.int n]) (_:b4 C H x g ws ss ls) (_:g.9<=10) (_:ss.9<=900) (_:0<=n) (_:n<=100000) (_:∀H',a8 H H'->Q (.int (iD g ws ss n.toNat "")) H')
inductive Gp(C:Addr)(vs:List V)(H:Hp)(Q:VK)(eF:XK):Prop
 |mk (x n g ws ss ls) (_:vs=[.ref x,.int n]) (_:b4 C H x g ws ss ls) (_:g.9<=10) (_:0<=n) (_:n<=10) (_:Q (.int ((g.9:Int)^n.toNat)) H)
inductive Bz(C:Addr)(vs:List V)(H:Hp)(Q:VK)(eF:XK):Prop
 |mk (x many wide g ws ss ls) (_:vs=[.ref x,.int many,.int wide]) (_:b4 C H x g ws ss ls) (_:g.9<=10) (_:gO g.length many wide) (_:Q (.bl true) H)
inductive VB(C:Addr)(vs:List V)(H:Hp)(Q:VK)(eF:XK):Prop
 |mk (x p g ws ss ls) (_:vs=[.ref x,.str p]) (_:b4 C H x g ws ss ls) (_:p∈ls) (_:Q .non H)
inductive JG(C:Addr)(vs:List V)(H:Hp)(Q:VK)(eF:XK):Prop
 |mk (x l rs qs g ws ss ls) (_:vs=[.ref x,.ref l]) (_:b4 C H x g ws ss ls) (_:eQ H l rs qs) (_:(∀q∈qs,q.2∈ss/\q.1.9<=100)) (_:qs.9<=100) (_:g.9<=10) (_:∀(l':Addr) (U8:List Addr) (H':Hp),a8 H H'->H l'=τ->eQ H' l' U8 (gi g ws ss qs)->Q (.ref l') H')
inductive JH(C:Addr)(vs:List V)(H:Hp)(Q:VK)(eF:XK):Prop
 |mk (x:Addr) (p:Str) (n:Nat) (g:Str) (ws ss ls:List Str) (_:vs=[.ref x,.str p,.int (n:Int)]) (_:b4 C H x g ws ss ls) (_:p∈ls) (_:g.length^n<=100) (_:n<=10) (_:2<=g.9) (_:g.9<=10) (_:∀(l':Addr) (U8:List Addr) (H':Hp),a8 H H'->H l'=τ->eQ H' l' U8 (aX g ws ss ls n p)->Q (.ref l') H')
inductive BA(C:Addr)(vs:List V)(H:Hp)(Q:VK)(eF:XK):Prop
 |mk (x:Addr) (n:Nat) (g:Str) (ws ss ls:List Str) (_:vs=[.ref x,.int (n:Int)]) (_:b4 C H x g ws ss ls) (_:g.length^n<=100) (_:n<=10) (_:2<=g.9) (_:g.9<=10) (_:ss.9<=900) (_:∀(d:Addr) (ev:List (Str×Addr)) (H':Hp),a8 H H'->H d=τ->H' d=ρ (.dK (cN ev))->ev.map (·.1)=ls->(∀m∈ev,H' m.2=ρ (.lst (((aX g ws ss ls n m.1).map (·.2)).map V.str)))->(∀m∈ev,H m.2=τ)->Q (.ref d) H')
inductive JI(C:Addr)(vs:List V)(H:Hp)(Q:VK)(eF:XK):Prop
 |mk (x p n g ws ss ls) (_:vs=[.ref x,.str p,.int n]) (_:b4 C H x g ws ss ls) (_:p∈ss) (_:g.9<=10) (_:ss.9<=900) (_:0<=n) (_:n<=100000) (_:∀H',a8 H H'->Q (.int (iD g ws ss n.toNat p)) H')
inductive Gq(vs:List V)(H:Hp)(Q:VK)(eF:XK):Prop
 |mk (de dw many n o ev f g ws ss ls) (_:vs=[.ref de,.int many,.ref dw]) (_:H de=ρ (.frz o (.dK (cN ev)))) (_:ev.map (·.1)=ls) (_:(∀m∈ev,H m.2=ρ (.lst (((aX g ws ss ls n m.1).map (·.2)).map V.str)))) (_:g.length^n<=100) (_:ls.Nodup) (_:ls.9<=900) (_:2<=many) (_:many<=8) (_:Rd H dw (.dK (bK (cF f ls)))) (_:∀(d:Addr) (H':Hp),a8 H H'->H d=τ->H' d=ρ (.dK (bK (cF (mG g ws ss ls many n f) ls)))->Q (.ref d) H')
structure o8(g:Str)(ws ss ls:List Str)(many:Int)(n:Nat)(most:Int)(f:Str->Int):Prop where
 nn:∀p∈ls,0<=f p
 le:∀p∈ls,f p<=most
 fit:HE g ws ss ls many n f
 top:∀h:Str->Int,(∀p∈ls,h p<=most)->HE g ws ss ls many n h->∀p∈ls,h p<=f p
inductive Mz(C:Addr)(vs:List V)(H:Hp)(Q:VK)(eF:XK):Prop
 |mk (x:Addr) (many:Int) (n:Nat) (most:Int) (g:Str) (ws ss ls:List Str) (_:vs=[.ref x,.int many,.int (n:Int),.int most]) (_:b4 C H x g ws ss ls) (_:2<=g.9) (_:g.9<=10) (_:ss.9<=900) (_:gO g.length many n) (_:0<=most) (_:∀(d:Addr) (f:Str->Int) (H':Hp),a8 H H'->H d=τ->H' d=ρ (.dK (bK (cF f ls)))->o8 g ws ss ls many n most f->Q (.ref d) H')
set_option genInjectivity true in
inductive U9(g:Str)(ws ss:List Str)(many:Int)(n:Nat)(most:Int):V->Prop where
 |some (k:Nat) (a:1<=k) (b:(k:Int)<=most) (c:iD g ws ss (k*n) "" < many^k) (d:∀j:Nat,1<=j->j<k->¬iD g ws ss (j*n) "" < many^j):U9 g ws ss many n most (.int (k:Nat))
 |none (a:∀j:Nat,1<=j->(j:Int)<=most->¬iD g ws ss (j*n) "" < many^j):U9 g ws ss many n most .non
inductive Gr(C:Addr)(vs:List V)(H:Hp)(Q:VK)(eF:XK):Prop
 |mk (x many wide most g ws ss ls) (_:vs=[.ref x,.int many,.int wide,.int most]) (_:b4 C H x g ws ss ls) (_:g.9<=10) (_:ss.9<=900) (_:gO g.length many wide) (_:0<=most) (_:most<=100) (_:∀v H',a8 H H'->U9 g ws ss many wide.toNat most v->Q v H')
inductive MA(K:Á)(vs:List V)(H:Hp)(Q:VK)(eF:XK):Prop
 |mk (a:Addr) (ns:List Int) (_:vs=[.ref a]) (_:aO K H a (ns.map V.int)) (_:∀(p lw:Addr) (g:Str) (ws:List Str) (H':Hp),a8 H H'->H p=τ->H lw=τ->H' p=ρ (.tup [.str g,.ref lw])->H' lw=ρ (.lst (ws.map V.str))->yS g->ws.9<=6->(∀w∈ws,A3 g w)->Q (.ref p) H')
inductive JK(K:Á)(vs:List V)(H:Hp)(Q:VK)(eF:XK):Prop
 |mk (v qs) (_:vs=[v]) (_:bN K H (cj qs) v) (_:qs.9<=10000) (_:∀y H',a8 H H'->bN K (aM H H') (cj qs) y->Q y H')
inductive JL(K:Á)(C:Addr)(vs:List V)(H:Hp)(Q:VK)(eF:XK):Prop
 |mk (x dx u v w hs ws lns) (_:vs=[.ref x,u,v,w]) (_:H x=ρ (.ins C dx [])) (_:bN K H (tq hs) u) (_:bN K H (o7 ws) v) (_:bN K H (kR lns) w) (_:hs.9<=10000) (_:ws.9<=10000) (_:lns.9<=10000) (_:(∀l∈lns,l.9<=10000)) (_:∀a b c H',H' x=ρ (.ins C dx (De a b c))->bN K (aM H H') (tq hs) (.ref a)->bN K (aM H H') (o7 ws) (.ref b)->bN K (aM H H') (kR lns) (.ref c)->(∀b o,H b=ρ o->b≠x->H' b=ρ o)->Q .non H')
inductive MC(K:Á)(C CS:Addr)(vs:List V)(H:Hp)(Q:VK)(eF:XK):Prop
 |mk (x d:Addr) (many:Int) (n:Nat) (m:List (Str×Int)) (f:Str->Int) (g:Str) (ws ss ls:List Str) (_:vs=[.ref x,.int many,.int (n:Int),.ref d]) (_:b4 C H x g ws ss ls) (_:2<=g.9) (_:g.9<=10) (_:ss.9<=900) (_:gO g.length many n) (_:Rd H d (.dK (bK m))) (_:OM m ls f) (_:∀(y:Addr) (H':Hp),a8 H H'->cp K CS (aM H H') y (av ls f) ((av ls f).map f) (bF g ws ss ls n (av ls f))->Q (.ref y) H')
inductive Pn(K:Á)(CS CN:Addr)(vs:List V)(H:Hp)(Q:VK)(E:XK):Prop
 |mk (x many v w hs ws lns qs) (_:vs=[.ref x,.int many,v,.int w]) (_:cp K CS H x hs ws lns) (_:bN K H (cj qs) v) (_:qs.9<=10000) (_:(∀q∈qs,q.2<ws.9)) (_:0<=many) (_:many<=1000) (_:((fu ws many qs w=true/\∀H',a8 H H'->Q .non H')\/(fu ws many qs w=false/\∀H',a8 H H'->E (.ref CN) τ H')))
inductive MD(K:Á)(vs:List V)(H:Hp)(Q:VK)(eF:XK):Prop
 |mk (v:V) (d t:Nat) (qs:List (Str×Nat)) (_:vs=[v,.int (d:Int),.int (t:Int)]) (_:bN K H (cj qs) v) (_:qs.9<=5000) (_:∀y H',a8 H H'->bN K (aM H H') (cj (fi d t qs)) y->Q y H')
inductive ME(K:Á)(CS CN:Addr)(vs:List V)(H:Hp)(Q:VK)(E:XK):Prop
 |mk (x a many uv w ns hs ws lns) (_:vs=[.ref x,.int many,.int uv,.ref a,.int w]) (_:cp K CS H x hs ws lns) (_:aO K H a (ns.map V.int)) (_:ns.9<=10000) (_:NK hs ws lns) (_:0<=many) (_:many<=1000) (_:((eJ ws lns many uv ns w=true/\∀y H',a8 H H'->cp K CS (aM H H') y (dG hs uv.toNat) (cW ws uv.toNat w) (dU lns uv.toNat ns)->Q (.ref y) H')\/(eJ ws lns many uv ns w=false/\∀H',a8 H H'->E (.ref CN) τ H')))
inductive Pp(K:Á)(vs:List V)(H:Hp)(Q:VK)(eF:XK):Prop
 |mk (v a ds qs) (_:vs=[v,.ref a]) (_:bN K H (cj qs) v) (_:aO K H a ((nI ds).map V.int)) (_:qs.9<=10000) (_:∀y H',a8 H H'->bN K (aM H H') (cj (d5 ds qs)) y->Q y H')
structure Down(ws:List Int)(lns:List (List (Str×Nat)))(h:Int)(d i:Nat)(qs:List (Str×Nat))(q:Str×Nat):Prop where
 m:h∈ws
 t:∀w∈ws,w<=h
 l:lns[d]?=ρ qs
 s:qs[i]?=ρ q
 e:ws.getD d 0=h
 lt:ws.getD q.2 0<h
inductive Pq(K:Á)(C:Addr)(vs:List V)(H:Hp)(Q:VK)(eF:XK):Prop
 |mk (x hs ws lns) (_:vs=[.ref x]) (_:cp K C H x hs ws lns) (_:ws.9=lns.9) (_:(∀l∈lns,∀q∈l,q.2<ws.9)) (_:ws≠[]) (_:(∀h∈ws,(∀w∈ws,w<=h)->∃d i qs q,Down ws lns h d i qs q)) (_:∀(t:Addr) (h:Int) (d i:Nat) (qs:List (Str×Nat)) (q:Str×Nat) (H':Hp),a8 H H'->H' t=ρ (.tup [.int (d:Int),.int (i:Int)])->Down ws lns h d i qs q->Q (.ref t) H')
inductive Sy(K:Á)(vs:List V)(H:Hp)(Q:VK)(eF:XK):Prop
 |mk (a b:Addr) (many:Int) (wl:List Int) (nums:List Nat) (_:vs=[.ref a,.ref b,.int many]) (_:aO K H a (wl.map V.int)) (_:aO K H b ((nI nums).map V.int)) (_:1<=many) (_:many<=1000) (_:(nums.9:Int)=many) (_:(∀n∈nums,n<wl.9)) (_:∀(l:Addr) (i j:Nat) (H':Hp),a8 H H'->H l=τ->i<j->j<=nums.9->(((nums.take j).drop i).map λn=>wl.getD n 0).sum%many=0->H' l=ρ (.lst ((nI ((nums.take j).drop i)).map V.int))->Q (.ref l) H')
inductive JM(C:Addr)(vs:List V)(H:Hp)(Q:VK)(eF:XK):Prop
 |mk (x d:Addr) (many:Int) (n:Nat) (f:Str->Int) (g:Str) (ws ss ls:List Str) (_:vs=[.ref x,.int many,.int (n:Int),.ref d]) (_:b4 C H x g ws ss ls) (_:(∀w∈ws,1<=w.9)) (_:(ch g).Nodup) (_:2<=g.9) (_:g.9<=10) (_:ss.9<=900) (_:gO g.length many n) (_:H d=ρ (.dK (bK (cF f ls)))) (_:(∀p∈ls,0<=f p)) (_:HE g ws ss ls many n f) (_:0<(ls.map f).sum) (_:∀(dl:Addr) (f':Str->Int) (H':Hp),(∀c o,H c=ρ o->c≠d->H' c=ρ o)->H dl=τ->H' dl=ρ (.dK (bK (cF f' ls)))->(∀p∈ls,0<=f' p)->HE g ws ss ls many n f'->0<(ls.map f').sum->(∀p∈ls,f' p<=f p)->(ls.map f').sum<=(ls.map f).sum->Q (.ref dl) H')
inductive JN(K:Á)(C:Addr)(vs:List V)(H:Hp)(Q:VK)(eF:XK):Prop
 |mk (x hs ws lns) (_:vs=[.ref x]) (_:cp K C H x hs ws lns) (_:hs.9<=10000) (_:ws.9<=10000) (_:lns.9<=10000) (_:(∀l∈lns,l.9<=10000)) (_:∀y H',a8 H H'->cp K C (aM H H') y hs ws lns->Q (.ref y) H')
inductive MF(K:Á)(C CS:Addr)(vs:List V)(H:Hp)(Q:VK)(eF:XK):Prop
 |mk (x dx d z:Addr) (u v:V) (m:List (Str×Int)) (rB:List zX) (ks:List Nat) (hs:List Str) (ws:List Int) (lns:List (List (Str×Nat))) (_:vs=[.ref x,.ref d,u,v,.ref z]) (_:H x=ρ (.ins C dx [])) (_:Rd H d (.dK (bK m))) (_:bN K H (.lst (rB.map A7)) u) (_:bN K H (o7 (nI ks)) v) (_:cp K CS H z hs ws lns) (_:hs.9<=10000) (_:ws.9<=10000) (_:lns.9<=10000) (_:(∀l∈lns,l.9<=10000)) (_:rB.9<=10000) (_:∀a b c y H',H' x=ρ (.ins C dx (vY a b c y))->H a=τ->H' a=ρ (.dK (bK m))->bN K (aM H H') (.lst (rB.map A7)) (.ref b)->bN K (aM H H') (o7 (nI ks)) (.ref c)->cp K CS (aM H H') y hs ws lns->(∀b o,H b=ρ o->b≠x->H' b=ρ o)->Q .non H')
inductive Gs(K:Á)(C CS:Addr)(vs:List V)(H:Hp)(Q:VK)(eF:XK):Prop
 |mk (x m rB ks hs ws lns) (_:vs=[.ref x]) (_:p6 K C CS H x m rB ks hs ws lns) (_:hs.9<=10000) (_:ws.9<=10000) (_:lns.9<=10000) (_:(∀l∈lns,l.9<=10000)) (_:∀y H',a8 H H'->cp K CS (aM H H') y hs ws lns->Q (.ref y) H')
def VC(CX:Addr)(g:Str)(bw ss:List Str)(many:Int)(n:Nat)(H:Hp)(E:XK):Prop:=∀(k:Nat) (d:Addr) (H':Hp),U9 g bw ss many n 24 (.int (k:Nat))->a8 H H'->H d=τ->H' d=ρ (.xd [("length",.int (k:Nat)),("rows",.int (iD g bw ss (k*n) ""))])->E (.ref CX) (ρ d) H'
inductive MG(C CX:Addr)(vs:List V)(H:Hp)(Q:VK)(E:XK):Prop
 |mk (x:Addr) (many:Int) (n:Nat) (g:Str) (bw ss ls:List Str) (_:vs=[.ref x,.int many,.int (n:Int)]) (_:b4 C H x g bw ss ls) (_:g.9<=10) (_:ss.9<=900) (_:gO g.length many n) (_:(Gg g bw ss many n->∀H',a8 H H'->Q .non H')) (_:VC CX g bw ss many n H E)
inductive MH(K:Á)(vs:List V)(H:Hp)(Q:VK)(eF:XK):Prop
 |mk (v b many ks qs) (_:vs=[v,.ref b,.int many]) (_:bN K H (cj qs) v) (_:aO K H b ((nI ks).map V.int)) (_:ks.9<=1000) (_:qs.9<=10000) (_:0<=many) (_:∀y H',a8 H H'->bN K (aM H H') (cj (gg ks many.toNat qs)) y->Q y H')
inductive MI(C:Addr)(vs:List V)(H:Hp)(Q:VK)(eF:XK):Prop
 |mk (x g bw ss ls) (_:vs=[.ref x]) (_:b4 C H x g bw ss ls) (_:bw.9<=1000) (_:(∀w∈bw,w.9<=1000)) (_:∀(M:Int) (H':Hp),a8 H H'->Jc bw M->Q (.int M) H')
inductive JO(C:Addr)(vs:List V)(H:Hp)(Q:VK)(eF:XK):Prop
 |mk (x:Addr) (n:Nat) (g:Str) (bw ss ls:List Str) (_:vs=[.ref x,.int (n:Int)]) (_:b4 C H x g bw ss ls) (_:1<=n) (_:n<=10) (_:(∀w∈bw,w.9<=900)) (_:bw.9<=1000) (_:∀(b:Nat) (H':Hp),a8 H H'->lF bw n b->Q (.int (b:Int)) H')
inductive JP(C CB:Addr)(vs:List V)(H:Hp)(Q:VK)(eF:XK):Prop
 |mk (x xb dx:Addr) (fs:List (Str×V)) (n:Nat) (g:Str) (bw ss ls:List Str) (_:vs=[.ref x]) (_:H x=ρ (.ins C dx fs)) (_:fs.lookup ("band":Str)=ρ (.ref xb)) (_:fs.lookup ("wide":Str)=ρ (.int (n:Int))) (_:b4 CB H xb g bw ss ls) (_:1<=n) (_:n<=10) (_:(∀w∈bw,w.9<=900)) (_:bw.9<=1000) (_:∀(b:Nat) (H':Hp),a8 H H'->lF bw n b->Q (.int (b:Int)) H')
noncomputable def MJ(wl:List (List (Str×Nat)))(b c:Nat)(ts:List Nat):Str:=(cP wl 0 (Ý b 0)).1++(cP wl (cP wl 0 (Ý b 0)).2 (ts++Ý c 0)).1
inductive BC(C CN:Addr)(vs:List V)(H:Hp)(Q:VK)(E:XK):Prop
 |mk (x r g ws ss ls) (_:vs=[.ref x,.str r]) (_:b4 C H x g ws ss ls) (_:((∀c∈ch r,c∈ch g)/\∀H',a8 H H'->Q .non H')\/∃i,r.9<=1000/\Out g r i/\J8 CN "number" (.int (i:Nat)) H E)
section
variable{w:World}{K:Á}
inductive MK(K:Á)(vs:List V)(H:Hp)(Q:VK)(eF:XK):Prop
 |mk (r a ws) (_:vs=[.str r,.ref a]) (_:aO K H a (ws.map V.str)) (_:ws.9<=1000) (_:∀H',a8 H H'->Q (.bl (bears ws r)) H')
inductive ML(K:Á)(vs:List V)(H:Hp)(Q:VK)(eF:XK):Prop
 |mk (a:Addr) (g:Str) (ws:List Str) (_:vs=[.ref a,.str g]) (_:aO K H a (ws.map V.str)) (_:ws.9<=6) (_:(∀w∈ws,A3 g w)) (_:∀H',a8 H H'->Q .non H')
inductive JQ(K:Á)(vs:List V)(H:Hp)(Q:VK)(eF:XK):Prop
 |mk (a ws) (_:vs=[.ref a]) (_:aO K H a (ws.map V.str)) (_:ws.9<=6) (_:(∀w∈ws,w.9<=5)) (_:∀(l:Addr) (ss:List Str) (H':Hp),a8 H H'->H l=τ->H' l=ρ (.lst (ss.map V.str))->ss.Perm (bU ws "" ws)->wg5 ss=true->Q (.ref l) H')
inductive MM(K:Á)(vs:List V)(H:Hp)(Q:VK)(eF:XK):Prop
 |mk (p g a b ws ps) (_:vs=[.str p,.str g,.ref a,.ref b]) (_:aO K H a (ws.map V.str)) (_:aO K H b (ps.map V.str)) (_:("":Str)∈ps) (_:p.9<=100) (_:g.9<=10) (_:(ch g).Nodup) (_:ws.9<=1000) (_:∀(d:Addr) (H':Hp),a8 H H'->H d=τ->H' d=ρ (.dK (rowOf g ws ps p))->Q (.ref d) H')
inductive Pt(K:Á)(C:Addr)(vs:List V)(H:Hp)(Q:VK)(eF:XK):Prop
 |mk (x dx g a ws) (_:vs=[.ref x,.str g,.ref a]) (_:H x=ρ (.ins C dx [])) (_:aO K H a (ws.map V.str)) (_:yS g) (_:ws.9<=6) (_:(∀w∈ws,A3 g w)) (_:∀(ss ls:List Str) (H':Hp),b4 C H' x g ws ss ls->(∀b o,H b=ρ o->b≠x->H' b=ρ o)->Q .non H')
theorem Gu(hw:∀w∈ws,w.9<=5):∀k∈bU ws "" ws,k.9<=5:=by
 have h1:∀(w:Str),w.9<=5->∀(n:Nat) (ks:List Str),(∀k∈ks,k.9<=5)->∀k∈upTo ws w ks n,k.9<=5:=by
  intro w xQ n
  induction n with
  |zero=>intro ks h;exact h
  |succ n ih=>
   intro ks h k hk;rw[gQ]at hk;unfold si A4 at hk;split at hk
   .exact ih ks h k hk
   .split at hk
    .exact ih ks h k hk
    .rcases ä.mp hk with z |z
     .exact ih ks h k z
     .have:k=bT w (1+n):=by simpa using z
      rw[this];exact Í (FX _ _) xQ
 have h2:∀(us ks:List Str),(∀w∈us,w.9<=5)->(∀k∈ks,k.9<=5)->∀k∈us.foldl (addW ws) ks,k.9<=5:=by
  intro us
  induction us with
  |nil=>intro ks _ h;exact h
  |cons w us ih=>intro ks hu h;exact ih _ (λv hv=>hu v (Ô _ hv)) (h1 w (hu w (Ø ..)) _ ks h)
 exact h2 ws [""] hw (λk hk=>by have:k="":=by simpa using hk
                                subst this
                                decide+kernel)
inductive Gv(C:Addr)(vs:List V)(H:Hp)(Q:VK)(eF:XK):Prop
 |mk (x r g ws ss ls) (_:vs=[.ref x,.str r]) (_:b4 C H x g ws ss ls) (_:(∀c∈ch r,c∈ch g)) (_:bears ws r=false) (_:(∀w∈ws,1<=w.9)) (_:∀H',a8 H H'->Q (.str (lend ss r)) H')
end
end _S
namespace _B
theorem wB{α:Type}[DecidableEq α]:∀{g l:List α},g.Nodup->(∀k∈g,k∈l)->g.9<=l.9
 |[],l,_,_=>Û _
 |k::g,l,nd,h=>by
  rw[Đ]at nd;have hk:=h k (Ø ..);have:=wB (l:=l.erase k) nd.2 λj a=>(List.mem_erase_of_ne (λz=>nd.1 (by rw[<-z];exact a))).mpr (h j (Ô _ a));rw[List.length_erase_of_mem hk]at this;have:0<l.9:=List.length_pos_of_mem hk;rw[ê]
  lia
theorem JR{l:List Str}(nd:l.Nodup){i j:Nat}{r:Str}(p:l[i]?=ρ r)(t:l[j]?=ρ r):i=j:=by
 let{a,c}:=Ñ.mp p
 let{b,d}:=Ñ.mp t
 exact(Ř nd).mp (c.trans d.symm)
theorem wC(p:Str)(z:Str×Nat)(f:Str->List (Str×Nat)):∀hs:List Str,hs.Nodup->i3 p z hs (hs.map f)=if p∈hs then(f p).count z else 0
 |[],_=>rfl
 |h::hs,nd=>by
  rw[Đ]at nd;show (if h=p then(f h).count z else 0)+i3 p z hs (hs.map f)=_;rw[wC p z f hs nd.2]
  by_cases e:h=p
  .subst e;rw[if_pos rfl,if_neg nd.1,if_pos (Ø ..)];omega
  .rw[if_neg e]
   by_cases a:p∈hs
   .rw[if_pos a,if_pos (Ô _ a)];omega
   .rw[if_neg a,if_neg (λz=>(à.mp z).elim (λq=>e q.symm) a)]
theorem DG{g:List (Str×Str)}{hs:List Str}(nd:g.Nodup)(hn:hs.Nodup)(w:Str)(e:Nat) :
 (((g.filter λq=>decide (q.2∈hs)).map λq=>(q.1,hs.idxOf q.2)):List (Str×Nat)).count (w,e)=if e<hs.9/\(w,hs.getD e "")∈g then 1 else 0:=by
 have inj:∀q∈g.filter (λq=>decide (q.2∈hs)),((q.1,hs.idxOf q.2):Str×Nat)=(w,e)↔(e<hs.9/\q=(w,hs.getD e "")):=λq d=>by
  have h:q.2∈hs:=of_decide_eq_true (ß.mp d).2
  let{c,r}:=nR h
  let{a,b}:=q
  have c:hs[hs.idxOf b]?=ρ b:=c;constructor
  .intro z;simp only[wh3]at z
   let{rfl,rfl}:=z
   refine{(Ñ.mp c).1,?_};rw[Ë,c];rfl
  .rintro⟨l,z⟩;simp only[wh3]at z
   let{rfl,m}:=z
   have i:hs[e]?=ρ b:=by rw[m,Ë,Ã l];rfl
   rw[JR hn c i]
 have gen:∀L:List (Str×Str),L.Nodup->(∀q∈L,((q.1,hs.idxOf q.2):Str×Nat)=(w,e)↔(e<hs.9/\q=(w,hs.getD e "")))->(L.map λq=>((q.1,hs.idxOf q.2):Str×Nat)).count (w,e)=if e<hs.9/\(w,hs.getD e "")∈L then 1 else 0:=by
  intro L
  induction L with
  |nil=>intro _ _;rw[if_neg (λz=>nomatch z.2)];rfl
  |cons q L n=>
   intro nd d;rw[Đ]at nd;rw[Ó,cnt_cons,n nd.2 λo j=>d o (Ô _ j)];have h0:=d q (Ø ..)
   by_cases f:((q.1,hs.idxOf q.2):Str×Nat)=(w,e)
   .let{p,k}:=h0.mp f
    rw[if_pos f,if_neg (λz=>nd.1 (by rw[k];exact z.2)),if_pos {p,by rw[<-k];exact Ø ..}]
   .rw[if_neg f];refine(Nat.add_zero _).trans (RV {λz=>{z.1,Ô _ z.2},λz=>{z.1,?_}});rcases à.mp z.2 with y |y
    .exact absurd (h0.mpr ⟨z.1,y.symm⟩) f
    .exact y
 rw[gen _ (nd.filter _) inj];refine RV {λz=>{z.1,(ß.mp z.2).1},λz=>{z.1,ß.mpr {z.2,decide_eq_true ?_}}};rw[Ë,Ã z.1];exact ñ _
theorem DH(ws:List Int)(g:List (Str×Nat)){ns:List Nat}(nd:ns.Nodup)(j:∀n∈ns,n<g.9):bg ws (b5 (ns.map λn:Nat=>(n:Int)) g)=(ns.map λi=>ws.getD (g.getD i ("",0)).2 0).sum:=by
 unfold b5;rw[yM];refine IZ (List.Perm.map _ (Dh ((List.nodup_range' ..).filter _) nd λx=>?_));rw[ß,whJ,decide_eq_true_eq,Æ];constructor
 .rintro⟨_,n,hn,e⟩;have:n=x:=1.0;rw[<-this];exact hn
 .exact λz=>{{Û _,by have:=j x z;omega},x,z,rfl}
theorem Gw{many h w:Int}{hs:List Str}{ws:List Int}{lns:List (List (Str×Nat))}(S:jc many hs ws lns){d i0:Nat}{g:List (Str×Nat)}{ns:List Nat}(T:∀w∈ws,w<=h)(hd:lns[d]?=ρ g)(hw:ws.getD d 0=h)(m1:1<=many)
 (nd:ns.Nodup) (t:∀n∈ns,n<g.9) (C:ns≠[]) (J:(ns.9:Int)<=many) (r:(ns.9:Int)=many->i0∈ns) (I:ws.getD (g.getD i0 ("",0)).2 0<h)
 (j:(ns.map λi=>ws.getD (g.getD i ("",0)).2 0).sum=many*w):eJ ws lns many (d:Int) (ns.map λn:Nat=>(n:Int)) w=true:=by
 have k:=S.w;have q:=S.l;have s:d<lns.9:=(Ñ.mp hd).1;have m:lns.getD d []=g:=by rw[Ë,hd];rfl
 have o:g∈lns:=Ð hd
 have a:∀i,i<g.9->ws.getD (g.getD i ("",0)).2 0∈ws:=λi hi=>by
  have e:g.getD i ("",0)=g[i]:=by rw[Ë,Ã hi];rfl
  rw[e];exact jM (by rw[k];exact S.e g o _ (ñ hi))
 have c:∀n∈ns,1<=ws.getD (g.getD n ("",0)).2 0:=λn hn=>S.p _ (a n (t n hn));have f:∀n∈ns,ws.getD (g.getD n ("",0)).2 0<=h:=λn hn=>T _ (a n (t n hn));have u:=vS ns c C;rw[j]at u
 have x:1<=w:=by
  by_cases z:1<=w
  .exact z
  .have:=Int.mul_nonpos_of_nonneg_of_nonpos (show 0<=many by lia) (show w<=0 by lia)
   lia
 have H:1<=h:=by rw[<-hw];exact S.p _ (jM ())
 have L:w<h:=by
  have lt:many*w<many*h:=by
   rw[<-j]
   by_cases z:(ns.9:Int)=many
   .have:=wt ns f (r z) I;rw[z]at this;exact this
   .have y:=oZ ns f;have A:((ns.9:Int)+1)*h<=many*h:=Int.mul_le_mul_of_nonneg_right () ();rw[wgu]at A
    lia
  exact Int.lt_of_mul_lt_mul_left lt ()
 have c1:=DH ws g nd t;rw[j]at c1;have M:=FP ws (ns.map λn:Nat=>(n:Int)) g;have b:=S.b d g hd;rw[hw]at b
 have B:many*(h-w)<=bg ws (b0 (ns.map λn:Nat=>(n:Int)) g):=by
  rw[Int.mul_sub]
  lia
 have part:∀(l:List (Str×Nat)) (v:Int),1<=v->many*v<=bg ws l->fu ws many l v=true:=λl v D hl=>by
  have hn:l≠[]:=λz=>by
   rw[z]at hl;have y:many*v<=0:=hl;have:=whT (show 0<many by lia) (show 0<v by lia)
   lia
  unfold fu;rw[decide_eq_true D,decide_eq_true hl]
  cases l with
  |nil=>exact absurd rfl hn
  |cons _ _=>rfl
 unfold eJ;rw[ç,m,hw,part _ w x (Int.le_of_eq c1.symm),part _ (h-w) () B];have E:fB (d:Int) lns.9=true:=by unfold fB;rw[decide_eq_true (),decide_eq_true ()];rfl
 have G:(ns.map λn:Nat=>(n:Int)).all (λi=>fB i g.9)=true:=õ.mpr λi hi=>by
  let{n,hn,rfl}:=Æ.mp hi
  have:=t n hn;unfold fB;rw[decide_eq_true (),decide_eq_true ()];rfl
 rw[E,G];rfl
theorem mI{n:Nat}{rs:List Nat}(nd:rs.Nodup)(h:∀r∈rs,r<n):rs.9<=n:=by
 have:=wB nd λr a=>Ą.mpr (h r a);rwa[ì]at this
theorem DI{many:Int}{p:Nat->Int}{n:Nat}(h0:0<many)(hn:(n:Int)=many)(hd:∀i k,i<k->k<=n->p i%many≠p k%many):False:=by
 have nd:((Ö (n+1)).map λi=>(p i%many).toNat).Nodup:=nodup_map_on wfT λa ha b c e=>by
  have ha:=Ą.mp ha;have c:=Ą.mp c;have a0:=ċ (p a) (show many≠0 by lia);have f:=ċ (p b) (show many≠0 by lia);have g:p a%many=p b%many:=by grind
  rcases wer a b with h |h |h
  .grind
  .exact h
  .grind
 have:=mI (n:=n) nd λr d=>by
  let{i,1}:=Æ.mp d
  have a0:=ċ (p i) (show many≠0 by lia);have a1:=Ę (p i) h0;show (p i%many).toNat<n
  lia
 rw[À,ì]at this
 lia
theorem yZ(S:jc many hs ws lns)(D:Down ws lns h d i g q):many<=(g.9:Int):=by
 have a:g∈lns:=Ð D.l;have c:=S.b d g D.l;have f:=oY (ws:=ws) (h:=h) g λp j=>D.t _ (jM (by rw[S.w];exact S.e g a p j));rw[D.e]at c;have k:1<=h:=S.p h D.m;exact wfq (χ c f) ()
structure uT(g:Str)(ws ss ls:List Str)(many:Int)(n:Nat)(f:Str->Int):Prop where
 gr:∃most:Int,1<=most/\most<=8/\o8 g ws ss ls many n most f/\∀(m:Int) (h:Str->Int),1<=m->m<most->o8 g ws ss ls many n m h->(ls.map h).sum=0
 ps:0<(ls.map f).sum
 le:(ls.map f).sum<=40
def Ab(g:Str)(ws ss ls:List Str)(many:Int)(n:Nat):Prop:=∃most:Int,1<=most/\most<=9/\(∀(m:Int) (h:Str->Int),1<=m->m<most->o8 g ws ss ls many n m h->(ls.map h).sum=0)/\(most=9\/∃f,o8 g ws ss ls many n most f/\40<(ls.map f).sum)
theorem Gx{f h:Str->Int}(a:o8 g ws ss ls many n most f)(b:o8 g ws ss ls many n most h):∀p∈ls,f p=h p:=λp c=>by
 have d:=a.top h b.le b.fit p c;have e:=b.top f a.le a.fit p c
 lia
theorem Gy{f h:Str->Int}(a:o8 g ws ss ls many n most f)(b:o8 g ws ss ls many n most h):(ls.map f).sum=(ls.map h).sum:=congrArg List.sum (ĕ λp c=>Gx a b p c)
theorem Gz(wl:List (List (Str×Nat)))(b c:Nat)(ts:List Nat):MJ wl b c ts=cat (eS wl 0 (ig b c ts)):=by
 unfold MJ ig;rw[(jR wl _ _ 0).1,pY,iS,iS]
structure Pu(R:Wr)(ts:List Nat)(all:List Str):Prop where
 row:MJ R.wl R.b R.c ts=cat all
 u:∀u∈all,u.9=R.n/\∀c∈ch u,c∈ch R.g
 l:all.9=R.b+ts.9+R.c
 r:∀k,k<ts.9->∃bs w us,(all.take (k+(R.b+1+R.c))).drop k=bs++w::us/\bs.9=R.b/\us.9=R.c/\bears R.bw (cat bs)=false/\lG R.ss R.hk R.wl (cat bs) w us (ts.getD k 0)
section
variable{g:Str}
theorem z4(nd:(ch g).Nodup):∀n,(P4 g n).Nodup
 |0=>Đ.mpr {λz=>(nomatch z),΢}
 |n+1=>by
  show ((ch g).flatMap λc=>(P4 g n).map λr=>({#[c]}:Str)++r).Nodup;have l:=z4 nd n
  have key:∀f:List Nat,f.Nodup->(f.flatMap λc=>(P4 g n).map λr=>({#[c]}:Str)++r).Nodup:=by
   intro f
   induction f with
   |nil=>intro _;exact ΢
   |cons c f i=>
    intro hn;rw[Đ]at hn;rw[wdB];refine wfz.mpr {?_,i hn.2,λa ha b m z=>?_}
    .refine List.Pairwise.map _ ?_ l;intro a b j z;have:=congrArg ch z;rw[aV,aV]at this;exact j (dA (List.append_cancel_left this))
    .let{r,1}:=Æ.mp ha
     let{d,hd,k}:=Ŧ.mp m
     let{q,1}:=Æ.mp k
     have:=congrArg ch z;rw[aV,aV,Dr,Dr]at this
     have e:c=d:=by
      have h:=this;rw[weI,weI]at h;exact(wh8 h).1
     exact hn.1 (by rw[e];exact hd)
  exact key _ nd
end
end _B
namespace _A
section
variable{W:List (List Nat)}{P:List Nat->Bool}{l:List Nat}{c:Nat}
def Good(W:List (List Nat))(l:List Nat):Prop:=∀w∈W,¬w <:+: l
noncomputable def kW(P:List Nat->Bool):List Nat->List Nat
 |[]=>[]
 |a::l=>if P (a::l)=true then a::l else kW P l
theorem jT:∀l,kW P l <:+ l
 |[]=>wfX _
 |a::l=>by
  unfold kW;split
  .exact wfX _
  .exact(jT l).trans (List.suffix_cons a l)
theorem wD(h0:P []=true):∀l,P (kW P l)=true
 |[]=>h0
 |a::l=>by
  unfold kW;split
  .assumption
  .exact wD h0 l
theorem DJ(h:w <:+: l++[c]):w <:+: l\/w <:+ l++[c]:=by
 let{a,b,e}:=h
 rcases wgK b with f |⟨g,d,f⟩
 .right
  subst f;exact{a,by rw[<-e,û]}
 .left
  rw[wgL]at f;subst f;rw[<-ø]at e;exact{a,g,(wia e rfl).1}
end
section
variable{W:List (List Nat)}{p l u:List Nat}{c:Nat}{P:List Nat->Bool}{q:List Nat}
def Pl(W:List (List Nat))(p:List Nat):Prop:=p=[]\/((∃w∈W,p <+: w/\p.9<w.9)/\Good W p)
theorem JS(g:p <:+ q)(j:q <:+ p):p=q:=g.eq_of_length (wgk g.length_le j.length_le)
end
section
variable{W:List (List Nat)}{l m:List Nat}
theorem Good.sub(h:Good W l)(hs:m <:+: l):Good W m:=λw hw hi=>h w hw (hi.trans hs)
end
section
variable{W:List (List Nat)}{u:List Nat}{c:Nat}{P:List Nat->Bool}{l q:List Nat}
theorem Pl.init(h:Pl W (u++[c])):Pl W u:=by
 rcases h with h |⟨⟨w,hw,a,hl⟩,b⟩
 .simp at h
 .by_cases e:u=[]
  .exact .inl e
  .refine .inr {{w,hw,(wei u [c]).trans a,?_},b.sub (wei u [c]).isInfix};rw[É]at hl;simp at hl
   lia
theorem jU(g:P q=true):∀{l},q <:+ l->q <:+ kW P l
 |[],h=>h
 |a::l,h=>by
  unfold kW;split
  .exact h
  .rename_i hn;rcases List.suffix_cons_iff.mp h with e |h
   .rw[<-e]at hn;exact absurd g hn
   .exact jU g h
end
section
variable{l q u:List Nat}{c:Nat}
theorem BD:∀{q l:List Nat},q <:+ l++[c]->q=[]\/∃u,q=u++[c]/\u <:+ l:=λ{q l} h=>by
 rcases wgK q with e |⟨u,d,e⟩
 .exact .inl e
 .right
  rw[wgL]at e
  let{t,a}:=h
  subst e;rw[<-ø]at a;have b:=wia a rfl;have hd:d=c:=by simpa using b.2
  exact{u,by rw[hd],t,b.1}
end
section
variable{W:List (List Nat)}{P:List Nat->Bool}{l:List Nat}{c:Nat}
theorem GA(r:∀x,P x=true↔Pl W x)(j:Good W l)(g:∀w∈W,w≠[]):Good W (kW P l++[c])↔Good W (l++[c]):=by
 have f:=jT (P:=P) l;constructor
 .intro h w hw hi;rcases DJ hi with z |z
  .exact j w hw z
  .rcases BD z with e |⟨u,rfl,d⟩
   .exact g w hw e
   .have a:Pl W u:=by
     by_cases e:u=[]
     .exact .inl e
     .exact .inr {{_,hw,wei u [c],by simp},j.sub d.isInfix}
    have:=jU ((r u).mpr a) d
    let{t,b}:=this
    exact h _ hw (show u++[c] <:+ kW P l++[c] from {t,by rw[<-ø,b]}).isInfix
 .intro h
  let{t,b}:=f
  exact h.sub (show kW P l++[c] <:+ l++[c] from {t,by rw[<-ø,b]}).isInfix
theorem DK(g:∀x,P x=true↔Pl W x)(j:Good W l):kW P (kW P l++[c])=kW P (l++[c]):=by
 have f:=jT (P:=P) l;have h0:P []=true:=(g []).mpr (.inl rfl)
 have b:kW P l++[c] <:+ l++[c]:=by
  let{t,d}:=f
  exact{t,by rw[<-ø,d]}
 refine JS (jU (wD h0 _) ((jT _).trans b)) (jU (wD h0 _) ?_);rcases BD (jT (P:=P) (l++[c])) with e |⟨u,e,h⟩
 .rw[e];exact List.nil_suffix
 .have a:=(g _).mp (wD h0 (l++[c]));rw[e]at a ⊢
  let{t,d}:=jU ((g u).mpr a.init) h
  exact{t,by rw[<-ø,d]}
end
end _A
open _A
namespace _B
theorem eA(ws:List Str)(r:Str):bears ws r=false↔Good (wl ws) (ch r):=by simp_all [bears,Good,wl,whF,Mg,ch]
theorem mem_keys:k∈bU ws "" ws↔Pl (wl ws) (ch k):=by
 rw[jA];constructor
 .rintro(rfl |⟨w,hw,i,hi,e,a⟩)
  .exact .inl rfl
  .right
   refine{{ch w,Æ.mpr ⟨w,hw,rfl⟩,?_,?_},(eA ws k).mp a}
   .rw[e,f5];exact wfU _ _
   .rw[e,f5,Ú,aP];omega
 .rintro(h |⟨⟨v,b,c,hl⟩,d⟩)
  .exact .inl (dA h)
  .by_cases h0:ch k=[]
   .exact .inl (dA h0)
   let{w,hw,rfl}:=Æ.mp b
   right
   rw[aP,aP]at hl;have f:k.length≠0:=λz=>h0 (se z);refine{w,hw,k.9-1,1.0,dA ?_,(eA ws k).mpr d};rw[f5,show 1+(k.9-1)=k.length by omega,<-aP k];exact(List.prefix_iff_eq_take.mp c)
theorem JT(g:ss.Perm (bU ws "" ws))(l:List Nat):Sn ss l=true↔Pl (wl ws) l:=by
 have e:ch ⟨l.6⟩=l:=rfl;rw[<-e,kK,g.mem_iff,mem_keys]
theorem z5{P:List Nat->Bool}(h0:P []=true):∀{l:List Nat} {n:Nat},P (l.drop n)=true->(∀m,m<n->P (l.drop m)=false)->kW P l=l.drop n
 |[],n,_,_=>by simp[kW]
 |a::l,0,b,_=>by
  unfold kW;rw[wfc]at b;rw[if_pos b];rfl
 |a::l,n+1,b,c=>by
  have:=c 0 ();rw[wfc]at this;unfold kW;rw[this,if_neg (by simp),List.drop_succ_cons];exact z5 h0 (by grind) λm d=>by grind
theorem kX(he:("":Str)∈ss)(r:Str):ch (lend ss r)=kW (Sn ss) (ch r):=by
 have c:∃n,n<=r.9/\cm r n∈ss/\∀m,m<n->cm r m∉ss:=by
  have f:∃n,cm r n∈ss:={r.9,by rw[sj];exact he}
  have key:∀k,(∃n,n<k/\cm r n∈ss/\∀m,m<n->cm r m∉ss)\/∀m,m<k->cm r m∉ss:=by
   intro k
   induction k with
   |zero=>right;intro m a;lia
   |succ k d=>
    rcases d with⟨n,hn,h⟩ |h
    .exact .inl {n,(),h}
    .by_cases hk:cm r k∈ss
     .exact .inl {k,(),hk,h}
     .right
      intro m a
      by_cases e:m=k
      .rw[e];exact hk
      .exact h m ()
  rcases key (r.9+1) with⟨n,hn,h⟩ |h
  .exact{n,(),h}
  .exact absurd (by rw[sj];exact he) (h r.length ())
 let{n,hn,a,hl}:=c
 unfold lend;rw[vJ a hl hn,hH];refine(z5 (kK (k:="").mpr he) ?_ λm b=>?_).symm
 .rw[<-hH];exact kK.mpr a
 .rw[<-hH];have:=hl m b;rw[<-kK]at this;simpa using this
theorem qf(he:("":Str)∈ss)(r:Str):lend ss r∈ss:=by
 rw[<-kK,kX he];exact wD (kK (k:="").mpr he) _
theorem GB(hw:∀w∈ws,1<=w.9):bears ws ""=false:=by
 refine(eA ws "").mpr λw a hi=>?_
 let{v,b,rfl}:=Æ.mp a
 have d:=hw v b;have c:=hi.length_le;rw[aP]at c;have:(ch ("":Str)).length=0:=rfl
 lia
theorem DL(he:("":Str)∈ss)(h:r∈sq g ws ss q):r.2∈ss/\r.1.9=q.1.9+1:=by
 unfold sq at h
 let{c,_,e}:=we3.mp h
 split at e
 .cases e
 .cases e;exact{qf he _,len_app _ _}
theorem wF(he:("":Str)∈ss)(j:p∈ss):∀n,∀r∈wj g ws ss p n,r.2∈ss/\r.1.9=n
 |0,r,h=>by
  rw[Þ.mp h];exact⟨j,rfl⟩
 |n+1,r,h=>by
  let{q,a,b}:=Ŧ.mp h
  have:=DL he b;have:=(wF he j n q a).2;exact{‹r.2∈ss/\_›.1,()}
theorem xO.line{B:Str->List (Str×Str)}(h:xO B hs lns)(hl:lns.9=hs.9)(g:∀p,(B p).9<=b):∀l∈lns,l.9<=b*hs.9:=by
 intro l j
 let{i,hi,e}:=Ŭ j
 have f:lns[i]?=ρ l:=by rw[Ã hi,e]
 have a:hs[i]?=ρ (hs[i]'1.0):=Ã _;generalize hs[i]'1.0=p at a
 have one:∀z,l.count z<=1:=λz=>by
  have c:=kU (z:=z) a f;have d:=h p z.1 z.2;rw[show ((z.1,z.2):Str×Nat)=z from rfl]at d;rw[d]at c;split at c<;>omega
 have nd:l.Nodup:=weY.mpr one
 have sub:∀z∈l,z∈((B p).map (·.1)).flatMap λw=>(Ö hs.9).map λe=>(w,e):=λz k=>by
  have c:=kU (z:=z) a f;have d:=h p z.1 z.2;rw[show ((z.1,z.2):Str×Nat)=z from rfl]at d;rw[d]at c;have m:0<l.count z:=ł.mpr k
  by_cases hc:z.2<hs.9/\p∈hs/\(z.1,hs.getD z.2 "")∈B p
  .exact Ŧ.mpr {z.1,Æ.mpr {_,hc.2.2,rfl},Æ.mpr {z.2,Ą.mpr hc.1,rfl}}
  .rw[if_neg hc]at c;omega
 have c:=wB nd sub
 have d:(((B p).map (·.1)).flatMap λw=>(Ö hs.9).map λe=>(w,e)).9<=(B p).9*hs.9:=by
  have:=vK (λw=>(Ö hs.9).map λe=>((w,e):Str×Nat)) hs.length ((B p).map (·.1)) λw _=>by rw[À,ì];exact Ä _
  rwa[À]at this
 exact Í c (Í d (weZ _ (g p)))
structure Above(lns:List (List (Str×Nat)))(many:Int)(ks:List Nat):Prop where
 sub:ks.Sublist (Ö lns.9)
 top:∀S,EK lns many S->∀d∈S,d∈ks
theorem Above.start(lns:List (List (Str×Nat)))(many:Int):Above lns many (Ö lns.9):={wfx _,λS h d hd=>Ą.mpr (h d hd).1}
theorem Above.next(h:Above lns many g):Above lns many (vR lns many g):=by
 refine{wdW.trans h.sub,λS a d hd=>ß.mpr {h.top S a d hd,decide_eq_true ?_}};have b:=(a d hd).2;have c:=yW (h.top S a) (lns.getD d [])
 lia
theorem Above.stays(h:Above lns many g)(e:vR lns many g=g):EK lns many g:=λd hd=>by
 refine{Ą.mp (h.sub.subset hd),?_};rw[<-e]at hd;exact of_decide_eq_true (ß.mp hd).2
structure p7(lns:List (List (Str×Nat)))(many:Int)(ks:List Nat):Prop where
 ab:Above lns many ks
 st:EK lns many ks
theorem BE{many h:Int}{hs:List Str}{ws:List Int}{lns:List (List (Str×Nat))}(S:jc many hs ws lns)(K:p7 lns many [])(t:h∈ws)(C:∀w∈ws,w<=h)(m1:1<=many) :
 ∃(d i:Nat) (g:List (Str×Nat)) (q:Str×Nat),lns[d]?=ρ g/\g[i]?=ρ q/\ws.getD d 0=h/\ws.getD q.2 0<h:=by
 have f:=S.w;have v:=S.l
 by_cases s:∃(d i:Nat) (g:List (Str×Nat)) (q:Str×Nat),lns[d]?=ρ g/\g[i]?=ρ q/\ws.getD d 0=h/\ws.getD q.2 0<h
 .exact s
 exfalso
 have all:∀(d:Nat) (g:List (Str×Nat)),lns[d]?=ρ g->ws.getD d 0=h->∀q∈g,ws.getD q.2 0=h:=λd g hd hw q c=>by
  let{i,hi,e}:=Ŭ c
  have x:¬ws.getD q.2 0<h:=λz=>s {d,i,g,q,hd,by rw[Ã hi,e],hw,z};have o:=C _ (jM (ws:=ws) (i:=q.2) (by rw[f];exact S.e g (Ð hd) q c))
  lia
 let{y,j,A}:=Ŭ t
 have x:1<=h:=S.p h t
 have r:EK lns many ((Ö ws.9).filter λd=>decide (ws.getD d 0=h)):=λd hd=>by
  let{u,n}:=ß.mp hd
  have u:=Ą.mp u;have n:ws.getD d 0=h:=of_decide_eq_true n;have k:d<lns.9:=();have c:lns[d]?=ρ (lns.getD d []):=by rw[Ë,Ã k];rfl
  refine{k,?_};have m:=all d _ c n;have B:d5 ((Ö ws.9).filter λd=>decide (ws.getD d 0=h)) (lns.getD d [])=lns.getD d []:=ĝ.mpr λq a=>decide_eq_true (ß.mpr {Ą.mpr (by rw[f];exact S.e _ (Ð c) q a),decide_eq_true (m q a)});rw[B];have o:=S.b d _ c;have D:=oY (lns.getD d []) λq a=>Int.le_of_eq (m q a);rw[n]at o;have E:many*h<=((lns.getD d []).9:Int)*h:=χ o D;exact wfq E ()
 have:=K.ab.top _ r y (ß.mpr {Ą.mpr j,decide_eq_true (by rw[Ë,Ã j,A];rfl)});cases this
theorem MN{many h:Int}{hs:List Str}{ws:List Int}{lns:List (List (Str×Nat))}(S:jc many hs ws lns)(m1:1<=many){d i0:Nat}{g:List (Str×Nat)}{q:Str×Nat}(D:Down ws lns h d i0 g q){i j:Nat}(p:i<j)(C:j<=(numsOf g.length i0 (many-1).toNat).9)
 (r:((((numsOf g.length i0 (many-1).toNat).take j).drop i).map λn=>(g.map λq=>ws.getD q.2 0).getD n 0).sum%many=0) :
 eJ ws lns many (d:Int) (nI (((numsOf g.length i0 (many-1).toNat).take j).drop i)) (((((numsOf g.length i0 (many-1).toNat).take j).drop i).map λn=>(g.map λq=>ws.getD q.2 0).getD n 0).sum/many)=true:=by
 have b:i0<g.9:=(Ñ.mp D.s).1;have hl:=yZ S D;have u:=By (k:=(many-1).toNat) b ();have c:=Di g.length i0 (many-1).toNat;have f:=zW (k:=(many-1).toNat) b;have m:i0∈numsOf g.length i0 (many-1).toNat:=Ø ..;generalize numsOf g.length i0 (many-1).toNat=a at *;have sub:((a.take j).drop i).Sublist a:=(whQ _ _).trans (Ĩ _ _);have len:((a.take j).drop i).9=j-i:=by rw[ē,Ú];lia
 have o:∀n∈(a.take j).drop i,n<g.9:=λn hn=>f n (sub.subset hn);have e:((a.take j).drop i).map (λn=>(g.map λq=>ws.getD q.2 0).getD n 0)=((a.take j).drop i).map λn=>ws.getD (g.getD n ("",0)).2 0:=ĕ λn hn=>OT ws (o n hn);rw[e]at r ⊢;have v:g.getD i0 ("",0)=q:=by rw[Ë,D.s];rfl
 refine Gw S (i0:=i0) D.t D.l D.e m1 (c.sublist sub) o (λz=>?_) ?_ (λz=>?_) (by rw[v];exact D.lt) ?_
 .rw[z]at len;have:(0:Nat)=j-i:=len
  lia
 .rw[len];lia
 .have w:(a.take j).drop i=a:=sub.eq_of_length (by grind);rw[w];exact m
 .have:=wgJ ((((a.take j).drop i).map λn=>ws.getD (g.getD n ("",0)).2 0).sum) many
  lia
theorem fI.whole{f:Str->Int}(h:fI g bw ss ls many n f r hs ws lns)(t:(ls.map f).sum<=40)(j:g.length^n<=64):NK hs ws lns:=by
 have hl:=h.len;refine{h.b.w,h.b.l,h.b.e,(),λl a=>?_};have c:=h.cv.line h.b.l (b:=64) (λp=>Í (gR g bw ss ls n p) j) l a;have d:64*hs.9<=64*40:=Ũ _ ()
 lia
theorem xO.word(h:xO (aX g bw ss ls n) hs lns)(hl:lns.9=hs.9)(j:∀p∈hs,p∈ss)(he:("":Str)∈ss):∀l∈lns,∀q∈l,q.1.9=n:=by
 intro l d q f
 let{i,hi,e}:=Ŭ d
 have a:i<hs.9:=()
 have b:0<i3 hs[i] (q.1,q.2) hs lns:=by
  have k:hs[i]?=ρ hs[i]:=Ã a;have m:lns[i]?=ρ l:=by rw[Ã hi,e]
  have:=kU (z:=(q.1,q.2)) k m;have hc:0<l.count (q.1,q.2):=ł.mpr f
  lia
 rw[h hs[i] q.1 q.2]at b
 by_cases c:q.2<hs.9/\hs[i]∈hs/\(q.1,hs.getD q.2 "")∈aX g bw ss ls n hs[i]
 .exact(wF he (j _ (ñ a)) n _ (ß.mp c.2.2).1).2
 .rw[if_neg c]at b
  lia
section
variable{ws ss:List Str}{r:Str}{c:Nat}
theorem JU(he:("":Str)∈ss):lend ss ""="":=by
 refine dA ?_;rw[kX he];rfl
theorem nU(g:ss.Perm (bU ws "" ws))(j:bears ws r=false):lend ss (lend ss r++{#[c]})=lend ss (r++{#[c]}):=by
 have a:("":Str)∈ss:=g.mem_iff.mpr (cx ws);refine dA ?_;rw[kX a,aV,kX a,kX a,aV];exact DK (JT g) ((eA ws r).mp j)
theorem kY(g:ss.Perm (bU ws "" ws))(j:bears ws r=false)(hw:∀w∈ws,1<=w.9):bears ws (lend ss r++{#[c]})=bears ws (r++{#[c]}):=by
 have b:("":Str)∈ss:=g.mem_iff.mpr (cx ws)
 have a:∀w∈wl ws,w≠[]:=by
  intro w d z
  let{v,e,rfl}:=Æ.mp d
  have:=hw v e;rw[<-aP,z]at this;simp at this
 have:=GA (c:=c) (JT g) ((eA ws r).mp j) a;rw[show [c]=ch ({#[c]}:Str) from rfl,<-kX b,<-aV,<-aV,<-eA,<-eA]at this;cases f:bears ws (lend ss r++⟨#[c]⟩)<;>cases h:bears ws (r++⟨#[c]⟩)<;>simp[f,h]at this ⊢
theorem jV(h:ch a <:+: ch b)(g:bears ws b=false):bears ws a=false:=(eA ws a).mpr (((eA ws b).mp g).sub h)
theorem p8(j:ss.Perm (bU ws "" ws))(hw:∀w∈ws,1<=w.9)(h:p∈ss):bears ws p=false/\lend ss p=p:=by
 have a:("":Str)∈ss:=j.mem_iff.mpr (cx ws);constructor
 .rcases mem_keys.mp (j.mem_iff.mp h) with z |z
  .have:p="":=dA (by rw[z];exact(se rfl).symm);rw[this];exact GB hw
  .exact(eA ws p).mpr z.2
 .refine dA ?_;rw[kX a];have b:Sn ss (ch p)=true:=kK.mpr h;exact JS (jT _) (jU b (wfX _))
theorem BF(g:ss.Perm (bU ws "" ws))(hw:∀w∈ws,1<=w.9)(l:bears ws r=false)(w:Str):∀i,i<=w.9->bears ws (lend ss r++bT w i)=bears ws (r++bT w i)/\(bears ws (r++bT w i)=false->lend ss (lend ss r++bT w i)=lend ss (r++bT w i))
 |0,_=>by
  have n:("":Str)∈ss:=g.mem_iff.mpr (cx ws);rw[take_zero,kL,kL]
  let{o,p}:=p8 g hw (qf n r)
  exact{by rw[o,l],λ_=>p}
 |i+1,hi=>by
  let{f,j}:=BF g hw l w i 1.0
  have hc:(ch w)[i]?=ρ ((ch w)[i]'(by rw[aP];omega)):=Ã _;generalize (ch w)[i]'(by rw[aP];omega)=c at hc;rw[take_snoc hc,<-f7,<-f7]
  cases d:bears ws (r++bT w i) with
  |true=>
   have up:∀q:Str,bears ws q=true->bears ws (q++{#[c]})=true:=λq s=>by
    cases e:bears ws (q++⟨#[c]⟩) with
    |true=>rfl
    |false=>
     have:=jV (a:=q) (b:=q++({#[c]}:Str)) (by rw[aV];exact(wei _ _).isInfix) e;rw[s]at this;cases this
   rw[up _ d,up _ (f.trans d)];exact{rfl,λz=>by cases z}
  |false=>
   have hl:=j d;have h:=f.trans d;have t:=kY (c:=c) g d hw;have k:=kY (c:=c) g h hw;have u:=nU (c:=c) g d;have m:=nU (c:=c) g h;rw[hl]at k m;exact{k.symm.trans t,λ_=>m.symm.trans u}
theorem Pw(g:ss.Perm (bU ws "" ws))(hw:∀w∈ws,1<=w.9)(j:bears ws r=false){w:Str}(h:bears ws (lend ss r++w)=false):bears ws (r++w)=false/\lend ss (r++w)=lend ss (lend ss r++w):=by
 let{a,b}:=BF g hw j w w.length (Ä _)
 rw[take_all]at a b;rw[h]at a;exact{a.symm,(b a.symm).symm}
end
section
variable{g:Str}{ws ss ls:List Str}{p:Str}
theorem JV(h:bears ws (p++a)=true):kP ws ss p (a++c)=τ:=by
 unfold kP;rw[if_pos]
 cases e:bears ws (p++(a++c)) with
 |true=>rfl
 |false=>
  have:=jV (a:=p++a) (b:=p++(a++c)) (by rw[<-f7,aV (p++a) c];exact{[],ch c,by simp}) e;rw[h]at this;cases this
theorem z6(l:ss.Perm (bU ws "" ws))(hw:∀w∈ws,1<=w.9)(h:bears ws (p++r)=false):∀j:List Nat,(j.filterMap λc=>if bears ws (lend ss (p++r)++{#[c]})=true then τ else ρ (r++({#[c]}:Str),lend ss (lend ss (p++r)++({#[c]}:Str))))=(j.map λc=>r++({#[c]}:Str)).filterMap (kP ws ss p)
 |[]=>rfl
 |c::j=>by
  rw[Ó,Ĥ,Ĥ,z6 l hw h j]
  have e:(if bears ws (lend ss (p++r)++{#[c]})=true then τ else ρ (r++({#[c]}:Str),lend ss (lend ss (p++r)++({#[c]}:Str))))=kP ws ss p (r++{#[c]}):=by
   unfold kP;rw[kY l h hw,nU l h,f7]
  rw[e]
theorem BG(j:ss.Perm (bU ws "" ws))(hw:∀w∈ws,1<=w.9):∀L:List Str,gi g ws ss (L.filterMap (kP ws ss p))=(L.flatMap λr=>(ch g).map λc=>r++({#[c]}:Str)).filterMap (kP ws ss p)
 |[]=>rfl
 |r::L=>by
  rw[wdB,wgM,<-BG j hw L,Ĥ]
  cases h:bears ws (p++r) with
  |true=>
   have e:kP ws ss p r=τ:=by unfold kP;rw[if_pos h]
   rw[e,mB (l:=(ch g).map λc=>r++({#[c]}:Str)) λa ha=>by let{c,1}:=Æ.mp ha;exact JV h];rfl
  |false=>
   have e:kP ws ss p r=ρ (r,lend ss (p++r)):=by unfold kP;rw[if_neg (by rw[h];exact ã)]
   rw[e,<-z6 j hw h];exact wdB ..
theorem wG(l:ss.Perm (bU ws "" ws))(hw:∀w∈ws,1<=w.9)(j:p∈ss):∀n,wj g ws ss p n=(La g n).filterMap (kP ws ss p)
 |0=>by
  let{a,b}:=p8 l hw j
  show [(("":Str),p)]=[("":Str)].filterMap (kP ws ss p);have e:kP ws ss p ""=ρ (("":Str),p):=by unfold kP;rw[kL,b,if_neg (by rw[a];exact ã)]
  rw[Ĥ,e];rfl
 |n+1=>by
  show gi g ws ss (wj g ws ss p n)=((La g n).flatMap λr=>(ch g).map λc=>r++({#[c]}:Str)).filterMap (kP ws ss p);rw[wG l hw j n,BG l hw]
theorem DM(l:ss.Perm (bU ws "" ws))(hw:∀w∈ws,1<=w.9)(j:p∈ss)(n:Nat):(La g n).filterMap (Mj ws ss ls p)=aX g ws ss ls n p:=by
 delta aX;rw[wG l hw j]
 have:∀L:List Str,L.filterMap (Mj ws ss ls p)=(L.filterMap (kP ws ss p)).filter λq=>decide (q.2∈ls):=by
  intro L
  induction L with
  |nil=>rfl
  |cons r L a=>
   rw[Ĥ,Ĥ,a];unfold Mj kP
   cases h:bears ws (p++r) with
   |true=>rfl
   |false=>
    rw[if_neg ã,if_neg ã]
    by_cases hl:lend ss (p++r)∈ls
    .rw[if_pos hl,ĥ (by exact decide_eq_true hl)]
    .rw[if_neg hl,Ľ (by simpa using hl)]
 exact this _
end
theorem Ac(nd:(ch g).Nodup)(l:ss.Perm (bU ws "" ws))(hw:∀w∈ws,1<=w.9)(j:p∈ss)(n:Nat):((aX g ws ss ls n p).map (·.1)).Nodup:=by
 rw[<-DM l hw j n];refine List.Nodup.sublist (jz (λr x e=>?_) _) (by rw[uQ];exact z4 nd n);unfold Mj at e;split at e
 .cases e
 .grind
theorem xO.first{g:Str}{ws ss ls:List Str}{n:Nat}{hs:List Str}(nd:(ch g).Nodup)(l:ss.Perm (bU ws "" ws))(hw:∀w∈ws,1<=w.9)(j:∀p∈hs,p∈ss)(hn:hs.Nodup):xO (aX g ws ss ls n) hs (bF g ws ss ls n hs):=by
 intro p w e;unfold bF;rw[wC p (w,e) _ hs hn]
 by_cases h:p∈hs
 .rw[if_pos h];delta gT;rw[DG (qc (Ac nd l hw (j p h) n)) hn];exact RV {λz=>⟨z.1,h,z.2⟩,λz=>⟨z.1,z.2.2⟩}
 .rw[if_neg h,if_neg (λz=>h z.2.1)]
theorem jc.first{f:Str->Int}(hn:∀p∈ls,0<=f p)(j:HE g ws ss ls many n f):jc many (av ls f) ((av ls f).map f) (bF g ws ss ls n (av ls f)):=by
 have a:∀p∈av ls f,p∈ls/\0<f p:=λp b=>{(ß.mp b).1,of_decide_eq_true (ß.mp b).2};refine{À _,À _,λw hw=>?_,λl hl q c=>?_,λi l hl=>?_}
 .let{p,b,rfl}:=Æ.mp hw
  have:=(a p b).2
  lia
 .let{p,b,rfl}:=Æ.mp hl
  let{z,d,rfl}:=Æ.mp c
  exact List.idxOf_lt_length_of_mem (of_decide_eq_true (ß.mp d).2)
 .unfold bF at hl;rw[Ç]at hl
  cases e:(av ls f)[i]? with
  |none=>rw[e]at hl;cases hl
  |some p=>
   rw[e]at hl;cases hl;rw[Jy hn,Ë,Ç,e];exact j p (a p (Ð e)).1
theorem fI.start{f:Str->Int}(nd:(ch g).Nodup)(j:ss.Perm (bU bw "" bw))(hw:∀w∈bw,1<=w.9)(l:∀p∈ls,p∈ss)(hl:ls.Nodup)(hn:∀p∈ls,0<=f p)(r:HE g bw ss ls many n f) :
 fI g bw ss ls many n f [] (av ls f) ((av ls f).map f) (bF g bw ss ls n (av ls f)):=
 {.nil,jc.first hn r,xO.first nd j hw (λp j=>l p (ß.mp j).1) (hl.filter _),yL hn,wfY _,λp j=>(ß.mp j).1}
noncomputable def nW(p b:Addr)(many wide:Int)(h l:Addr)(o:Str)(i:Int):List (Str×V):=[("scheme",.ref p),("band",.ref b),("many",.int many),("wide",.int wide),("homes",.ref h),("lines",.ref l),("opening",.str o),("first",.int i)]
structure BH(K:Á)(C CP CS:Addr)(H:Hp)(x xb:Addr)(many:Int)(n:Nat)(m:List (Str×Int))(rB:List zX)(ks:List Nat)(hs:List Str)(ws:List Int)(lns:List (List (Str×Nat)))(b:Nat):Prop where
 ex:∃dx p a l,H x=ρ (.ins C dx (nW p xb many (n:Int) a l (cP (fH lns ks many.toNat) 0 (Ý b 0)).1 ((cP (fH lns ks many.toNat) 0 (Ý b 0)).2:Int)))/\p6 K CP CS H p m rB ks hs ws lns/\bN K H (tq (ks.map λd=>hs.getD d "")) (.ref a)/\bN K H (kR (fH lns ks many.toNat)) (.ref l)
theorem xO.FE{g:Str}{bw ss ls:List Str}{n:Nat}{hs:List Str}{lns:List (List (Str×Nat))}(h:xO (aX g bw ss ls n) hs lns)(hl:lns.9=hs.9)(j:∀p∈hs,p∈ss)(l:ss.Perm (bU bw "" bw))(hw:∀w∈bw,1<=w.9){i:Nat}(hi:i<hs.9){q:Str×Nat}(r:q∈lns.getD i []):bears bw (hs.getD i ""++q.1)=false/\lend ss (hs.getD i ""++q.1)=hs.getD q.2 ""/\q.1∈La g n:=by
 have k:hs.getD i ""=hs[i]:=by rw[Ë,Ã hi];rfl
 have m:hs[i]?=ρ hs[i]:=Ã hi;have o:lns[i]?=ρ (lns.getD i []):=by rw[Ë,Ã ()];rfl
 have a:0<i3 hs[i] (q.1,q.2) hs lns:=by
  have:=kU (z:=(q.1,q.2)) m o;have hc:0<(lns.getD i []).count (q.1,q.2):=ł.mpr r
  lia
 rw[h hs[i] q.1 q.2]at a
 by_cases c:q.2<hs.9/\hs[i]∈hs/\(q.1,hs.getD q.2 "")∈aX g bw ss ls n hs[i]
 .have e:=(ß.mp c.2.2).1;rw[wG l hw (j _ (ñ hi))]at e
  let{z,s,d}:=we3.mp e
  unfold kP at d;rw[k]
  by_cases b:bears bw (hs[i]++z)=true
  .rw[if_pos b]at d;cases d
  .rw[if_neg b]at d;have f:=Ò d;have t:z=q.1:=congrArg Prod.fst f;have u:lend ss (hs[i]++z)=hs.getD q.2 "":=congrArg Prod.snd f;subst t;exact{by simpa using b,u,s}
 .rw[if_neg c]at a
  lia
theorem eK.start{H:Hp}(h:H a=τ):eK H (upd H a (.dK [])) a []:=
 {a8.upd h,h,[],a6,Ä _,λ_=>.inl ⟨rfl,rfl⟩,λ_ _ _ h=>nomatch h}
section
variable(p b h l:Addr)(many wide i:Int)(o:Str)
theorem Sz:cT "first" (.int i) (RY p b many wide h l o)=nW p b many wide h l o i:=fO (by show ("first":Str)∉[("scheme":Str),"band","many","wide","homes","lines","opening"];decide+kernel)
theorem Ad:(nW p b many wide h l o i).lookup ("scheme":Str)=ρ (.ref p):=dH (fs:=[]) ∅
theorem gU:(nW p b many wide h l o i).lookup ("band":Str)=ρ (.ref b):=dH (fs:=Qs p) (by show ("band":Str)∉[("scheme":Str)];decide+kernel)
theorem DN:(nW p b many wide h l o i).lookup ("many":Str)=ρ (.int many):=dH (fs:=RX p b) (by show ("many":Str)∉[("scheme":Str),"band"];decide+kernel)
theorem eT:(nW p b many wide h l o i).lookup ("wide":Str)=ρ (.int wide):=dH (fs:=Qt p b many) (by show ("wide":Str)∉[("scheme":Str),"band","many"];decide+kernel)
theorem tu:(nW p b many wide h l o i).lookup ("homes":Str)=ρ (.ref h):=dH (fs:=Qu p b many wide) (by show ("homes":Str)∉[("scheme":Str),"band","many","wide"];decide+kernel)
theorem tD:(nW p b many wide h l o i).lookup ("lines":Str)=ρ (.ref l):=dH (fs:=Qv p b many wide h) (by show ("lines":Str)∉[("scheme":Str),"band","many","wide","homes"];decide+kernel)
theorem o9:(nW p b many wide h l o i).lookup ("opening":Str)=ρ (.str o):=dH (fs:=M6 p b many wide h l) (by show ("opening":Str)∉[("scheme":Str),"band","many","wide","homes","lines"];decide+kernel)
theorem BI:(nW p b many wide h l o i).lookup ("first":Str)=ρ (.int i):=dH (fs:=RY p b many wide h l o) (by show ("first":Str)∉[("scheme":Str),"band","many","wide","homes","lines","opening"];decide+kernel)
theorem qg(hn:n∉[("scheme":Str),"band","many","wide","homes","lines","opening","first"]):(nW p b many wide h l o i).lookup n=τ:=pU hn
end
end _B
namespace _L
open PySem.Spec PyProof.Rows PySem.Calls
section
variable{prog:Ê}{w:World}{A:Around}{E:Value->Shared->Prop}{s:Shared}
theorem tE:∀ns:List Int,preSum (λi=>ns.getD i 0) ns.9=ns.sum
 |[]=>rfl
 |n::ns=>by
  show preSum (λi=>(n::ns).getD i 0) (ns.9+1)=n+ns.sum;rw[PySem.W.kdu_shift,<-tE ns];rfl
theorem i7{h h':Heap}{p:Addr}{g:Array Value}(e:h.IsList p g)(hk:∀b o,h.get? b=ρ o->h'.get? b=ρ o):h'.IsList p g:=let ⟨o,a,r⟩:=e;{o,hk _ _ a,r}
noncomputable abbrev NU(t:Tok):List (Str×Value):=[(ĸ "start",.int 1 t)]
theorem JW(l:Addr)(t:Tok):checkTypeCall "enumerate" {[.ref l],NU t}=pure .unit:=by kernel_rfl
theorem JX(l:Addr)(t:Tok):weD "enumerate.__new__" {[.type "enumerate",.ref l],NU t}=pure .unit:=by kernel_rfl
theorem DP(o l:Addr)(t:Tok):argsOk "object.__init__" {[.ref o,.ref l],NU t}:=by unfold argsOk;kernel_rfl
theorem DQ(o l:Addr)(t:Tok):Meets (ķ.«object.__init__» {[.ref o,.ref l],NU t}) (λ_ R s=>s.TypeIs (.ref o) "enumerate"/\R (.ok (.ret .none)) s):=by
 have hl:=wfj.init.lookup;have c:=wfj.made;have a:(ρ "enumerate.__new__" != ρ "object.__new__")=true:=⋯;refine Meets.of_wp λprog w A R s ⟨d,b⟩=>?_
 repeat (any_goals (first |assumption |wp_step))
 exact{_,rfl,b}
theorem DR{P:Nat->Value->Prop}{St:Nat->Heap->Prop}(D:Draws prog w A it g n P St):Draws prog w A it g (n+1) (λj v=>∃i,j=i+1/\P i v) (λj h=>∃i,j=i+1/\St i h) where
 live:=λ_ _ {i,_,st}=>D.live i _ st
 frame:=λ_ h a ⟨i,e,st⟩ hk=>{i,e,D.frame i h a st hk}
 item:=λ_ s Q E l ⟨i,e,st⟩ b=>D.item i s Q E () st λx a c d f sb=>b x a c ⟨i,e,d⟩ {i+1,(),f} sb
 done:=λs Q E ⟨i,e,st⟩ k=>D.done s Q E ((show n=i by lia) ▸ st) k
theorem GC(g:A.handled=τ)(it l:Addr)(items:Array Value)(i:Nat)(p:items[i]?=τ):Draws prog w A it [it,l] (i+1) (λ_ _=>False) (λj h=>j=i+1/\h.IsListIter it l i/\h.IsList l items) where
 live:=λ_ _ {_,st,_}=>let ⟨o,a,_⟩:=st;⟨o,a⟩
 frame:=λ_ _ _ ⟨e,st,sl⟩ hk=>{e,st.at λo q=>hk it (by simp) o q,sl.at λo q=>hk l (by simp) o q}
 item:=λ_ _ _ _ b {e,_} _=>absurd e (Ù b)
 done:=λ_ _ _ {_,st,sl} c=>wpAny_nextOf_list_end g st sl p c
noncomputable def JY(K:Á)(a:Addr):It:=
 {λi H=>∃xs x,aO K H a xs/\xs[i]?=ρ x,λi H x H'=>∃T xv,H T=τ/\x=.ref T/\H'=upd H T (.tup [.int ((i+1:Nat):Int),xv])/\∀xs,aO K H a xs->xs[i]?=ρ xv,λi H=>∃xs,aO K H a xs/\xs.9<=i}
def Px(K:Á)(ta:TA):TI:=λσ H R=>ta σ H λvs H1=>∃a xs,vs=[.ref a]/\aO K H1 a xs/\R (JY K a) H1
theorem GD{K:Á}{a:Addr}{xs:List V}{g:TG}{C:TS}{D:Ends}{σ:St}{H:Hp}(Pv:Nat->St->Hp->Prop)(h0:Pv 0 σ H)(hl:∀i σ H,i<=xs.9->Pv i σ H->aO K H a xs)
 (hs:∀i x σ H T,xs[i]?=ρ x->Pv i σ H->H T=τ->g (.ref T) σ (upd H T (.tup [.int ((i+1:Nat):Int),x])) λj t=>C (D.lp (Pv (i+1))) j t) (hd:∀σ H,Pv xs.length σ H->D.nx σ H) :
 ∃W:Nat->Nat->St->Hp->Prop,(∃m,W 0 m σ H)/\∀i m σ H,W i m σ H ->
  ((JY K a).stop i H/\D.nx σ H)\/((JY K a).go i H/\∃N:St->Hp->Prop,(∀l r,N l r->∃I,I<m/\W (i+1) I l r)/\∀x r,(JY K a).uY i H x r->g x σ r λj t=>C (D.lp N) j t):=by
 refine{λi m σ H=>m=xs.9-i/\i<=xs.9/\Pv i σ H,{xs.9,by simp,Û _,h0},?_};rintro i m σ H ⟨rfl,hi,p⟩;have q:=hl i σ H hi p
 by_cases b:i<xs.9
 .refine .inr {{xs,xs[i],q,by simp[b]},Pv (i+1),λl r c=>{xs.9-(i+1),(),rfl,b,c},λx r y=>?_}
  let{T,d,f,h,k,y}:=y
  subst h k;exact hs i d σ _ T (y xs q) p f
 .have e:i=xs.9:=();subst e;exact .inl {{xs,q,Ä _},hd σ H p}
end
section
variable{t:TA}
def SA(K:Á)(t:TA):TE:=λσ H Q=>t σ H λvs H1=>∃(a:Addr) (ps:List Addr),vs=[.ref a]/\aO K H1 a (ps.map V.ref)/\ps≠[]/\(∀q∈ps,∃ys,aO K H1 q ys)/\∀q∈ps,Q (.ref q) H1
theorem Ae{E:Value->Shared->Prop}{Q:Value->Shared->Prop}(l:args.any (·.1)=false)(p:j.any (·.1.isNone)=false)
 (h:wpAny M A (evalArgs (.type T) true args j) (λa g=>wpAny M A (call (.type T) (first++a.pos) a.kw) Q E g) E s):wpAny M A (callWith pos (.type T) first args j) Q E s:=by
 unfold callWith;refine Â (þ (í h (λa g b=>Â (Η ?_)) λ_ _ x=>x));simp only[l,p,Bool.or_false];exact Â (Ï (Â (í b (λr c d=>Â (þ (wpAny_point (Ï d)))) λ_ _ x=>x)))
end
section
variable{prog:Ê}{w:World}{A:Around}{s:Shared}{l I S:Addr}{vs:List Value}{R:ī->Shared->Prop}
theorem Af(kf:Nat->Int)(hh:A.handled=τ)(hl:s.heap.IsList l vs.6)(hI:I=s.8)(Py:S≠I)(hS0:s.8<=S)
 (turn:∀(i:Nat) (v:Value),vs[i]?=ρ v->∃p items,v=.ref p/\s.heap.IsList p items/\(items.size:Int)=kf i/\(items.size:Int)<2^63)
 (hR:∀(v:Value) (h':Heap) (DS:Nat),v∈vs->(∀b o,s.heap.get? b=ρ o->h'.get? b=ρ o)->R (.ok (.ret v)) {s with heap:=h',toks:=DS}) :
 ∀(r j i:Nat) (h:Heap) (tk:Nat) (vb:Value) (tb:Tok) (c:Nat),vs.9-(j+1)=r->j+1<=vs.9->(∀b o,s.heap.get? b=ρ o->h.get? b=ρ o) ->
  h.get? S=ρ (seqObj "list" #[vb,.int (kf i) tb] c)->h.IsListIter I l (j+1)->vs[i]?=ρ vb ->
  codeAny (model prog w) A (.builtin "min.loop" {[.ref I,.builtin "len",.ref S],[]}) R {s with heap:=h,toks:=tk}:=by
 have BJ:(toString "min"++toString ".loop":String)="min.loop":=⋯;have DT:l<s.8:=let ⟨o,ho,_⟩:=hl;Ì ho
 have SD:l≠I:=by rw[hI];exact Ù DT
 have W:=wfF (prog:=prog) (w:=w) (A:=A.in1) hh I l SD vs.6;have hsz:vs.toArray.size=vs.9:=å ..
 have old:∀{b:Addr} {o:Obj},s.heap.get? b=ρ o->b≠S/\b≠I:=λ{b o} e=>by
  have hb:b<s.8:=Ì e;exact{Ù (â hb hS0),by rw[hI];exact Ù hb}
 intro r
 induction r with
 |zero=>
  intro j i h tk vb tb c hr hj mono nS hit VD;have hin:j+1=vs.9:=1.0;refine Ĺ wew ?_;rw[Ŕ Ż _];show wpAny _ A.in1 (ε (.ref S) >>= _) _ _ _;refine Â (Ž nS rfl ?_);show wpAny _ A.in1 (tryCatch (pyNext (.ref I)) _ >>= _) _ _ _;refine Â (Į (W.done _ _ _ {by rw[hsz,<-hin];exact hit,i7 hl mono} λh' DS Lb=>?_));have hS':=Lb S _ (by simpa using Py) nS;have s1:=wf8 h' S (ņ λ_=>(#[]:Array Value));show wpAny _ A.in1 (whB S (λ_=>#[]) >>= _) _ _ _;refine Â ?_;refine Ο hS' rfl (Â (ũ (Ï ?_)));exact hR vb _ _ (Ð VD) λb o e=>(s1.2 b (old e).1).trans (Lb b o (by simpa using(old e).2) (mono b o e))
 |succ r ih=>
  intro j i h tk vb tb c hr hj mono nS hit VD;have Pz:j+1<vs.9:=1.0;refine Ĺ wew ?_;rw[Ŕ Ż _];show wpAny _ A.in1 (ε (.ref S) >>= _) _ _ _;refine Â (Ž nS rfl ?_);show wpAny _ A.in1 (tryCatch (pyNext (.ref I)) _ >>= _) _ _ _;refine Â (Į (W.item (j+1) _ _ _ (by rw[hsz];exact Pz) {hit,i7 hl mono} λv h' DS hP MO Lb=>?_));have hv:vs[j+1]?=ρ v:=by simpa using hP
  have z7:∀b o,s.heap.get? b=ρ o->h'.get? b=ρ o:=λb o e=>Lb b o (by simpa using(old e).2) (mono b o e);have Qz:=Lb S _ (by simpa using Py) nS
  let{p,items,rfl,hp,VE,GF}:=turn (j+1) v hv
  show wpAny _ A.in1 (tryCatch (holding [È p] (call (.builtin "len") [.ref p])) _ >>= _) _ _ _;refine Â (Į (þ (wf5 (i7 hp z7) GF ?_)));rw[VE];show wpAny _ A.in1 (tryCatch (holding [È p,.int (kf (j+1)) _] (richCompare .Lt (.int (kf (j+1)) _) (.int (kf i) tb) >>= _)) _ >>= _) _ _ _;refine Â (Į (þ (Â (CmpOf.ints_lt (prog:=prog) (w:=w) (A:=A.in1) (P:=λi v=>∃t,v=.int (kf i) t) kf (λi v h=>h) (j+1) i _ _ _ _ _ {_,rfl} ⟨tb,rfl⟩ ?_))));refine Â (þ (ř ?_));refine Â (ũ (Ï ?_))
  by_cases JZ:kf (j+1)<kf i
  .simp only[JZ,decide_true,if_true];refine Â ?_;refine Ο Qz rfl (Â (ũ ?_));rw[BJ];have s1:=wf8 h' S (ņ λ_=>#[È p,.int (kf (j+1)) (DS+1)]);obtain⟨c2,VF⟩:∃c2,(h'.update S (ņ λ_=>#[È p,.int (kf (j+1)) (DS+1)])).get? S=ρ (seqObj "list" #[È p,.int (kf (j+1)) (DS+1)] c2):={_,get?_update_seq Qz λ_=>#[È p,.int (kf (j+1)) (DS+1)]};refine Ï {Ŏ Ż _,ih (j+1) (j+1) _ _ _ _ c2 1.0 Pz (λb o e=>(s1.2 b (old e).1).trans (z7 b o e)) VF ?_ hv}
   let{VG,PB,VH}:=id MO.1
   exact{VG,(s1.2 I Py.symm).trans PB,VH}
  .simp only[JZ,decide_false,Ŗ,if_false];refine Â (ũ ?_);rw[BJ];exact Ï {Ŏ Ż _,ih (j+1) i _ _ vb tb c 1.0 Pz z7 Qz MO.1 VD}
end
end _L
namespace _L
open PySem.Spec PyProof.Rows
section
variable{X:Cx}
theorem MP(g:ss.Perm (bU ws "" ws))(hw:∀w∈ws,1<=w.9)(j:bears ws r=false) :
 uR ws ss (lend ss r) c=if bears ws (r++{#[c]})=true then .non else .str (lend ss (r++{#[c]})):=by
 unfold uR;rw[kY g j hw,nU g j]
theorem DU(he:("":Str)∈ss)(h:t∈ik g ws ss p):t∈ss:=by grind [ik,qf]
theorem iT{ss:List Str}(nd:ss.Nodup){i:Nat}{p:Str}(h:ss[i]?=ρ p):p∉ss.take i:=by
 intro b
 let{j,c,a}:=wf0.mp b
 rw[wfB]at a;rw[Ú]at c;have d:=(Ñ.mp h).2;have:=(Ř nd).mp (a.trans d.symm)
 lia
theorem b8.same(t:b8 H rs g)(s:a8 H j):b8 j rs g:=t.keep λr a h=>s _ _ h
theorem Rd.same(h:Rd H a u)(s:a8 H g):Rd g a u:=by
 rcases h with h |⟨o,h⟩
 .exact .inl (s _ _ h)
 .exact .inr {o,s _ _ h}
theorem K0(e:Nat)(rs:List Nat):∃g,putK (dB rs) (á (e:Int):Key) (.bl true)=dB g/\(∀x,x∈g↔x∈rs\/x=e)/\g.9<=rs.9+1:=by
 by_cases h:e∈rs
 .refine{rs,?_,λx=>{.inl,λz=>z.elim id λz=>z ▸ h},Ġ _};delta putK;rw[if_pos (show ((dB rs).any λb=>decide (b.1=(á (e:Int):Key)))=true from ō.mpr {((á (e:Int):Key),V.bl true),Æ.mpr ⟨e,h,rfl⟩,decide_eq_true rfl})];refine(ĕ λb a=>?_).trans (List.map_id _)
  let{n,1}:=Æ.mp a
  show (if _ then _ else _)=_;split<;>rfl
 .exact{rs++[e],J0 h,λx=>by rw[ä,Þ],by rw[É];exact Ä _}
theorem BK(hc:X.calm=true):dO X (.type "list") (λxs H Q=>∃(p:Addr) (i j:Int),xs=[.ref p]/\H p=ρ (.rng i j)/\0<=i/\i<=1000000/\-1000000<=j/\j<=1000000/\∀l,H l=τ->Q (.ref l) (upd H l (.lst ((Ö (j-i).toNat).map λk=>V.int (i+(k:Nat)))))):=by
 intro g s σ H xs b Q I r h
 let{p,i,j,rfl,x,E,G,J,L,q}:=h
 let{u,rfl,y}:=vals1 r
 cases y
 let{t,u,v,e}:=I.b6 p _ x
 have hn:(j-i).toNat<=2^24:=();refine call_list_range (I.ok.hd hc) (n:=(j-i).toNat) (show IsRange s.heap p i j 1 t u v from e) (small_one () () () ()) (by rw[wh7];split<;>lia) hn λf z d c kp A a=>?_
 have B:∀(b:List Value) (k:Nat),(∀(m:Nat) (u:Value),b[m]?=ρ u->∃t,u=.int (i+((k+m:Nat):Int)) t)->Vals ((wff k b.9).map λm=>V.int (i+(m:Nat))) b:=by
  intro b
  induction b with
  |nil=>intro k _;exact .nil
  |cons u b C=>
   intro k h
   let{t,e}:=h 0 u rfl
   rw[ê,wfP,Ó];refine .cons ⟨t,e⟩ (C (k+1) λj u f=>?_)
   let{t,e}:=h (j+1) u (by simpa using f)
   exact{t,by rw[e];congr 1;lia}
 have hl:d.toList.9=(j-i).toNat:=by rw[Ŷ];exact a.1
 have o:=B d.toList 0 λm u e=>by
  let{t,D}:=a.2 m u (by rw[<-Ź];exact e)
  exact{t,by rw[D,wfY,Int.mul_one]}
 rw[hl,<-wgS]at o;refine{.ref s.8,_,I.laid (t':=z) kp (Ä _) (show bP X.prog X.w _ f _ (.lst ((Ö (j-i).toNat).map λk=>V.int (i+(k:Nat)))) from {?_,d.toList,c,o,?_}),rfl,q _ (I.b6.fresh (Ä _))}
 .rw[À,ì,Ē]
  lia
 .rw[wd4];exact A
end
section
variable{X:Cx}{e:Expr}{te:TE}{pos p:Pos}
theorem xH(g:X.mg "len"=τ)(h:PE X e te)(j:Gl X "len":=by rfl)(he:starEach [e] X.5=(false,eval e X.5)::starEach [] X.5:=by rfl)(hpl:(backTo pos (starEach [] X.5)).any (·.1)=false:=by rfl) :
 PE X (.Call (.Name "len" p) [e] [] pos) (U2 (λxs H Q=>∃z,xs=[.str z]/\z.9<=sizeLine/\Q (.int z.9) H) (sQ te zu)):=aF zM j g wel (a7 h fG he) (he:=he) (hpl:=hpl)
theorem K6(g:X.mg "len"=τ)(h:PE X e te)(j:Gl X "len":=by rfl)(he:starEach [e] X.5=(false,eval e X.5)::starEach [] X.5:=by rfl)(hpl:(backTo pos (starEach [] X.5)).any (·.1)=false:=by rfl) :
 PE X (.Call (.Name "len" p) [e] [] pos) (U2 (λxs H Q=>∃p ys,xs=[.ref p]/\(aO X.K H p ys\/gM X.K H p ys)/\Q (.int ys.9) H) (sQ te zu)):=aF pP j g wel (a7 h fG he) (he:=he) (hpl:=hpl)
end
section
variable{X:Cx}{H:Hp}{scope:Ă}{x x2 x3:Str}{ys:List Str}{ix:List Nat}{cl:List (Str×Addr)}{L:Addr}
theorem BL(hc:X.calm=true)(B:cb X scope x ys ix)(g:cb X scope x2 ys ix)(j:x≠x2)(cl L s H ex pn):PG (bH X scope ([x,x2]++ys) cl L s H ex pn) (.Tuple [.Name x p,.Name x2 l] r pt) (HN X.K 2 (ml (bR 0) (ml (bR 1) HM))):=by
 have c:(relabel scope X.5).names.lookup x=ρ .local:=Ξ B.var;have a:(relabel scope X.5).names.lookup x2=ρ .local:=Ξ g.var
 have b:(x::x2::ys).Nodup:=by
  have:=B.nd;have:=g.nd
  grind
 exact eE hc (aQ (ky b rfl (.inl c) (.inr c)) (aQ (ky b rfl (.inl a) (.inr a)) d1))
theorem K7(hc:X.calm=true)(B:cb X scope x ys ix)(g:cb X scope x2 ys ix)(B3:cb X scope x3 ys ix)(j:x≠x2/\x≠x3/\x2≠x3)(cl L s H ex pn):PG (bH X scope ([x,x2,x3]++ys) cl L s H ex pn) (.Tuple [.Name x r,.Name x2 l,.Name x3 p] t pt) (HN X.K 3 (ml (bR 0) (ml (bR 1) (ml (bR 2) HM)))):=by
 have d:(relabel scope X.5).names.lookup x=ρ .local:=Ξ B.var;have b:(relabel scope X.5).names.lookup x2=ρ .local:=Ξ g.var;have c:(relabel scope X.5).names.lookup x3=ρ .local:=Ξ B3.var
 have a:(x::x2::x3::ys).Nodup:=by
  have:=B.nd;have:=g.nd;have:=B3.nd
  grind
 exact eE hc (aQ (ky a rfl (.inl d) (.inr d)) (aQ (ky a rfl (.inl b) (.inr b)) (aQ (ky a rfl (.inl c) (.inr c)) d1)))
end
section
variable{P:Ê}{w:World}{K:Á}{mg:Str->Option Value}{base:Heap}{x qual:Str}{st:Stmt}{f:Addr}{fd:ï}{N ps:List Str}{k:Nat}{sp:Sp}
theorem zy.dM(F:zy K x qual st f fd)
 (l:∀(j:Value) (A:Around) (outer:List Env) (s:Shared) (H:Hp) (vs:List V) (Q:VK) (E:XK),N.Nodup->dJ k (A.deeper (envOfC qual (aL st) s.heap.objs.size f j))->sp vs H Q E ->
   ∃t,xG (vr d4 P w K mg base N qual (aL st) f j A outer s H E).HC (cn st) t/\t (Ends.fn Q) (start N vs) H)
 (a:(aL st).kind=.function:=by rfl) (b:(aL st).isCoroutine=false:=by rfl) (c:(aL st).isGenerator=false:=by rfl) (nd:N.Nodup:=by decide+kernel) (e:N.take ps.9=ps:=by rfl)
 (g:∀x∈ps,(aL st).names.lookup x=ρ .local\/(aL st).names.lookup x=ρ .cell:=by decide+kernel) (h:∀y∈(aL st).names,y.2≠.free:=by decide+kernel)
 (len:∀vs H Q E,sp vs H Q E->vs.9=ps.9:=by intro _ _ _ _ h;cases h;subst_vars;rfl):aR P w K mg base d4 (k+1) f fd ps sp:=
 F.ok ⟨a,b,c,nd,e,g,h⟩ len λj A outer s H vs Q E=>l j A outer s H vs Q E nd
theorem zy.wH(F:zy K x qual st f fd)
 (l:∀(j:Value) (A:Around) (outer:List Env) (s:Shared) (H:Hp) (vs:List V) (Q:VK) (E:XK),N.Nodup->dJ k (A.deeper (envOfC qual (aL st) s.heap.objs.size f j))->sp vs H Q E ->
   ∃t,xG (vr (uM P w) P w K mg base N qual (aL st) f j A outer s H E) (cn st) t/\t (Ends.fn Q) (start N vs) H)
 (a:(aL st).kind=.function:=by rfl) (b:(aL st).isCoroutine=false:=by rfl) (c:(aL st).isGenerator=false:=by rfl) (nd:N.Nodup:=by decide+kernel) (e:N.take ps.9=ps:=by rfl)
 (g:∀x∈ps,(aL st).names.lookup x=ρ .local\/(aL st).names.lookup x=ρ .cell:=by decide+kernel) (h:∀y∈(aL st).names,y.2≠.free:=by decide+kernel)
 (len:∀vs H Q E,sp vs H Q E->vs.9=ps.9:=by intro _ _ _ _ h;cases h;subst_vars;rfl):aR P w K mg base (uM P w) (k+1) f fd ps sp:=
 F.okE ⟨a,b,c,nd,e,g,h⟩ len λj A outer s H vs Q E=>l j A outer s H vs Q E nd
end
end _L
namespace K54
structure Txt(mg:Str->Option Value):Prop where
 «ValueError»:mg "ValueError"=τ
 «all»:mg "all"=τ
 «any»:mg "any"=τ
 «bool»:mg "bool"=τ
 «dict»:mg "dict"=τ
 «enum»:mg "enumerate"=τ
 «int»:mg "int"=τ
 «tF»:mg "isinstance"=τ
 «len»:mg "len"=τ
 «list»:mg "list"=τ
 «max»:mg "max"=τ
 «min»:mg "min"=τ
 «range»:mg "range"=τ
 «reversed»:mg "reversed"=τ
 «set»:mg "set"=τ
 «sorted»:mg "sorted"=τ
 «str»:mg "str"=τ
 «sum»:mg "sum"=τ
structure GH(K:Á)(C:Addr):Prop where
 cl:AA K C
 qh:bY K C "scheme"
 p9:bY K C "band"
 K8:bY K C "many"
 kZ:bY K C "wide"
 gm:bY K C "homes"
 d2:bY K C "lines"
 sy:bY K C "opening"
 F7:bY K C "first"
inductive cuA(g:Str)(ws ss:List Str)(ev:List (Str×Addr))(o:Obj)(x de lt:Addr)(n:Int)(H:Hp)(i:Nat)(σ:St)(H4:Hp):Prop
 |mk (ts:List Addr) (dc:Addr) (v4 v6 v7:Option V) (_:σ=[ρ (.ref x),ρ (.int n),ρ (.ref de),ρ (.ref dc),v4,ρ (.ref lt),v6,v7]) (_:ts.9=i+1) (_:ts[i]?=ρ dc) (_:H4 lt=ρ (.lst (ts.map V.ref))) (_:∀j t,ts[j]?=ρ t->H4 t=ρ (.dK (Pj g ws ss j))) (_:H4 de=ρ (.frz o (.dK (cN ev)))) (_:∀m∈ev,H4 m.2=ρ (.lst ((ik g ws ss m.1).map V.str))) (_:a8 H H4)
inductive MQ(C:Addr)(vs:List V)(H:Hp)(Q:VK)(eF:XK):Prop
 |mk (x r g ws ss ls) (_:vs=[.ref x,.str r]) (_:b4 C H x g ws ss ls) (_:(∀c∈ch r,c∈ch g)) (_:ws.9<=1000) (_:∀H',a8 H H'->Q (.bl (!bears ws r)) H')
theorem Ag{ws:List Str}{g:Str}(h:∀u∈ws,∀c∈ch u,c∈ch g):∀c∈ch (cat ws),c∈ch g:=λc hc=>by
 rw[Ji]at hc
 let{l,a,b}:=wib.mp hc
 let{u,d,rfl}:=Æ.mp a
 exact h u d c b
theorem K9{X:Cx}{x:Str}{i:Nat}{g:List Expr}{ps:List (Int×Int)}{rest:List Stmt}{b:TS}{j l p:Pos}(r:X.N.Nodup)(hi:X.N[i]?=ρ x)(t:Loc X.env.scope x)(C:∀X,PA X g (ve ps))(I:xG X rest b)
 (hs:Ċ (.List g l) (ρ (.Name x j)) p.line X.5=pure false:=by rfl) (J:X.fn x=true\/X.env.scope.names.lookup x=ρ .local:=by first |exact .inl rfl |exact .inr rfl |assumption) :
 xG X (.Assign [.Name x j] (.List g l) p::rest) (Ow (LJ (Rj (ve ps)) (bR i)) b):=a5 (Il (i:=i) r hi t (bI (C _)) hs J) I
theorem PD{g:Str}(j:yS g){k:Nat}(h:({#[k]}:Str)∈yU):k∉ch g:=λhk=>(by decide+kernel:∀s∈yU,∀c∈ch s,c∉ch fQ) _ h k (Þ.mpr rfl) (j.sub k hk)
theorem Ka{r l g:Str}(j:∀c∈ch r,c∈ch g)(hl:∀c∈ch l,c∈ch g):∀c∈ch (r++l),c∈ch g:=λc h=>by
 rw[aV]at h;rcases ä.mp h with h |h
 .exact j c h
 .exact hl c h
end K54
namespace _B
theorem eQ.same{H g:Hp}{l:Addr}{rs:List Addr}{j:List (Str×Str)}(r:eQ H l rs j)(s:a8 H g):eQ g l rs j:={s _ _ r.l,r.t.same s}
theorem eQ.push{H:Hp}{l:Addr}{rs:List Addr}{g:List (Str×Str)}(R:eQ H l rs g){r:Addr}(j:H r=τ)(q:Str×Str):eQ (upd (upd H r (.tup (mz q))) l (.lst (rs.map V.ref++[.ref r]))) l (rs++[r]) (g++[q]):=by
 have hl:(upd H r (.tup (mz q))) l=ρ (.lst (rs.map V.ref)):=a8.upd j _ _ R.l;refine{by rw[a6,Ü];rfl,?_};rw[Ü];refine b8.keep ((R.t.same (a8.upd j)).snoc a6) λa b h=>?_;rw[ae (λz=>by rw[z,hl]at h;cases h)];exact h
theorem GI(x:Str){i j:Nat}(h:i<=j)(g:j<=x.9):ch (î x (ρ (i:Int)) (ρ (j:Int)))=((ch x).take j).drop i:=by
 rw[mE,StrLaws.sliceText_nat x h g,wgN]
theorem Ah{n:Nat}{ws:List Str}(h:∀w∈ws,w.9=n){i j:Nat}(g:i<=j)(l:j<=ws.9):î (cat ws) (ρ ((n*i:Nat):Int)) (ρ ((n*j:Nat):Int))=cat ((ws.take j).drop i):=by
 refine dA ?_;rw[GI _ (Ũ _ g) (by rw[fD h];exact Ũ _ l),Bn h,Bm λw hw=>h w (ő hw)]
theorem PF{n:Nat}{ws:List Str}(h:∀w∈ws,w.9=n)(j:Nat):î (cat ws) τ (ρ ((n*j:Nat):Int))=cat (ws.take j):=by
 refine dA ?_;rw[Bj,Bn h]
theorem Kb{n:Nat}{ws:List Str}(h:∀w∈ws,w.9=n)(j:Nat):î (cat ws) (ρ ((n*j:Nat):Int)) τ=cat (ws.drop j):=by
 refine dA ?_;rw[p5,Bm h]
theorem Kc(z:Str)(n:Nat):ch (Ĝ z (n:Int))=(Ý n (ch z)).flatten:=by
 unfold Ĝ
 by_cases c:(n:Int)<1
 .rw[if_pos c];obtain rfl:n=0:=1.0;rfl
 .rw[if_neg c]
  by_cases a:((n:Int)==1 ||z.9==0)=true
  .rw[if_pos a];rcases Bool.or_eq_true_iff.mp a with b |b
   .obtain rfl:n=1:=by have:=eq_of_beq b;omega
    simp
   .rw[se (eq_of_beq b)];simp
  .rw[if_neg a,ç];exact Jj z n #[]
theorem Ai(z:Str)(n:Nat):(Ĝ z (n:Int)).length=n*z.9:=by
 rw[<-aP,Kc,List.length_flatten,List.map_replicate,List.sum_replicate_nat,aP]
theorem PH(z:Str)(n:Nat):∀c∈ch (Ĝ z (n:Int)),c∈ch z:=λc h=>by
 rw[Kc]at h
 let{l,b,a}:=wib.mp h
 rw[(η.mp b).2]at a;exact a
end _B
namespace _L
open PySem.Spec PyProof.Rows PySem.W Builtin Builtin.ObjectAttr
section
variable{name:Str}
noncomputable abbrev SE:List Value:=[.type "ValueError",.type "Exception",.type "BaseException",.type "object"]
noncomputable abbrev mh(CB:Addr):List Value:=.ref CB::SE
theorem GJ{fs:List (Str×V)}{g:Str->Option Value}(r:∀f,jw (fs.lookup f) (g f)):weP g (fs.map (·.1)):=λy c=>by
 have h:=r y
 cases e:fs.lookup y with
 |none=>
  rw[e]at h
  cases d:g y with
  |none=>exact absurd d c
  |some z=>rw[d]at h;exact h.elim
 |some z=>
  clear h r c
  induction fs with
  |nil=>cases e
  |cons p fs i=>
   let{a,b}:=p
   by_cases ha:y=a
   .rw[ha];exact Ø ..
   .rw[ĉ,show (y==a)=false from beq_eq_false_iff_ne.mpr ha]at e;exact Ô _ (i e)
theorem BM(h:fs.lookup name=τ)(f:Str):(fs++[(name,y)]).lookup f=if f=name then ρ y else fs.lookup f:=by
 grind
end
section
variable{prog:Ê}{w:World}{A:Around}{E:Value->Shared->Prop}{s:Shared}{K:Á}{x C CB:Addr}{name:Str}{v:Value}
theorem Kd{Q:Value->Shared->Prop}(X:K.In s.heap)(I:InstAt s.heap x ox C (ρ od))(hc:clsIn K C=ρ cd)(l:cd.mro=.ref C::mh CB)(p:cd.hasDict=true)
 (g:findIn K (.ref C) "__getattribute__"=ρ (ρ (.builtin "BaseException.__getattribute__"))) (j:findIn K (.ref C) "__getattr__"=ρ τ) (ha:findIn K (.ref C) name=ρ τ)
 (hl:lookIn name od=ρ (ρ v)) (r:handedIn v=true) (h:Q v {s with toks:=s.toks+1}):wpAny (model prog w) A (getAttr (.ref x) name expr) Q E s:=by
 have G:=wfr.ga;refine Â (wpAny_mkText (þ (Â (I.type _ _ _ _ (λ_ _ e=>e) (Â (ς X g _ _ _ _ (λ_ _ e=>e) ?_))))));dsimp only;rw[show (Ť (È C)&&Ŋ "BaseException.__getattribute__" == Ŋ "object.__getattribute__")=false from by rw[show (Ŋ "BaseException.__getattribute__" == Ŋ "object.__getattribute__")=false from by decide+kernel,ů],if_neg ⋯];have a:Looks (model prog w) s.heap (hookBefore (.ref C)) τ:=looks_hook X (by show (if Ť (È C) then findIn K (.ref C) "__getattr__" else ρ τ)=ρ τ;rw[if_pos (show Ť (È C)=true from rfl)];exact j);refine Â (a _ _ _ _ (λ_ _ e=>e) (Â (wha (þ ?_))));unfold callGetattribute;rw[show (expr&&Ť (Ŋ "BaseException.__getattribute__"))=false from ů _,if_neg ⋯];unfold boundAndCalled;rw[G.bind];refine Â (Ï ?_);show wpAny _ _ (call (.builtin "BaseException.__getattribute__") [.ref x,.str name s.toks]) _ _ _;refine ě ?_;have sub:Looks (model prog w) s.heap (wfI (.ref x) (.type "BaseException")) true:=I.type.andThen (wgw X (by unfold mroIn;rw[hc,wdM,l];rfl));refine ż G.plain wgO ?_;refine @whg (model prog w) _ _ {s with toks:=s.toks+1} "BaseException.__getattribute__" "BaseException" "__getattribute__" (.ref x) [.str name s.toks] [] _ ∅ ∅ sub (wgZ (.ref x) (.str name s.toks)) ?_
 have b:findObj K C (ρ od) name=ρ (.value v):=by
  unfold findObj;rw[hc,ha];simp only[wdM];unfold PySem.W.ownOf;rw[p,if_pos rfl];dsimp only;rw[hl];rfl
 have c:=I.type (M:=model prog w);have d:=looks_find (M:=model prog w) X I b;unfold ķ.«object.__getattribute__»;refine Â (Ï ?_);refine Â (Ï (Â (c _ _ _ _ (λ_ _ e=>e) (Â (d _ _ _ _ (λ_ _ e=>e) ?_)))));refine Ï ?_;show wpAny _ _ (handedOut v) _ _ _;rw[handedOut_of r];exact Ï h
end
section
variable{prog:Ê}{w:World}{A:Around}{s:Shared}{K:Á}{x C CB f:Addr}{name:Str}{v:Value}{R:ī->Shared->Prop}
theorem z8(X:K.In s.heap)(I:InstAt s.heap x ox C od)(hc:clsIn K C=ρ cd)(hm:cd.mro=.ref C::mh CB)(ha:findIn K (.ref C) name=ρ τ)
 (h:wpAny (model prog w) A.in1 (storeInOwnDict (.ref x) (.ref C) (.str name tk) name v false)
   (λfin s'=>match fin with |.done f=>R (.ok f) s' |.again c'=>c'.quiet=true/\codeAny (model prog w) A c' R s') (λe s'=>R (.error e) s') s) :
 codeAny (model prog w) A (.call (.builtin "object.__setattr__") {[.ref x,.str name tk,v],[]}) R s:=by
 have SF:=PySem.F.store_object;have sub:Looks (model prog w) s.heap (wfI (.ref x) (.type "object")) true:=I.type.andThen (wgw X (by unfold mroIn;rw[hc,wdM,hm];rfl));refine ż SF.slot.plain SF.entry (@whg (model prog w) _ _ s "object.__setattr__" "object" "__setattr__" (.ref x) [.str name tk,v] [] _ SF.kind SF.split sub (SF.args (.ref x) (.str name tk) v) ?_);have VI:Looks (model prog w) s.heap (mroOf (.ref C)) cd.mro:=(weq X hc).andThen .now;have L3:Looks (model prog w) s.heap (storeTaker? τ) τ:=.now;rw[osa_eq,refuse_eq];refine Â (Â (I.type.here (Â (VI.here ?_))));rw[hm,refuseLoop_ref,refuseLoop_ref,PySem.F.store_ValueError.passes];refine Ï (Â (I.type.here (Â ((ς X ha).here (Â (L3.here ?_))))));exact h
end
section
variable{prog:Ê}{w:World}{A:Around}{E:Value->Shared->Prop}{s:Shared}{K:Á}{x C CB:Addr}{mA:Str->Option Value}{name:Str}{v:Value}
theorem GK{Q:Unit->Shared->Prop}(X:K.In s.heap)(hx:s.heap.get? x=ρ (uK C d t))(hd:s.heap.Ns1 d mA)(hw:weP mA ns)(hl:ns.9<=100)(hc:clsIn K C=ρ cd)(hm:cd.mro=.ref C::mh CB)(hh:cd.hasDict=true)(ha:findIn K (.ref C) name=ρ τ)
 (hs:findIn K (.ref C) "__setattr__"=ρ (ρ (.builtin "object.__setattr__")))
 (h:∀h' tk,(∀b,b≠d->h'.get? b=s.heap.get? b)->h'.Ns1 d (λy=>if y=name then ρ v else mA y)->Q .unit {s with heap:=h',toks:=tk}) :
 wpAny (model prog w) A (setAttr (.ref x) name v) Q E s:=by
 let{od,es,ep,e1,_}:=id hd
 have J:InstAt s.heap x (uK C d t) C (ρ od):=⟨hx,rfl,rfl,e1⟩;refine wfy X J hs (z8 (s:={s with toks:=s.toks+1}) X J hc hm ha ?_);unfold storeInOwnDict;refine Â (Ï ?_);rw[if_neg (by simp)];unfold ownDictForStores instanceDict;refine Â (Â (wfb hx ?_));dsimp only;refine Â (wfh (s:={s with toks:=s.toks+1}) (weq X hc) ?_);rw[hh];simp only[whb,Ŗ,if_false];refine Ï ?_;show wpAny _ _ (storeInDict d (.str name s.toks) name v) _ _ _;unfold storeInDict newKeyGuard;refine Â (Ï (Â (whx hd λh' Cj NF=>?_)))
 let{oD,esD,epD,VJ,VL,VM}:=Cj.count (wgi name v hw)
 refine Â (wfQ VJ (by rw[VL];exact wfR (Í VM (by rw[ê,Ē];omega))) ?_)
 wp_walk
 exact h h' _ (λb hb=>NF.2 b hb) Cj
end
end _L
namespace _L
open PySem.Spec PyProof.Rows
structure bJ(K:Á)(C CB:Addr)(nm:Str):Prop where
 lk:∃(q:Str) (N:Addr) (bs:List Value) (sn:List Str) (sub:List Value) (ab:Bool) (col:Option Bool) (dd:Option Addr) (k0 k1 k2 k3 k5:Option Value),
  K.lookup C=ρ (ć nm q C N bs (mh CB) true sn sub ab col dd k0 k1 k2 k3 k5 "ValueError.__new__")
 sa:findIn K (.ref C) "__setattr__"=ρ (ρ (.builtin "object.__setattr__"))
 ga:findIn K (.ref C) "__getattribute__"=ρ (ρ (.builtin "BaseException.__getattribute__"))
 gh:findIn K (.ref C) "__getattr__"=ρ τ
 kp:keepIn K (.ref C)=true
structure DV(K:Á)(CB:Addr)(nm:Str):Prop where
 lk:∃(q:Str) (N:Addr) (bs:List Value) (hd:Bool) (sn:List Str) (sub:List Value) (ab:Bool) (col:Option Bool) (dd:Option Addr) (k0 k1 k2 k3 k5:Option Value),
  K.lookup CB=ρ (ć nm q CB N bs SE hd sn sub ab col dd k0 k1 k2 k3 k5 "ValueError.__new__")
def VN(K:Á)(CB:Addr)(tb:CA)(j i:Nat):TS:=λD σ H=>tb (λσ' cv od H'=>∃C nm,cv=.ref C/\bJ K C CB nm/\∀e,H' e=τ->D.nx (((σ'.set j (ρ (.ref e))).set i (ρ (.ref e))).set j τ) (upd H' e (XC e C od))) D σ H
mutual
theorem bN.same{K:Á}{H g:Hp}(s:a8 H g):∀(d:kj) (v:V),bN K H d v->bN K g d v
 |.at _,_,h=>h
 |.tup c,_,h=>by
  let{a,b,e,f,hl}:=h
  exact{a,b,e,s _ _ f,bz.same s c b hl}
 |.lst c,_,h=>by
  let{a,b,e,f,hl}:=h
  exact{a,b,e,pG s f,bz.same s c b hl}
theorem bz.same{K:Á}{H j:Hp}(s:a8 H j):∀(g:List kj) (xs:List V),bz K H g xs->bz K j g xs
 |[],_,h=>h
 |d::g,_,h=>by
  let{v,a,e,b,hl}:=h
  exact{v,a,e,bN.same s d v b,bz.same s g a hl}
end
section
variable{prog:Ê}{w:World}{A:Around}{R:ī->Shared->Prop}{h:Heap}{g:Array Ŀ}{d:Drawn}{t:Nat}{os:ù}{nm q:Str}{C CB N:Addr}{bs:List Value}{hdct:Bool}{sn:List Str}{sub:List Value}{ab:Bool}{col:Option Bool}{dd:Option Addr}{k0 k1 k2 k3 k5:Option Value}
theorem MR{M:Model}{E:Value->Shared->Prop}{rest:List Value}{Q:Unit->Shared->Prop}(j:h.get? C=ρ (ć nm q C N bs (mh CB) hdct sn sub ab col dd k0 k1 k2 k3 k5 "ValueError.__new__"))
 (l:Q .unit ⟨h,g,d,t,os⟩):wpAny M A (weD "ValueError.__new__" {.ref C::rest,[]}) Q E ⟨h,g,d,t,os⟩:=by
 have F:=wcw;have a:(È C::mh CB).contains (.type "ValueError")=true:=rfl;have b:=F.noStar;simp only[weD,F.newKind,F.newSplit,F.newRow]
 repeat (first |refine Č j ?_ |(refine ŏ j ?_;rw[a]) |refine wpAny_staticBase_exc j ?_ |refine wpAny_madeBy_exc j ?_ |simp only[bne_self_eq_false,Ŗ,if_false] |wp_step)
 exact l
theorem MS{rest:List Value}(j:h.get? C=ρ (ć nm q C N bs (mh CB) hdct sn sub ab col dd k0 k1 k2 k3 k5 "ValueError.__new__"))
 (r:R (.ok (.ret (.ref (h.7+1)))) {(h.push {cls:=.type "tuple",data:=.seq rest.6}).push
   {cls:=.ref C,data:=.fields #[.ref h.7,.none,.none,.none,.bool false,.none]},g,d,t,os}) (l:rest.9<=sizeLine:=by size_fits) :
 codeAny (model prog w) A (.builtin "ValueError.__new__" {.ref C::rest,[]}) R ⟨h,g,d,t,os⟩:=by
 have F:=wcw;have a:=F.ends;have b:(È C::mh CB).contains (.type "ValueError")=true:=rfl;have c:(È C::mh CB).contains (.type "AttributeError")=false:=rfl;have e:(È C::mh CB).contains (.type "NameError")=false:=rfl;refine codeAny_builtinAt F.entry ?_;unfold ķ.«BaseException.__new__»;refine wil ?_;show PySem.wpAt _ _ _ (PySem.stack >>= _) _ _ _;refine wil (PySem.wpAt_stack λp f=>whh ?_)
 wp_walk
 refine whh ?_;rw[F.owner]
 repeat (first |with_reducible refine wpAny_madeHere_exc F.canon j ?_ |with_reducible refine Č j ?_ |(with_reducible refine ŏ j ?_;first |rw[b] |rw[c] |rw[e]) |wp_step)
 show R _ _;rw[Ĳ];exact r
theorem tG{E:Value->Shared->Prop}{Q:Flow->Shared->Prop}(l:A.handled=τ)
 (h:wpAny M A (eval x env) (λv j=>∃e od t,v=.ref e/\j.heap.get? C=ρ (ć nm q C N bs (mh CB) hdct sn sub ab col dd k0 k1 k2 k3 k5 "ValueError.__new__") /\
   j.heap.get? e=ρ {cls:=.ref C,dict:=od,data:=.fields #[.ref t,.none,.none,.none,.bool false,.none]}/\E (.ref e) j) E s) :
 wpAny M A (exec (.Raise (ρ x) τ pos) env) Q E s:=by
 have key:wpAny M A (raiseStmt env (ρ (do let v <-eval x env;standAt pos;pure v)) τ) Q E s:=by
  have b:(È C::mh CB).contains (.type "BaseException")=true:=rfl;unfold raiseStmt;refine Â (Â (í h (λv j a=>Â (Η (Ï ?_))) λ_ _ x=>x))
  let{e,od,t,rfl,c,f,i}:=a
  let{k,g,d,m,os}:=j
  repeat (first |with_reducible refine Č f ?_ |with_reducible refine Č c ?_ |(with_reducible refine ŏ c ?_;rw[b]) |wp_step)
  exact wpAny_raiseNew_none l i
 rw[arm_exec_Raise];exact Â (Η key)
end
section
variable{M:Model}{A:Around}{E:Value->Shared->Prop}{e C CB:Addr}{nm q EE qB:Str}{N NB:Addr}{bs bsB:List Value}{hdct hdB:Bool}{sn snB:List Str}{sub subB:List Value}{ab abB:Bool}{col VO:Option Bool}{dd ddB:Option Addr}{k0 k1 k2 k3 k5 l0 l1 l2 l3 l5:Option Value}
theorem PL{h:Heap}{g:Array Ŀ}{d:Drawn}{t:Nat}{os:ù}{l:Obj}{Q:Bool->Shared->Prop}(p:h.get? C=ρ (ć nm q C N bs (mh CB) hdct sn sub ab col dd k0 k1 k2 k3 k5 "ValueError.__new__"))
 (r:h.get? CB=ρ (ć EE qB CB NB bsB SE hdB snB subB abB VO ddB l0 l1 l2 l3 l5 "ValueError.__new__")) (he:h.get? e=ρ l) (j:l.cls=.ref C) (I:Q true ⟨h,g,d,t,os⟩) :
 wpAny M A (wf1 (.ref e) (.ref CB)) Q E ⟨h,g,d,t,os⟩:=by
 have a:(È CB::SE).contains (.type "BaseException")=true:=rfl;have b:(È C::mh CB).contains (.ref CB)=true:=by simp[ž]
 have f:=whW;unfold wf1
 repeat (first |(with_reducible refine Č he ?_;rw[j]) |with_reducible refine Č p ?_ |with_reducible refine Č r ?_ |(with_reducible refine ŏ p ?_;rw[b]) |(with_reducible refine ŏ r ?_;rw[a]) |wp_step)
 exact I
end
section
variable{X:Cx}{CB:Addr}{EE n x MT:Str}{body:List Stmt}{tb:CA}{i j:Nat}{p1 p2 p3 p4 LX pos:Pos}
theorem PN(r:X.stack=X.5::X.outer/\X.env.frame=ρ X.env.locals)(l:AO X body tb)(hg:Gl X EE)(hm:X.mg EE=ρ (.ref CB))(TB:DV X.K CB MT)(T:X.N.Nodup)(J:X.N[j]?=ρ n)(hi:X.N[i]?=ρ x)
 (g:X.env.scope.names.lookup n=ρ .local) (hx:Loc X.env.scope x) (hdb:(EE==("__debug__":Str))=false:=by decide) (hdn:(n==("__debug__":Str))=false:=by decide) (hcn:(n==("__classdict__":Str))=false:=by decide)
 (hf:X.fn x=true\/X.env.scope.names.lookup x=ρ .local:=by first |exact .inl rfl |exact .inr rfl |assumption) (RU:Ċ (.Name n p3) (ρ (.Name x p2)) p4.line X.5=pure false:=by rfl) :
 PS X (.Try body [.ExceptHandler (ρ (.Name EE p1)) (ρ n) [.Assign [.Name x p2] (.Name n p3) p4] LX] [] [] pos) (VN X.K CB tb j i):=by
 refine{?_};intro a s σ H D I h;refine wpAny_Try_except (í (l a s σ H D _ I h) (λf s1 q=>?_) λev s1 q=>?_)
 .cases f with
  |next=>exact ĵ q
  |ret v=>exact q
  |brk=>exact q
  |cont=>exact q
 let{k,H0,w,d,e,L,M,u,rfl,t,bare,un,b6,F,C,Y0,O,U,hD}:=q
 cases O;have I1:Inv X a k u s1:=d.vp t un b6 bare λb z=>absurd z (by simp);have Q:(X.5::X.outer).filterMap (·.frame)=rA X.stack:=by rw[r.1];rfl
 have A:=I1.pI
 have B:w.8<=s1.8:=wfZ λz=>by
  let{R,_,vs,sl,he,_}:=F
  exact absurd (â (ę R (Ì he)) (weQ z)) (ă _)
 refine vz (lo:=w.8) (H:=u) (base:=X.base) (outer:=X.outer) (by rw[<-r.1];exact d.ok.frames) (by rw[<-r.1];exact I1.stack) r.2 B (λb l=>b6.fresh l) F λh2 F2 p=>?_;rw[Q]at p
 let{S,E,J2}:=d.vF t bare un b6 p A
 have V:=J2 s1.toks
 let{qC,NC,bsC,snC,VP,abC,VQ,ddC,c0,c1,c2,c3,c5,Y}:=U.lk
 let{qT,NT,bsT,hdT,snT,zaP,abT,zaQ,ddT,t0,t1,t2,t3,t5,Z}:=TB.lk
 let{Y1,sl2,he2,_}:=id F2.ob
 refine wdX (wdG (g8 (X:=X.marked e) (V.marked (e:=e)) hg hm ?_ hdb)) (by intro z;cases z);refine PL (V.gJ _ _ Y) (V.gJ _ _ Z) he2 rfl ?_;refine codeAny_handlers_suite_as ?_;refine oS F2 λh3 F3 k3=>?_;have p3':CW w.heap.objs.size u (rA X.stack) h2 h3:={λb o q l _=>k3 b o q l,λb o q l=>{o.slots,k3 b o q (.inl ?_)}}
 rotate_left
 ·
  have:∃o,w.heap.get? b=ρ o:=by
   let{_,o,G,_}:=d.stack.mem l
   exact⟨o,G⟩
  let{o,G}:=this
  exact Ì G
 let{Y2,zaU,J3}:=d.vF (s1:={s1 with heap:=h2}) t bare S E p3' A
 have I3:=J3 s1.toks
 let{Y3,sl3,he3,_}:=id F3.ob
 have old:∀{b:Addr},b<w.8->b≠e:=λl z=>by rw[z]at l;exact absurd (â l F.ge) (ă _)
 have I3t:Inv X a k (upd u e (XC e L M)) {s1 with heap:=h3}:=I3.RP F.nt (Í d.sz F.ge) (æ (old d.lt)) (λy c hc=>old (by
  let{v,o,G,_}:=d.cell y c hc
  exact Ì G)) (λp hp=>old (Ì (d.pin p hp).1)) (Vm he3)
 refine hV (v:=.ref e) I3t T J (.inl g) rfl (λs4 I4=>?_) (.inr g);have hjl:j<k.9:=by rw[d.len];exact(Ñ.mp J).1
 have ev:=Ij (X:=(X.marked e).HC) (pos:=p3) J (.inl g) hdn hcn a s4 _ (upd u e (XC e L M)) (λv H''=>v=.ref e/\H''=upd u e (XC e L M)) ((I4.marked (e:=e)).kl _) {.ref e,Λ hjl,rfl,rfl};refine ş (wdA (CV (bQ ev λv s5 ⟨y,H5,I5,r5,ey,eH⟩=>?_)) RU);subst ey;subst eH;have I5:=(I5.eP).unmarked d.ok;refine hV I5 T hi hx r5 (λs6 I6=>ĵ ?_) hf
 let{m,hn,hl}:=id I6.loc
 refine wpAny_nameGoes_keeps g hn (by rw[I6.ok.kind];rfl) λh7 v7 hn7 hs7=>?_;exact{_,_,I6.IB (m:=m) (tk:=s6.toks+1) T J g ⟨m,hn,hl,hn7⟩ hs7,hD e F.nt}
end
end _L
namespace _L
open PySem.Spec PyProof.Rows Builtin Builtin.ObjectAttr
section
variable{prog:Ê}{w:World}{A:Around}{E:Value->Shared->Prop}{s:Shared}{K:Á}{x C CB:Addr}{nm:Str}{od:Option Addr}
def ExcAt(x C:Addr)(od:Option Addr)(h:Heap):Prop:=(∃vs sl,h.get? x=ρ {.ref C,od,.fields vs,sl})/\∀d,od=ρ d->∃o,h.get? d=ρ o
theorem ExcAt.inst(e:ExcAt x C od h):∃ox o,InstAt h x ox C o:=by
 let{{c,sl,a},hd}:=e
 cases od with
 |none=>exact{_,τ,a,rfl,rfl,trivial}
 |some d=>
  let{o,b}:=hd d rfl
  exact{_,ρ o,a,rfl,rfl,b}
structure ux(K:Á)(C:Addr):Prop where
 ha:findIn K (.ref C) "__class__"=ρ (ρ (.builtin "object.__class__"))
 hn:whC K (.builtin "object.__class__") "__get__"=ρ (ρ (.builtin "getset_descriptor.__get__"))
 pM:takesIn K (.builtin "object.__class__")=ρ true
theorem GL{Q:Option Value->Shared->Prop}(U:bJ K C CB nm)(Y:ux K C)(X:K.In s.heap)(I:ExcAt x C od s.heap)(h:Q (ρ (.ref C)) {s with toks:=s.toks+1}):wpAny (model prog w) A (getAttr? (.ref x) "__class__") Q E s:=by
 let{ox,o,I}:=I.inst
 let{q,N,bs,k,sub,ab,c,l,m,n,p,r,t,lk}:=U.lk
 have hc:∃b,clsIn K C=ρ b:={_,by unfold clsIn;rw[lk]};have d:mroIn K C (.type "object")=ρ true:=by unfold mroIn clsIn;rw[lk];rfl
 have a:mroIn K C (.type "BaseException")=ρ true:=by unfold mroIn clsIn;rw[lk];rfl
 have G:=wfr.ga
 have f:findObj K C o "__class__"=ρ (.bind (.builtin "getset_descriptor.__get__") (.builtin "object.__class__")):=by
  let{b,hc}:=hc
  unfold findObj;rw[hc,Y.ha];simp only[wdM];rw[Y.hn];simp only[wdM];rw[Y.pM];rfl
 unfold getAttr? getAttrBy? getAttrBy;refine Â (wpAny_mkText (Â (wha (þ (Â (I.type _ _ _ _ (λ_ _ e=>e) (Â (ς X U.ga _ _ _ _ (λ_ _ e=>e) ?_))))))));dsimp only;rw[show (Ť (È C)&&Ŋ "BaseException.__getattribute__" == Ŋ "object.__getattribute__")=false from by rw[show (Ŋ "BaseException.__getattribute__" == Ŋ "object.__getattribute__")=false from by decide+kernel,ů],if_neg ⋯];have g:Looks (model prog w) s.heap (hookBefore (.ref C)) τ:=looks_hook X (by show (if Ť (È C) then findIn K (.ref C) "__getattr__" else ρ τ)=ρ τ;rw[if_pos (show Ť (È C)=true from rfl)];exact U.gh);refine Â (g _ _ _ _ (λ_ _ e=>e) (Â (wha (þ ?_))));unfold callGetattribute;rw[show (false&&Ť (Ŋ "BaseException.__getattribute__"))=false from rfl,if_neg ⋯];unfold boundAndCalled;rw[G.bind];refine Â (Ï ?_);show wpAny _ _ (call (.builtin "BaseException.__getattribute__") [.ref x,.str "__class__" s.toks]) _ _ _;refine ě ?_;have sub:Looks (model prog w) s.heap (wfI (.ref x) (.type "BaseException")) true:=I.type.andThen (wgw X a);refine ż G.plain wgO ?_;refine @whg (model prog w) _ _ {s with toks:=s.toks+1} "BaseException.__getattribute__" "BaseException" "__getattribute__" (.ref x) [.str "__class__" s.toks] [] _ ∅ ∅ sub (wgZ (.ref x) (.str "__class__" s.toks)) ?_;have i:=I.type (M:=model prog w);have j:=looks_find (M:=model prog w) X I f;unfold ķ.«object.__getattribute__»;refine Â (Ï ?_);refine Â (Ï (Â (i _ _ _ _ (λ_ _ e=>e) (Â (j _ _ _ _ (λ_ _ e=>e) ?_)))));show wpAny _ _ (holding [.builtin "object.__class__"] (call (.builtin "getset_descriptor.__get__") [.builtin "object.__class__",.ref x,.ref C]) >>= ret) _ _ _;refine Â (þ (ě (class_get (s:={s with toks:=s.toks+1}) (ox:=ox) (od:=o) X I d ?_)));refine Ï ?_;exact handed_on rfl (Ï h)
theorem wI:kitOne K (.ref C) (.ref C)=ρ true:=by
 unfold kitOne;rw[if_pos (by simp)]
end
theorem bJ.ne{K:Á}{C D CB j:Addr}{nm g:Str}(U:bJ K C CB nm)(l:bJ K D j g)(h:¬nm=g):C≠D:=λe=>by
 subst e
 let{q,N,bs,r,sub,ab,d,s,t,u,v,w,x,l1}:=U.lk
 let{y,z,f,i,b,k,c,m,A,n,B,E,G,a}:=l.lk
 rw[l1]at a;have:=congrArg (λo=>match o with |some (⟨_,_,.cls p,_⟩:Obj)=>p.name |_=>nm) a;exact h this
theorem bJ.neT{K:Á}{C CB g:Addr}{nm j:Str}(U:bJ K C CB nm)(T:DV K g j)(h:¬nm=j):C≠g:=λe=>by
 subst e
 let{q,N,bs,r,sub,ab,d,s,t,u,v,w,x,l1}:=U.lk
 let{y,z,f,i,k,b,l,c,m,A,n,B,D,E,a}:=T.lk
 rw[l1]at a;have:=congrArg (λo=>match o with |some (⟨_,_,.cls p,_⟩:Obj)=>p.name |_=>nm) a;exact h this
def SG(K:Á)(ta:TE)(f:Str):TE:=λσ H Q=>ta σ H λy H1=>∃e C CB d nm fs v,y=.ref e/\H1 e=ρ (XC e C (ρ d))/\H1 d=ρ (.xd fs)/\bJ K C CB nm/\findIn K (.ref C) f=ρ τ/\fs.lookup f=ρ v/\Q v H1
section
variable{K:Á}{x C CB:Addr}{nm:Str}{od:Option Addr}
theorem BO(U:bJ K C CB nm)(Y:ux K C):KitX K (.ref x) (.ref C) (ExcAt x C od) where
 ty:=λM h X I=>by
  let{r,o,I}:=I.inst
  exact I.type
 it:=λM h X I=>by
  let{q,N,bs,c,sub,ab,a,d,f,g,i,j,l,lk}:=U.lk
  intro s t u v k q;unfold isType loadHead;exact Â (wfb (k _ _ (X _ _ lk)) (Ï q))
 ne:=λh tp m p n sl X b=>by
  let{q,N,bs,c,sub,ab,a,d,f,g,i,j,l,lk}:=U.lk
  refine Bool.eq_false_iff.mpr λq=>?_;have e:C=tp:=Value.ref.inj (beq_iff_eq.mp q);subst e;have z:=congrArg (λo=>o.map (·.cls)) ((X _ _ lk).symm.trans b);simp at z
 ca:=λX I k=>GL U Y X I k
theorem GN(U:bJ K C CB nm):kitOne K (.ref C) (.type "ValueError")=ρ true:=by
 unfold kitOne;rw[if_neg (by simp)]
 let{q,N,bs,b,sub,ab,a,c,d,e,f,g,h,lk}:=U.lk
 unfold kitCls;dsimp only;rw[if_pos ∅];unfold subIn mroIn clsIn;dsimp only;rw[lk];rfl
end
section
variable{X:Cx}
set_option genInjectivity true in
inductive GO(K:Á)(H:Hp):V->V->Bool->Prop where
 |exc {e C CB:Addr} {od:Option Addr} {nm:Str} {D:Addr} {b:Bool} (h:H e=ρ (XC e C od)) (hd:∀d,od=ρ d->∃fs,H d=ρ (.xd fs)) (U:bJ K C CB nm) (Y:ux K C) (k:kitOne K (.ref C) (.ref D)=ρ b):GO K H (.ref e) (.ref D) b
 |val {e C CB:Addr} {od:Option Addr} {nm:Str} {T:String} {b:Bool} (h:H e=ρ (XC e C od)) (hd:∀d,od=ρ d->∃fs,H d=ρ (.xd fs)) (U:bJ K C CB nm) (Y:ux K C) (k:kitOne K (.ref C) (.type T)=ρ b):GO K H (.ref e) (.ty T) b
 |oth {x:V} {t:Value} {D:Addr} {b:Bool} (h:fz K H x t) (k:kitOne K t (.ref D)=ρ b):GO K H x (.ref D) b
 |otb {x:V} {t:Value} {T:String} {b:Bool} (h:fz K H x t) (k:kitOne K t (.type T)=ρ b):GO K H x (.ty T) b
theorem bO:dO X (.builtin "isinstance") (λxs H Q=>∃x c b,xs=[x,c]/\GO X.K H x c b/\Q (.bl b) H):=by
 intro j s σ H xs v Q I r h
 let{x,c,b,rfl,l,q}:=h
 let{u,w,rfl,f,g}:=vals2 r
 have at_:∀{e C:Addr} {i:Option Addr},H e=ρ (XC e C i)->(∀d,i=ρ d->∃fs,H d=ρ (.xd fs))->ExcAt e C i s.heap:=λ{e C i} h hd=>by
  let{{m,sl,n},_}:=I.b6 e _ h
  refine{⟨m,sl,n⟩,λd e=>?_}
  let{fs,p}:=hd d e
  let{y,{o,_,_,t,_},_}:=I.b6 d _ p
  exact⟨o,t⟩
 cases l with
 |exc h hd U Y k=>
  cases f;cases g;exact kia_one (BO U Y) I.gJ (at_ h hd) k (λz=>nomatch z) λa=>{.bl b,H,I.tok a,rfl,q}
 |val h hd U Y k=>
  cases f;cases g;exact kia_one (BO U Y) I.gJ (at_ h hd) k (λz=>nomatch z) λa=>{.bl b,H,I.tok a,rfl,q}
 |oth h k=>
  cases g;exact rS I f h k λa=>{.bl b,H,I.tok a,rfl,q}
 |otb h k=>
  cases g;exact rS I f h k λa=>{.bl b,H,I.tok a,rfl,q}
theorem uU(he:PE X e j)(l:Ň e f X.env (eval e X.5)=eval e X.5):PE X (.Attribute e f pos) (SG X.K j f):=by
 refine{?_};intro a s σ H Q I h;refine EC l (bQ (he a s σ H _ I h) λu E ⟨y,i,b,k,e,C,CB,d,m,fs,v,n,p,t,U,ha,hl,q⟩=>?_);subst n;obtain rfl:u=È e:=k
 let{{w,sl,x},_}:=b.b6 e _ p
 let{z,ns,r}:=b.b6 d _ t
 let{o,hd,look}:=yw ns
 let{A,N,bs,B,sub,ab,c,G,J,L,M,O,R,lk}:=U.lk
 let{S,D,g}:=jw.uI (v:=v) (o:=z f) (by rw[<-hl];exact r f)
 refine Kd (CB:=CB) (ox:={.ref C,ρ d,.fields w,sl}) (od:=o) b.gJ ⟨x,rfl,rfl,hd⟩ (cd:={name:=m,bases:=bs,mro:=.ref C::mh CB,ns:=N,qualname:=A,hasDict:=true,slotNames:=B,subclasses:=sub,abstract:=ab,collection:=c,hasDel:=false}) (by unfold clsIn;rw[lk]) rfl rfl U.ga U.gh ha (by rw[look,D]) (yg g) ?_;exact{v,i,b.tok _,g,q}
end
section
variable{K:Á}{C CB D:Addr}{nm zR MT:Str}
theorem bJ.cls(V:bJ K D CB zR):(clsIn K D).isSome=true/\typeIn K (.ref D)=ρ (.type "type"):=by
 let{h,i,d,e,b,f,c,g,j,l1,k,l,m,a}:=V.lk
 refine{by unfold clsIn;rw[a];rfl,?_};show Option.map (λx=>x.cls) (K.lookup D)=ρ (.type "type");rw[a];rfl
theorem gn(U:bJ K C CB nm)(V:bJ K D CB zR)(T:DV K CB MT)(g:¬zR=MT)(e:¬nm=zR):kitOne K (.ref C) (.ref D)=ρ false:=by
 unfold kitOne;have ne:=U.ne V e;rw[if_neg (by simpa using ne)]
 let{q,N,bs,f,sub,ab,a,h,i,j,k,l,m,lk}:=U.lk
 let{b,c}:=V.cls
 unfold kitCls;dsimp only;rw[b,c,if_pos (by rfl)];unfold subIn mroIn clsIn;dsimp only;rw[lk];show ρ ((È C::mh CB).contains (.ref D))=ρ false;have n1:(È D==È C)=false:=by simpa using æ ne
 have d:(È D==È CB)=false:=by simpa using V.neT T g
 simp only[ž,n1,d,Τ];rfl
end
end _L
namespace _L
open PySem.Spec PyProof.Rows
section
variable{X:Cx}{tg:Expr}
theorem DW{P:Ê}{w:World}{K:Á}{j:List Expr}{k:Nat}{pos:Pos}(z:Str)(t:Tok)(nm:String)(e it:Addr)(g:e≠it)
 (D:∀A:Around,A.handled=τ->Draws P w A it [it] z.cps.size (λi v=>∃c u,z.cps[i]?=ρ c/\v=.str {#[c]} u) (λi h=>h.IsStrIter it nm z t i)) :
 Turn P w K (.Tuple j k pos) (Ib z) [e,it] e (λi h=>((∃old,IsEnum h e it (i:Nat) old)/\h.IsStrIter it nm z t i)/\i<=z.cps.size) where
 mem:=by simp
 obj:=λi h st b f=>by
  let{{{old,a},o,l,hc,hd},_}:=st
  rcases à.mp f with rfl |f
  .exact{_,a,λv z=>by
    have T:Υ _=wgg v:=z
    cases T}
  .have B:b=it:=by simpa using f
   subst B;exact{o,l,λv z=>by rw[hd]at z;cases z}
 keep:=λi h R st k=>{{st.1.1.imp λold a=>k e (by simp) _ a,let ⟨o,l,r⟩:=st.1.2;{o,k it (by simp) o l,r}},st.2}
 item:=by
  intro X C hw G hc i m s σ H E I J st L;subst C hw G
  let{{{old,a},hit},_}:=st
  have n:i<z.cps.size:=L;refine wg8 (D X.A.in1 (I.ok.hd hc)) a hit n g (by simpa using g) λu R U V l p Y Z hk=>?_
  let{c,S,M,rfl}:=V
  have ru:RelV (yq z i) (.str {#[c]} S):={S,by
   rw[wcU,M]
   rfl}
  refine{1,wdR l λXQ N d=>?_}
  let{_,O,_}:=id hit
  have x:e<s.8:=Ì a
  let{fr,I1,hn}:=vx (y:=.int (i:Nat)) (U+1) I J (λb o h q=>(d.2 b (zz h).1).trans (hk b o (zz h).1 (zz h).2 q)) ((d.2 _ (ı x)).trans Y) {_,rfl} ru (Of x (Ì O))
  let{o,Q,r}:=p
  exact{.ref s.8,_,I1,rfl,⟨s.8,fr,rfl,rfl⟩,{{{_,by simpa using N},{o,(d.2 it (æ g)).trans Q,r}},n},hn}
 done:=by
   intro X C hw G hc i m s σ H E I J st L;subst C hw G
   let{{{old,a},hit},hle}:=st
   have RL:z.cps.size<=i:=L;have B:i=z.cps.size:=();subst B
   let{g0,g1,g2,g3,g4,g5}:=J it (by simp)
   exact wgx (D X.A.in1 (I.ok.hd hc)) a hit λR eb=>{rfl,I.turned (t':=s.toks) (λb o f e=>eb b o f e) g0 g1 g3 g4 g5}
 self:=λ_ _ _ _ _ st h=>let ⟨⟨⟨_,a⟩,_⟩,_⟩:=st;Γ a h
theorem BP{g:List Expr}{k:Nat}{j:Pos}{l:Expr}{C:TA}{p pos:Pos}(J:Gl X "enumerate")(T:X.mg "enumerate"=τ)(ha:PA X [l] C)(hs:starEach [l] X.5=[(false,eval l X.5)]:=by rfl) :
 PI X (.Tuple g k j) (.Call (.Name "enumerate" p) [l] [] pos) (Ol C):=by
 refine{?_};intro d s σ H R I h;refine Call_ (gN I J T ic (Ÿ (bQ (ha pos d s σ H _ I h) λQ a ⟨S,B,o,G,L⟩=>?_) hs rfl))
 let{z,e,q}:=L
 subst e
 let{u,rfl,t,rfl}:=vals1 G
 refine call_enumerate_str λr E hit M kp=>Γ E ?_;have N:Inv X d σ B {a with heap:=r}:=o.kept (t':=a.toks) kp
 have fin:∀n,(∀A:Around,A.handled=τ->Draws X.prog X.w A a.heap.objs.size [a.8] z.cps.size (λi v=>∃c u,z.cps[i]?=ρ c/\v=.str {#[c]} u) (λi h=>h.IsStrIter a.heap.objs.size n z t i)) ->
  r.IsStrIter a.heap.objs.size n z t 0->Qq X d σ (.Tuple g k j) R (.ref (a.8+1)) {a with heap:=r}:=by
  intro n D f;refine{a.8+1,[a.8+1,a.8],_,_,B,rfl,N,DW z t n _ _ (ı (ň _)) D,{{{_,E},f},Û _},λb x=>?_,q}
  have m:a.8<=b:=by
   rcases à.mp x with rfl |x
   .exact Ġ _
   .have O:b=a.8:=by simpa using x
    subst O;exact Ä _
  exact o.zI m (o.b6.fresh m)
 cases ha:z.cps.all (· < 128)
 .exact fin "str_iterator" (λA y=>Draws.strWide y _ z t) (by simpa [strIterType,ha] using hit)
 .exact fin "str_ascii_iterator" (λA y=>Draws.strAscii y _ z t) (by simpa [strIterType,ha] using hit)
theorem GP{P:Ê}{w:World}{K:Á}{T:Expr}(d it:Addr)(o:Obj)(kvs:List (Key×V))(U:Array DictEntry)(ep:Nat)(J:o.data=.dict U ep):Turn P w K T (LD d o kvs) [it] it (λi h=>h.IsKeyIter it d i kvs.length ep) where
 mem:=by simp
 obj:=λi h st b f=>by
  have e:b=it:=by simpa using f
  subst e
  let{o,e,c,p}:=st
  exact{o,e,λv z=>by rw[p]at z;cases z}
 keep:=λi h m st k=>st.at λo e=>k it (by simp) o e
 item:=by
  intro X q hw r hc i a s σ H E I n st u;subst q hw r
  let{x,hi}:=u
  let{L,rel,g}:=CQ I x J
  have G:kvs[i]?=ρ kvs[i]:=by simp[hi]
  let{{k,v},M,N,_}:=HW rel G
  let{A,f1,f2,B,C,D}:=n it (by simp)
  rw[rel.9]at st;refine wpAny_pyNext_dict_item st g M λkey m l j sb=>?_;have O:Inv X a σ H {s with heap:=m}:=I.turned (t':=s.toks) (λb o f e=>(sb.2 b f).trans e) A f1 B C D
  let{S,e,c,p}:=id j
  rw[<-rel.9]at j;refine{key,rfl,yf (s:={s with heap:=m}) e c p ⋯ {kV kvs[i].1,H,O,?_,{rfl,_,G,rfl},j,λb f=>(n b f).1}};have Q:kvs[i].1=k:=N;rw[Q];rcases cq l with⟨i,t,rfl,rfl⟩ |⟨y,t,rfl,rfl⟩
  .exact⟨t,rfl⟩
  .exact⟨t,rfl⟩
 done:=by
   intro X q hw r hc i a s σ H E I n st u;subst q hw r
   let{x,hi}:=u
   let{L,rel,g}:=CQ I x J
   let{A,f1,f2,B,C,D}:=n it (by simp)
   rw[rel.9]at st hi;exact wpAny_pyNext_dict_end (I.ok.hd hc) st g (by simp;omega) λm R=>{rfl,I.turned (t':=s.toks) (λb o f e=>R b o f e) A f1 B C D}
 self:=λ_ _ _ _ _ st h=>wpAny_pyIter_keyiter st h
theorem uV{l:Expr}{p:TE}(hl:PE X l p):PI X tg l (Rm p):=by
 refine{?_};intro a s σ H R I h;refine bQ (hl a s σ H _ I h) λv g ⟨x,D,m,t,j⟩=>?_
 let{d,f,e,q}:=j
 subst e;cases t
 have key:∀{i:Hp} {o:Obj},Inv X a σ i g->i d=ρ (.frz o (.dK f))->R (LD d o f) i->wpAny (model X.prog X.w) X.A (pyIter (.ref d)) (Qq X a σ tg R) X.xe g:=λ{i o} c hd u=>by
  let{E,lo,y,n,G,z,B,j,J,r,L}:=lD c.b6 (.inr ⟨o,hd⟩)
  let{C,_}:=c.b6 d _ hd
  rw[C]at j;cases j
  let{M,rel,k}:=CQ c hd r
  refine wpAny_pyIter_dict lo k ?_;refine{g.8,[g.8],_,_,i,rfl,c.kept (t':=g.toks) λb o e=>Õ _ e,GP d _ o f z B r,{_,è _ rfl,rfl,by rw[rel.9];rfl},λb N=>?_,u};have e:b=g.8:=by grind
  subst e;exact c.zI (Ä _) (c.b6.fresh (Ä _))
 rcases q with⟨hd,q⟩ |⟨o,hd,q⟩
 .let{o,O,c}:=m.freeze hd
  exact key c a6 (q o)
 .exact key m hd q
theorem PQ(l:X.A.units<ò):me X (ô .NotEq) (UX X.K):=by
 intro m s σ H x y v u Q I D E h
 let{a,b,f,g,rfl,rfl,ha,G,J,L,q}:=h
 cases D;cases E
 let{d,n,o,_}:=I.list ha
 let{c,p,r,_}:=I.list G
 have M:=n.9;have V:=p.9
 by_cases hl:f.9=g.9
 .refine SeqAt.RcNeAt.lists (e:=λj=>rG (f.getD j .non) (g.getD j .non)) o.isList r.isList (by simp only[å];lia) l (λj N O=>?_) X.prog X.w _ _ ?_
  .have i:j<d.9:=by simpa using N
   have k:j<c.9:=by simpa using O
   have t:f[j]?=ρ (f.getD j .non):=by rw[Ë];simp[show j<f.length by lia]
   have z:g[j]?=ρ (g.getD j .non):=by rw[Ë];simp[show j<g.length by lia]
   let{R,B,S}:=n.get t
   let{T,C,U}:=p.get z
   have g1:d.toArray[j]=R:=by
    have:d[j]?=ρ d[j]:=by simp[i]
    rw[this]at B;simpa using Ò B
   have g2:c.toArray[j]=T:=by
    have:c[j]?=ρ c[j]:=by simp[k]
    rw[this]at C;simpa using Ò C
   rw[g1,g2];exact zC S U (õ.mp J _ (Ð t)) (õ.mp L _ (Ð z))
  .rw[oP hl]at q;refine{.bl _,H,I,rfl,?_};rw[å,<-M];exact q
 .refine SeqAt.RcNeAt.lists_lengths o.isList r.isList (by simp only[å,bne_iff_ne];lia) l X.prog X.w _ _ {.bl true,H,I,rfl,?_};rw[AI hl]at q;exact q
theorem pd{K:Á}{J:It}{Ok:Hp->Prop}{rs:List Addr}{prs:List (V×V)}{l:Addr}{t:St}{U:TT}{te:TE}{H:Hp}{Q:Hp->Prop}(p:V×V->Bool)(g:V×V->V)(T:kq J Ok (rs.map V.ref))(hT:b8 H rs (prs.map jG))(hl:H l=τ)(hz:rs.9<=sizeLine)(C:∀j,a8 H j->Ok j)
 (ht:∀q r I,q∈prs->a8 H r->(∀j,a8 r j->I (p q) j)->U (ρ q.1::ρ q.2::t) r I)
 (he:∀q r I,q∈prs->p q=true->a8 H r->(∀j,a8 r j->I (g q) j)->te (ρ q.1::ρ q.2::t) r I)
 (hd:∀j,a8 H j->j l=ρ (.lst ((prs.filter p).map g))->Q j):jy K J l t U te H Q:=by
 have f:rs.9=prs.9:=by rw[hT.1,À]
 refine{λi m s d=>m=rs.9-i/\i<=rs.9/\a8 H d/\d l=ρ (.lst s)/\s=((prs.take i).filter p).map g,{rs.9,by simp,Û _,a8.upd hl,a6,by simp},?_};rintro i m s d ⟨rfl,hi,c,k,n⟩;refine{k,?_}
 by_cases a:i<rs.9
 .refine .inr {T.go i d (C _ c) (by rw[À];exact a),?_,λx r y=>?_}
  .rw[n,À];refine ę (Ħ _ _) ?_;rw[Ú];omega
  .let{e,v}:=T.uY i d x r (C _ c) (by rw[À];exact a) y
   subst e;have w:prs[i]?=ρ prs[i]:=Ã 1.0;have z:rs[i]?=ρ rs[i]:=Ã a;rw[Ç,z]at v;obtain rfl:V.ref rs[i]=x:=Ò v;have mem:prs[i]∈prs:=ñ _;have A:prs.take (i+1)=prs.take i++[prs[i]]:=by rw[ý,w];rfl
   refine{rs[i],prs[i].1,prs[i].2,rfl,gM.of (c _ _ (hT.2 i rs[i] _ z (by rw[Ç,w];rfl))),ht prs[i] _ _ mem c λD h=>?_}
   cases u:p prs[i] with
   |false=>
    rw[if_neg ã];refine{rs.9-(i+1),1.0,rfl,a,c.trans h,h _ _ k,?_};rw[A,ń,n];simp[u]
   |true=>
    rw[if_pos rfl];refine he prs[i] _ _ mem u (c.trans h) λE B=>{B _ _ (h _ _ k),rs.9-(i+1),1.0,rfl,a,λb o e=>?_,a6,?_}
    .rw[ae (af e hl)];exact B _ _ (h _ _ (c _ _ e))
    .rw[A,ń,n];simp[u]
 .have e:i=rs.9:=1.0;subst e;refine .inl {?_,hd d c ?_}
  .have:=T.stop d (C _ c);rwa[À]at this
  .rw[k,n,f,ë]
theorem GQ{K:Á}{J:It}{Ok:Hp->Prop}{rs:List Addr}{prs:List (V×V)}{l:Addr}{C:St}{tt:TT}{te:TE}{H:Hp}{Q:Hp->Prop}(p:V×V->Bool)(g:V×V->List V)(U:kq J Ok (rs.map V.ref))(hT:b8 H rs (prs.map jG))(hl:H l=τ)(hz:rs.9<=sizeLine)(I:∀j,a8 H j->Ok j)
 (ht:∀q t T,q∈prs->a8 H t->(∀j,a8 t j->T (p q) j)->tt (ρ q.1::ρ q.2::C) t T)
 (he:∀q t T,q∈prs->p q=true->a8 H t->(∀r j,a8 t j->j r=ρ (.tup (g q))->T (.ref r) j)->te (ρ q.1::ρ q.2::C) t T)
 (hd:∀ys j,a8 H j->j l=ρ (.lst (ys.map V.ref))->b8 j ys ((prs.filter p).map g)->Q j):jy K J l C tt te H Q:=by
 have h:rs.9=prs.9:=by rw[hT.1,À]
 refine{λi m B d=>m=rs.9-i/\i<=rs.9/\a8 H d/\∃ys:List Addr,B=ys.map V.ref/\d l=ρ (.lst (ys.map V.ref))/\b8 d ys (((prs.take i).filter p).map g),{rs.9,by simp,Û _,a8.upd hl,[],rfl,a6,by simpa using b8.nil _},?_};rintro i m B d ⟨rfl,hi,c,ys,rfl,k,n⟩;refine{k,?_}
 by_cases a:i<rs.9
 .refine .inr {U.go i d (I _ c) (by rw[À];exact a),?_,λx t y=>?_}
  .rw[À,n.1,À];refine ę (Ħ _ _) ?_;rw[Ú];omega
  .let{e,D}:=U.uY i d x t (I _ c) (by rw[À];exact a) y
   subst e;have E:prs[i]?=ρ prs[i]:=Ã 1.0;have G:rs[i]?=ρ rs[i]:=Ã a;rw[Ç,G]at D;obtain rfl:V.ref rs[i]=x:=Ò D;have mem:prs[i]∈prs:=ñ _;have L:prs.take (i+1)=prs.take i++[prs[i]]:=by rw[ý,E];rfl
   refine{rs[i],prs[i].1,prs[i].2,rfl,gM.of (c _ _ (hT.2 i rs[i] _ G (by rw[Ç,E];rfl))),ht prs[i] _ _ mem c λN f=>?_}
   cases u:p prs[i] with
   |false=>
    rw[if_neg ã];refine{rs.9-(i+1),1.0,rfl,a,c.trans f,ys,rfl,f _ _ k,?_}
    have e:((prs.take (i+1)).filter p).map g=((prs.take i).filter p).map g:=by
     rw[L,ń];simp[u]
    rw[e];exact n.same f
   |true=>
    rw[if_pos rfl];refine he prs[i] _ _ mem u (c.trans f) λr O s v=>{s _ _ (f _ _ k),rs.9-(i+1),1.0,rfl,a,λb o e=>?_,ys++[r],by rw[Ü];rfl,by rw[a6,Ü];rfl,?_}
    .rw[ae (af e hl)];exact s _ _ (f _ _ (c _ _ e))
    .have e:((prs.take (i+1)).filter p).map g=((prs.take i).filter p).map g++[g prs[i]]:=by
      rw[L,ń];simp[u]
     rw[e];have w:=s _ _ (f _ _ k);refine b8.keep ((n.same (f.trans s)).snoc v) λR M A=>?_;rw[ae (λz=>by rw[z,w]at A;cases A)];exact A
 .have e:i=rs.9:=1.0;subst e;refine .inl {?_,hd ys d c k ?_}
  .have:=U.stop d (I _ c);rwa[À]at this
  .rw[h,ë]at n;exact n
theorem wJ{Ok:Hp->Prop}{Q:Hp->Prop}(R:Nat->V->Hp->Prop)(C:∀i y I g ys,R i y I->I l=ρ (.lst ys)->(∀b o,I b=ρ o->b≠l->g b=ρ o)->R i y g)(T:kq J Ok xs)(hl:H l=τ)(hz:xs.9<=sizeLine)(r:∀p,a8 H p->Ok p)
 (he:∀i x t ys Q',xs[i]?=ρ x->a8 H t->t l=ρ (.lst ys)->(∀y p,a8 t p->R i y p->Q' y p)->te (ρ x::U) t Q')
 (hd:∀ys p,a8 H p->p l=ρ (.lst ys)->ys.9=xs.9->(∀i y,ys[i]?=ρ y->R i y p)->Q p):nZ J l U xI te H Q:=by
 refine{λi m a g=>m=xs.9-i/\i<=xs.9/\a8 H g/\g l=ρ (.lst a)/\a.9=i/\∀j y,a[j]?=ρ y->R j y g,{xs.9,by simp,Û _,a8.upd hl,a6,rfl,λj y h=>by simp at h},?_};rintro i m a g ⟨rfl,hi,f,k,c,B⟩;refine{k,?_}
 by_cases d:i<xs.9
 .refine .inr {T.go i g (r _ f) d,by rw[c];lia,λx t y=>?_}
  let{e,D}:=T.uY i g x t (r _ f) d y
  subst e;delta xI;dsimp only;rw[if_pos rfl];refine he i x _ a _ D f k λy s u v=>{u _ _ k,xs.9-(i+1),(),rfl,d,λb o e=>?_,a6,by rw[É,c];rfl,λj z n=>?_}
  .rw[ae (af e hl)];exact u _ _ (f _ _ e)
  .have q:=u _ _ k;have kp:∀b o,s b=ρ o->b≠l->(upd s l (.lst (a++[y]))) b=ρ o:=λb o e E=>by rw[ae E];exact e
   by_cases w:j<a.9
   .rw[ā w]at n;exact C j z s _ _ (C j z _ _ _ (B j z n) k λb o e _=>u _ _ e) q kp
   .rw[ü ()]at n
    have A:j-a.9=0:=by
     have:=(Ñ.mp n).1;simp at this
     lia
    rw[A]at n;cases n;have:j=i:=();rw[this];exact C i y s _ _ v q kp
 .have e:i=xs.9:=();subst e;exact .inl {T.stop g (r _ f),hd a g f k c B}
theorem wK{K:Á}{J:It}{Ok:Hp->Prop}{xs:List V}{l:Addr}{t:St}{U:TE}{H:Hp}{Q:Hp->Prop}(p:List kj)(hJ:kq J Ok xs)(hl:H l=τ)(hz:xs.9<=sizeLine)(C:p.9=xs.9)(I:∀g,a8 H g->Ok g)
 (he:∀(i:Nat) (x:V) (d:kj) j T,xs[i]?=ρ x->p[i]?=ρ d->a8 H j->(∀y g,a8 j g->bN K (aM j g) d y->T y g)->U (ρ x::t) j T)
 (hd:∀g,a8 H g->bN K (aM H g) (.lst p) (.ref l)->Q g):nZ J l t xI U H Q:=by
 refine wJ (λi y g=>∀d,p[i]?=ρ d->∃j o,a8 H j/\j l=ρ o/\bN K (aM j g) d y) ?_ hJ hl hz I (λi x j f T k b c m=>?_) (λf g h n e q=>?_)
 .intro i y v w f r s kp d a
  let{j,o,b,c,r}:=r d a
  exact{j,o,b,c,bN.same (bV c kp) d y r}
 .have hi:i<p.9:=by rw[C];exact(Ñ.mp k).1
  refine he i x p[i] j _ k (Ã hi) b λy g h r=>m y g h λd a=>?_;rw[Ã hi]at a;cases a;exact{j,_,b,c,r}
 .refine hd g h {l,f,rfl,.inl (cg hl n),bz.rJ p f (by rw[C,e]) λi d y a u=>?_}
  let{j,o,b,c,r}:=q i y u d a
  exact bN.same (f9 b) d y r
theorem DX{K:Á}{J:It}{Ok:Hp->Prop}{xs:List V}{prs:List (V×V)}{l:Addr}{I:St}{tt:TT}{te:TE}{H:Hp}{Q:Hp->Prop}(p:V×V->Bool)(D:V×V->kj)(hJ:kq J Ok xs)(C:xs.9=prs.9)
 (hT:∀(i:Nat) (q:V×V),prs[i]?=ρ q->∃r,xs[i]?=ρ (.ref r)/\gM K H r [q.1,q.2]) (hl:H l=τ) (hz:xs.9<=sizeLine) (T:∀t,a8 H t->Ok t)
 (ht:∀q g U,q∈prs->a8 H g->(∀t,a8 g t->U (p q) t)->tt (ρ q.1::ρ q.2::I) g U)
 (he:∀q g U,q∈prs->p q=true->a8 H g->(∀y t,a8 g t->bN K (aM g t) (D q) y->U y t)->te (ρ q.1::ρ q.2::I) g U)
 (hd:∀t ys,a8 H t->t l=ρ (.lst ys)->bN K (aM H t) (.lst ((prs.filter p).map D)) (.ref l)->Q t):jy K J l I tt te H Q:=by
 refine{λi m ys n=>m=xs.9-i/\i<=xs.9/\a8 H n/\n l=ρ (.lst ys)/\ys.9=((prs.take i).filter p).9/\∀(j:Nat) (d:kj) (y:V),(((prs.take i).filter p).map D)[j]?=ρ d->ys[j]?=ρ y->∃g o,a8 H g/\g l=ρ o/\bN K (aM g n) d y,
  {xs.9,by simp,Û _,a8.upd hl,a6,by simp,λj d y h=>by simp at h},?_}
 rintro i m ys n ⟨rfl,hi,f,w,c,Y⟩;refine{w,?_}
 by_cases k:i<xs.9
 .have hfl:((prs.take i).filter p).9<=i:=Í (Ħ _ _) (by rw[Ú];omega);refine .inr {hJ.go i n (T _ f) k,1.0,λx g y=>?_}
  let{e,hx}:=hJ.uY i n x g (T _ f) k y
  subst e;have Z:prs[i]?=ρ prs[i]:=Ã 1.0
  let{r,A,hr}:=hT i _ Z
  rw[hx]at A;cases A;have mem:prs[i]∈prs:=ñ _;have tk:prs.take (i+1)=prs.take i++[prs[i]]:=by rw[ý,Z];rfl
  refine{r,prs[i].1,prs[i].2,rfl,f.LA hr,ht prs[i] _ _ mem f λH4 u=>?_}
  have B:∀(j:Nat) (d:kj) (y:V),(((prs.take i).filter p).map D)[j]?=ρ d->ys[j]?=ρ y->∃g o,a8 H g/\g l=ρ o/\bN K (aM g H4) d y:=λj d y h1 h3=>by
   let{N,o,E,h5,O}:=Y j d y h1 h3
   exact{N,o,E,h5,bN.same (iQ u) d y O}
  cases R:p prs[i] with
  |false=>
   rw[if_neg ã];have G:(prs.take (i+1)).filter p=(prs.take i).filter p:=by rw[tk,ń];simp[R]
   exact{xs.9-(i+1),1.0,rfl,k,f.trans u,u _ _ w,by rw[G];exact c,by rw[G];exact B}
  |true=>
   rw[if_pos rfl];have G:(prs.take (i+1)).filter p=(prs.take i).filter p++[prs[i]]:=by rw[tk,ń];simp[R]
   have v:=u _ _ w;refine he prs[i] _ _ mem R (f.trans u) λy N E O=>{E _ _ v,xs.9-(i+1),1.0,rfl,k,λb o e=>?_,a6,by rw[G,É,É,c];rfl,λj d z s a=>?_}
   .rw[ae (af e hl)];exact E _ _ (u _ _ (f _ _ e))
   .have kp:∀b o,N b=ρ o->b≠l->(upd N l (.lst (ys++[y]))) b=ρ o:=λb o e hb=>by rw[ae hb];exact e
    rw[G,Ü]at s;have S:(((prs.take i).filter p).map D).length=ys.9:=by rw[À,c]
    by_cases X:j<ys.9
    .rw[ā 1.0]at s;rw[ā X]at a
     let{H6,o,s6,h6,r6}:=B j d z s a
     exact{H6,o,s6,h6,bN.same ((iQ E).trans (bV h6 kp)) d z r6}
    .rw[ü 1.0]at s a
     have L:j-ys.9=0:=by
      have:=(Ñ.mp a).1;simp at this;omega
     rw[S,L]at s;rw[L]at a;cases s;cases a;exact{H4,_,f.trans u,v,bN.same (bV v kp) _ _ O}
 .have e:i=xs.9:=1.0;subst e;refine .inl {hJ.stop n (T _ f),hd n ys f w {l,ys,rfl,.inl (cg hl w),bz.rJ _ ys ?_ λj d y s hy=>?_}}
  .rw[C,ë]at c;rw[À,c]
  .have M:=Y j d y;rw[C,ë]at M
   let{g,o,s3,h3,r3}:=M s hy
   exact bN.same (f9 s3) d y r3
theorem jW{K:Á}{J:It}{Ok:Hp->Prop}{xs:List V}{prs:List (V×V)}{l:Addr}{t:St}{U:TT}{te:TE}{H:Hp}{Q:Hp->Prop}(p:V×V->Bool)(D:V×V->kj)(hJ:kq J Ok xs)(C:xs.9=prs.9)
 (hT:∀(i:Nat) (q:V×V),prs[i]?=ρ q->∃r,xs[i]?=ρ (.ref r)/\gM K H r [q.1,q.2]) (hl:H l=τ) (hz:xs.9<=sizeLine) (T:∀g,a8 H g->Ok g)
 (ht:∀q j I,q∈prs->a8 H j->(∀g,a8 j g->I (p q) g)->U (ρ q.1::ρ q.2::t) j I)
 (he:∀q j I,q∈prs->p q=true->a8 H j->(∀y g,a8 j g->bN K (aM j g) (D q) y->I y g)->te (ρ q.1::ρ q.2::t) j I)
 (hd:∀g,a8 H g->bN K (aM H g) (.lst ((prs.filter p).map D)) (.ref l)->Q g):jy K J l t U te H Q:=
 DX p D hJ C hT hl hz T ht he λg _ a _ r=>hd g a r
theorem z9{K:Á}{a l:Addr}{xs:List V}{r:St}{I:TT}{J:TE}{H:Hp}{Q:Hp->Prop}(p:Nat->Bool)(C:aO K H a xs)(hl:H l=τ)(hz:xs.9<=sizeLine)
 (U:∀(i:Nat) (x:V) j t,xs[i]?=ρ x->a8 H j->(∀g,a8 j g->t (p i) g)->I (ρ (.int (i:Nat))::ρ x::r) j t)
 (he:∀(i:Nat) (x:V) j t,xs[i]?=ρ x->a8 H j->(∀g,a8 j g->t x g)->J (ρ (.int (i:Nat))::ρ x::r) j t)
 (hd:∀g,a8 H g->g l=ρ (.lst (bj p 0 xs))->Q g):jy K (Qp K a) l r I J H Q:=by
 refine{λi m u f=>m=xs.9-i/\i<=xs.9/\a8 H f/\f l=ρ (.lst u)/\u=bj p 0 (xs.take i),{xs.9,by simp,Û _,a8.upd hl,a6,rfl},?_};rintro i m u f ⟨rfl,hi,c,v,k⟩;refine{v,?_}
 by_cases d:i<xs.9
 .refine .inr {{xs,xs[i],c.seq C,Ã d},?_,λx j y=>?_}
  .rw[k];refine ę (nL p 0 _) ?_;rw[Ú]
   lia
  .let{T,h,E,G,L,y}:=y
   subst G L;have w:xs[i]?=ρ h:=y xs (c.seq C);have n:a8 f (upd f T (.tup [.int (i:Nat),h])):=a8.upd E;have z:xs.take (i+1)=xs.take i++[h]:=by rw[ý,w];rfl
   have q:(xs.take i).9=i:=by rw[Ú];lia
   refine{T,.int (i:Nat),h,rfl,gM.of a6,U i h _ _ w (c.trans n) λM s=>?_};have A:=s _ _ (n _ _ v)
   cases B:p i with
   |false=>
    rw[if_neg ã];exact{xs.9-(i+1),(),rfl,d,(c.trans n).trans s,A,by rw[z,oR,q,wfY,B,if_neg ã,û];exact k}
   |true=>
    rw[if_pos rfl];refine he i h _ _ w ((c.trans n).trans s) λN D=>{D _ _ A,xs.9-(i+1),(),rfl,d,λb o e=>?_,a6,?_}
    .rw[ae (af e hl)];exact D _ _ (s _ _ (n _ _ (c _ _ e)))
    .rw[z,oR,q,wfY,B,if_pos rfl,k]
 .have e:i=xs.9:=();subst e;rw[ë]at k;exact .inl {{xs,c.seq C,Ä _},hd f c (by rw[v,k])}
theorem Ke{P:Ê}{w:World}{K:Á}{J:Expr}(a it:Addr)(n:Nat):Turn P w K J (Oo K a n) [it] it (λi h=>h.IsRevIter it a ((n:Int)-1-(i:Int))) where
 mem:=by simp
 obj:=λi h st b j=>by
  have e:b=it:=by simpa using j
  subst e
  let{o,e,c,d}:=st
  exact{o,e,λv z=>by rw[d]at z;cases z}
 keep:=λi h l st k=>st.at λo e=>k it (by simp) o e
 item:=by
  intro X r hw t hc i g s σ H E I m st q;subst r hw t
  let{V,x,D,hn,hi,G}:=q
  let{L,M,p,Y}:=I.list D
  let{u,N,O}:=M.get G
  let{y,f1,f2,A,B,C}:=m it (by simp)
  have Q:(n:Int)-1-(i:Int)=((n-1-i:Nat):Int):=();have f:s.heap.IsRevIter it a ((n-1-i:Nat):Int):=by rw[<-Q];exact st
  refine wpAny_pyNext_rev_item f p.isList (x:=u) (by simpa using N) λl f sb=>?_;have R:((n-1-i:Nat):Int)-1=(n:Int)-1-((i+1:Nat):Int):=();rw[R]at f;have S:Inv X g σ H {s with heap:=l}:=I.turned (t':=s.toks) (λb o j e=>(sb.2 b j).trans e) y f1 A B C
  let{o,e,c,d}:=id f
  exact{u,rfl,yf (s:={s with heap:=l}) e c d ⋯ {x,H,S,O,{rfl,λZ T=>by rw[I.pL T D];exact G},f,λb j=>(m b j).1}}
 done:=by
   intro X r hw t hc i g s σ H E I m st q;subst r hw t;have q:i=n:=q
   let{y,f1,f2,A,B,C}:=m it (by simp)
   have f:s.heap.IsRevIter it a (-1):=by rw[show (-1:Int)=(n:Int)-1-(i:Int) by lia];exact st
   exact wpAny_pyNext_rev_end (I.ok.hd hc) f λl U=>{rfl,I.turned (t':=s.toks) (λb o j e=>U b o j e) y f1 A B C}
 self:=λ_ _ _ _ _ st h=>wh0 st h
end
section
variable{X:Cx}{H:Hp}{scope:Ă}{x x2 x3:Str}{ys:List Str}{ix:List Nat}{cl:List (Str×Addr)}{L:Addr}
theorem gp(hc:X.calm=true)(B:cb X scope x ys ix)(T:cb X scope x2 ys ix)(g:x≠x2)(hi:PI X (.Tuple [.Name x U,.Name x2 j] kt pt) iter wi)
 (ht:∀cl L s H ex pn,L8 (bH X scope (x::x2::ys) cl L s H ex pn) p t) (he:∀cl L s H ex pn,PE (bH X scope (x::x2::ys) cl L s H ex pn) r I)
 (hs:∀v,Ś iter X.env v=pure v:=by intro _;rfl):PE X (.ListComp r [⟨.Tuple [.Name x U,.Name x2 j] kt pt,iter,p,0⟩] scope pos) (OB X.K wi ix t I):=
 vH (C:=λJ l a H Q=>jy X.K J l a t I H Q) (xs:=[x,x2]) hc B (BL hc B T g) (λ_ _ _ _ _=>B5) hi ht he hs
theorem Kf{X:Cx}{K:Á}{o e:Expr}{l:List Expr}{to:TE}{t:TA}{name:Str}{apos g:Pos}{T id:String}{r:V->List V->Hp->VK->Prop}(hK:X.K=K)(pa:wgT T)(slot:Slot T name id)(U:typeOf (.builtin id)=pure (.type "method_descriptor"))(hm:Ny X id r)(ho:PE X o to)(ha:PA X (e::l) t)
 (p:Ň o name X.env (eval o X.5)=eval o X.5:=by rfl)
 (J:((backTo g (starEach (e::l) X.5)).all (λx=>!x.1)&&(backToKw g (Ĭ [] X.5)).all (λx=>x.1.isSome)
   && decide ((e::l).9+([]:List Ŝ).9+(if ([]:List Ŝ).isEmpty then 0 else 1)<30))=true:=by rfl)
 (I:(apos.endLine==g.line)=true:=by rfl) (hs:starEach (e::l) X.5=(false,eval e X.5)::starEach l X.5:=by rfl) (j:(backTo g (starEach l X.5)).any (·.1)=false:=by rfl) :
 PE X (.Call (.Attribute o name apos) (e::l) [] g) (XE K T r to t):=by
 subst hK;exact ja pa slot U hm ho ha p J I hs j
theorem Kg(hc:X.calm=true)(B:cb X scope x ys ix)(U:cb X scope x2 ys ix)(B3:cb X scope x3 ys ix)(g:x≠x2/\x≠x3/\x2≠x3)(hi:PI X (.Tuple [.Name x px,.Name x2 j,.Name x3 p] kt pt) iter wi)
 (ht:∀cl L s H ex pn,L8 (bH X scope (x::x2::x3::ys) cl L s H ex pn) r I) (he:∀cl L s H ex pn,PE (bH X scope (x::x2::x3::ys) cl L s H ex pn) t T)
 (hs:∀v,Ś iter X.env v=pure v:=by intro _;rfl):PE X (.ListComp t [⟨.Tuple [.Name x px,.Name x2 j,.Name x3 p] kt pt,iter,r,0⟩] scope pos) (OC X.K wi ix I T):=
 vH (C:=λJ l a H Q=>vC X.K J l a I T H Q) (xs:=[x,x2,x3]) hc B (K7 hc B U B3 g) (λ_ _ _ _ _=>IC) hi ht he hs
end
theorem BQ{X:Cx}(hl:PE X l g)(r:∀{σ H} {Q p:VK},(∀x j,Q x j->p x j)->g σ H Q->g σ H p:=by intro _ _ _ _ h q;let{v,e,q}:=q;exact{v,e,h _ _ q}):PI X t l (Om g):=by
 refine{?_};intro c s σ H R I h;refine uV hl c s σ H R I (r (λx j q=>?_) h)
 let{d,f,e,a,b}:=q
 exact{d,f,e,AV a b}
theorem PR{X:Cx}{tg l:Expr}{ta:TA}{p pos:Pos}(hg:Gl X "reversed")(hm:X.mg "reversed"=τ)(ha:PA X [l] ta)(hs:starEach [l] X.5=[(false,eval l X.5)]:=by rfl) :
 PI X tg (.Call (.Name "reversed" p) [l] [] pos) (UT X.K ta):=by
 refine{?_};intro pins s σ H R I h;refine Call_ (gN I hg hm PyProof.Rows.boot_reversed (Ÿ (bQ (ha pos pins s σ H _ I h) λus s1 ⟨vs,H1,I1,r1,q1⟩=>?_) hs rfl))
 let{a,xs,e,hq,q}:=q1
 subst e
 let{u,rfl,ru}:=vals1 r1
 cases ru
 let{its,rv,pl,hz}:=I1.list hq
 have hl:its.toArray.size=xs.9:=by rw[å];exact rv.length.symm
 refine call_reversed_list pl.isList ?_
 have hit:(s1.heap.push (revObj a ((its.toArray.size:Int)-1))).IsRevIter s1.heap.objs.size a ((xs.9:Int)-1-((0:Nat):Int)):=by
  refine{_,è _ rfl,rfl,?_};show Υ _=_;rw[hl];rw[show (xs.9:Int)-1-((0:Nat):Int)=(xs.9:Int)-1 by lia]
 refine wh0 hit ?_;refine{s1.8,[s1.8],_,_,H1,rfl,I1.kept (t':=s1.toks) λb o e=>Õ _ e,Ke a _ _,hit,λb hb=>?_,q};have e:b=s1.8:=by simpa using hb
 subst e;exact I1.zI (Ä _) (I1.b6.fresh (Ä _))
section
variable{X:Cx}{scope:Ă}{x x2:Str}{ys:List Str}{ix:List Nat}
theorem tH(hc:X.calm=true)(B:cb X scope x ys ix)(hN:X.N.Nodup)(hy:X.N[i]?=ρ y)(t:X.env.scope.names.lookup y=ρ .local)(B2:cb X scope x2 ys ix)(I:x≠x2)(hi:PI X (.Tuple [.Name x U,.Name x2 g] kt pt) iter wi)
 (ht:∀cl L s H ex pn,L8 (bH X scope (x::x2::ys) cl L s H ex pn) j tt) (he:∀cl L s H ex pn,PE (bH X scope (x::x2::ys) cl L s H ex pn) p te)
 (T:Ċ (.ListComp p [⟨.Tuple [.Name x U,.Name x2 g] kt pt,iter,j,0⟩] scope pos) (ρ (.Name y py)) r.line X.5=pure true:=by rfl)
 (hs:∀v,Ś iter X.env v=pure v:=by intro _;rfl):PS X (.Assign [.Name y py] (.ListComp p [⟨.Tuple [.Name x U,.Name x2 g] kt pt,iter,j,0⟩] scope pos) r) (LQ X.K wi ix tt te i):=
 sW (C:=λJ l a H Q=>jy X.K J l a tt te H Q) (xs:=[x,x2]) hc B hN hy t (BL hc B B2 I) (λ_ _ _ _ _=>B5) hi ht he T hs
end
section
variable{X:Cx}{o e f:Expr}{apos eX:Pos}{td ty tx:TE}
theorem DY(t:PE X o td)(he:PE X e ty)(C:PE X f tx)(m:M2 X o "setdefault" apos e f eX):PE X (.Call (.Attribute o "setdefault" apos) [e,f] [] eX) (RF td ty tx):=by
 refine{?_};intro b s σ H Q I h;refine wpAny_Call_method m.base m.few m.line wde wfd PySem.F.type_dict_setdefault (bQ (t b s σ H _ I h) λu A ⟨x,B,j,D,a,ex,d,E⟩=>?_);subst ex;obtain rfl:u=È a:=D
 let{G,J,_}:=Ip j d
 refine{G,J,?_};rw[m.trees]
 refine wdy rfl (weV (wdn (bQ (he b A σ B _ j E) λiv L ⟨y,M,N,O,R⟩=>
  wdn (bQ (C b L σ M _ N R) λS s3 ⟨z,T,i,l,U⟩=>wfu ?_))))
 let{c,k,n,V,Y,Z,qb}:=U
 subst V
 let{z0,hd,vs,rel,p}:=sT i.b6 n
 refine wfO wfd p.typeIs PySem.F.entry_dict_setdefault (PySem.F.args_dict_setdefault_3 _ _ _) (kt_meets_setdefault (bA X.prog X.w) a (sR O) hd S) {vs,p,by rw[<-rel.9];exact z0,λv hv=>?_,λhn h' g hs=>?_}
 .have r:=rel.val k;rw[hv]at r
  cases q:bD c k with
  |none=>rw[q]at r;exact(show False from r).elim
  |some x=>rw[q]at r;exact{x,T,i.tok _,r,Z x q}
 .have r:=rel.val k;rw[hn]at r
  have q:bD c k=τ:=by
   cases q:bD c k with
   |none=>rfl
   |some x=>rw[q]at r;exact(show False from r).elim
  have hx:∃q,h'.get? a=ρ q:=let ⟨q,_,_,hq,_⟩:=g;⟨q,hq⟩
  exact{z,_,uN i (by rw[n];exact Ć) hs hx (CD Y hd (rel.put k l) g),l,qb q}
end
end _L
namespace _L
structure cG(K:Á)(C:Addr)(nm qual:Str)(st:Stmt)(ps:List Str)(f:Addr)(fd:ï):Prop where
 F:zy K nm qual st f fd
 b:Binds K fd ps []
 m:Ik K C nm f
theorem za:∀(rs:List Addr) (g:List (Str×Str)),b8 H rs (g.map mz)->bz K H (g.map Nx) (rs.map V.ref)
 |[],[],_=>rfl
 |[],_::_,h=>by have:=h.1;simp at this
 |_::_,[],h=>by have:=h.1;simp at this
 |r::rs,q::g,h=>by
  refine{.ref r,rs.map V.ref,rfl,{r,mz q,rfl,h.2 0 r (mz q) rfl rfl,?_},za rs g {by have:=h.1;simpa using this,λi a b c d=>h.2 (i+1) a b c d}};exact{.str q.1,[.str q.2],rfl,⟨rfl,rfl⟩,{.str q.2,[],rfl,⟨rfl,rfl⟩,rfl}}
theorem VR._B.eQ.rds(R:eQ H l rs g):bN K H (.lst (g.map Nx)) (.ref l):={l,1,.inl R.l,za rs g R.t}
theorem MU{X:Cx}(g:X.K=K):Qr X (Rb K):=by
 subst g;exact g9
theorem GR{Ok:Hp->Prop}{Q:Hp->Prop}(R:Nat->V->Hp->Prop)(I:∀i y T g ys,R i y T->T l=ρ (.lst ys)->(∀b o,T b=ρ o->b≠l->g b=ρ o)->R i y g)(U:kq J Ok xs)(hl:H l=τ)(hz:xs.9<=sizeLine)(t:∀r,a8 H r->Ok r)
 (he:∀i x C ys,xs[i]?=ρ x->a8 H C->C l=ρ (.lst ys)->∃p a b c,x=.ref p/\gM K C p [a,b,c]/\∀Q',(∀y r,a8 C r->R i y r->Q' y r)->te (ρ a::ρ b::ρ c::σf) C Q')
 (hd:∀ys r,a8 H r->r l=ρ (.lst ys)->ys.9=xs.9->(∀i y,ys[i]?=ρ y->R i y r)->Q r):vC K J l σf xI te H Q:=by
 refine{λi m d g=>m=xs.9-i/\i<=xs.9/\a8 H g/\g l=ρ (.lst d)/\d.9=i/\∀j y,d[j]?=ρ y->R j y g,{xs.9,by simp,Û _,a8.upd hl,a6,rfl,λj y h=>by simp at h},?_};rintro i m d g ⟨rfl,hi,n,q,f,E⟩;refine{q,?_}
 by_cases k:i<xs.9
 .refine .inr {U.go i g (t _ n) k,by rw[f];lia,λx C y=>?_}
  let{e,G}:=U.uY i g x C (t _ n) k y
  subst e
  let{p,a,b,c,rfl,L,M}:=he i x _ d G n q
  refine{p,a,b,c,rfl,L,?_};delta xI;dsimp only;rw[if_pos rfl];refine M _ λy v w A=>{w _ _ q,xs.9-(i+1),(),rfl,k,λb o e=>?_,a6,by rw[É,f];rfl,λj z s=>?_}
  .rw[ae (af e hl)];exact w _ _ (n _ _ e)
  .have u:=w _ _ q;have kp:∀b o,v b=ρ o->b≠l->(upd v l (.lst (d++[y]))) b=ρ o:=λb o e N=>by rw[ae N];exact e
   by_cases B:j<d.9
   .rw[ā B]at s;exact I j z v _ _ (I j z _ _ _ (E j z s) q λb o e _=>w _ _ e) u kp
   .rw[ü ()]at s
    have D:j-d.9=0:=by
     have:=(Ñ.mp s).1;simp at this
     lia
    rw[D]at s;cases s;have:j=i:=();rw[this];exact I i y v _ _ A u kp
 .have e:i=xs.9:=();subst e;exact .inl {U.stop g (t _ n),hd d g n q f E}
theorem BR(a b:Addr):(Fz a b).lookup ("pairs":Str)=ρ (.ref b):=by
 rw[<-HX,aG,if_pos rfl]
theorem aN(a b:Addr):(Fz a b).lookup ("writer":Str)=ρ (.ref a):=by
 rw[<-HX,aG,if_neg ∅,<-Nr,aG,if_pos rfl]
end _L
namespace _S
structure lj(K:Á)(C CB:Addr)(nm:Str):Prop where
 lk:∃(q:Str) (N:Addr) (bs:List Value) (sn:List Str) (sub:List Value) (ab:Bool) (col:Option Bool) (dd:Option Addr) (k0 k1 k2 k3 k5:Option Value),
  K.lookup C=ρ (ć nm q C N bs (mh CB) true sn sub ab col dd k0 k1 k2 k3 k5 "ValueError.__new__")
theorem F8
 (l:K.lookup C=ρ (ć nm q C N bs (mh CB) true sn sub ab col dd k0 k1 k2 k3 k5 "ValueError.__new__")):lj K C CB nm:=⟨q,N,bs,sn,sub,ab,col,dd,k0,k1,k2,k3,k5,l⟩
theorem MV
 (l:K.lookup CB=ρ (ć nm q CB N bs SE hd sn sub ab col dd k0 k1 k2 k3 k5 "ValueError.__new__")):DV K CB nm:=⟨q,N,bs,hd,sn,sub,ab,col,dd,k0,k1,k2,k3,k5,l⟩
inductive PU(K:Á)(C:Addr)(vs:List V)(H:Hp)(Q:VK)(eF:XK):Prop
 |mk (x many hs ws lns) (_:vs=[.ref x,.int many]) (_:cp K C H x hs ws lns) (_:lns.9<=1000) (_:(∀l∈lns,l.9<=10000)) (_:∀(l:Addr) (ks:List Nat) (H':Hp),a8 H H'->H l=τ->H' l=ρ (.lst ((nI ks).map V.int))->p7 lns many ks->Q (.ref l) H')
inductive PV(K:Á)(C:Addr)(vs:List V)(H:Hp)(Q:VK)(eF:XK):Prop
 |mk (x many hs ws lns) (_:vs=[.ref x,.int many]) (_:cp K C H x hs ws lns) (_:jc many hs ws lns) (_:p7 lns many []) (_:hs≠[]) (_:hs.9<=1000) (_:(∀l∈lns,l.9<=10000)) (_:1<=many) (_:many<=1000) (_:∀(t l:Addr) (d:Nat) (ns:List Nat) (w:Int) (H':Hp),a8 H H'->H l=τ->H t=τ->H' t=ρ (.tup [.int (d:Int),.ref l,.int w])->H' l=ρ (.lst ((nI ns).map V.int))->eJ ws lns many (d:Int) (nI ns) w=true->d<hs.9->ns.9<=1000->Q (.ref t) H')
inductive Kh(C CO:Addr)(vs:List V)(H:Hp)(Q:VK)(E:XK):Prop
 |mk (x:Addr) (many:Int) (n:Nat) (g:Str) (ws ss ls:List Str) (_:vs=[.ref x,.int many,.int (n:Int)]) (_:b4 C H x g ws ss ls) (_:2<=g.9) (_:g.9<=10) (_:ss.9<=900) (_:gO g.length many n) (_:(∀(d:Addr) (f:Str->Int) (H':Hp),a8 H H'->H d=τ->H' d=ρ (.dK (bK (cF f ls)))->uT g ws ss ls many n f->Q (.ref d) H')) (_:(Ab g ws ss ls many n->∀H',a8 H H'->E (.ref CO) τ H'))
theorem eU{p b:Addr}{many wide:Int}{h l:Addr}{o:Str}{i:Int}{n:Str}(hn:n∉[("scheme":Str),"band","many","wide","homes","lines","opening","first"]:=by decide+kernel):(nW p b many wide h l o i).lookup n=τ:=qg _ _ _ _ _ _ _ _ hn
end _S
local macro_rules|`(tactic|ac_rfl)=>`(tactic|try dsimp only[K54.da,K54.df,K54.aY,K54.aZ])
namespace K54
section
variable{K:Á}
structure Y4(K:Á)(H:Hp)(e C CB:Addr)(nm:Str)(od:Option Addr):Prop where
 h:H e=ρ (XC e C od)
 d:∀d,od=ρ d->∃fs,H d=ρ (.xd fs)
 u:bJ K C CB nm
 y:ux K C
inductive MX(K:Á)(CR CL CU CB:Addr)(vs:List V)(H:Hp)(Q:VK)(eF:XK):Prop
 |mk (e C:Addr) (nm:Str) (od:Option Addr) (s:Nat) (HF:V) (_:vs=[.ref e,.int (s:Int),HF]) (_:Y4 K H e C CB nm od) (_:G7 CR CL CU H HF s C nm od) (_:∀H',a8 H H'->Q (.bl true) H')
theorem Ki{g r:Str}{m:Nat}(g1:1<=g.9)(j:∀c∈ch r,c∈ch g):(bT (r++Ĝ g (m:Int)) m).9=m/\∀c∈ch (bT (r++Ĝ g (m:Int)) m),c∈ch g:=by
 constructor
 .rw[<-aP,f5,Ú,aP,len_app,Ai];have:m*1<=m*g.9:=Ũ _ g1;omega
 .intro c hc;rw[f5]at hc;have hc:=ő hc;rw[aV]at hc;rcases ä.mp hc with h |h
  .exact j c h
  .exact PH g m c h
end
structure Lk(K:Á)(mg:Str->Option Value) where
 T:Txt mg
 (wL lJ qi gq fj fR gK jX jd oa jY tI tJ zb mJ mK lK og qj qk lq ip jZ iU je mL oh tK lL wM mM wN zc ql oi oj tL wO mN qm F9 qo tM zf pe BU mO gV om mP qp qt Fa mQ iq qu iV fS mR k6 qw lu tN BV qx zg lM gu qy BW gv lN mS wQ oo mU jf mV mW tO oq tP tQ tR ot iW qz:Addr)
 (wR lO qA jg fk fT gL k8 jh ou k9 tS tT zh mX mY lP ow qE qF qG lQ kd iX ji mZ oy tU lR wU n0 wV zi qH oz oA tV wW n7 qI Fb qJ tW zj wX BX n8 ke oB n9 qK qL Fc nc lS qM iY fU ng kg qN qO tX BZ qP zk lT gw qQ C0 jl lU nh wY oC ni jm nj nk tY oE tZ u0 u9 oF nq qR:ï)
 iZ:FnAt K mg "is_whole" (top 20) ["thing"] wL wR
 lV:FnAt K mg "steps_by_word" (top 22) ["writer"] lJ lO
 qS:FnAt K mg "desks_into" (top 23) ["pairs","ends"] qi qA
 nr:FnAt K mg "all_among" (top 27) ["text","signs"] tI tS
 ua:FnAt K mg "are_signs" (top 28) ["thing"] tJ tT
 zm:FnAt K mg "is_word" (top 29) ["thing","signs"] zb zh
 nu:FnAt K mg "check_barred" (top 30) ["barred","signs"] mJ mX
 gx:FnAt K mg "bears_barred" (top 31) ["row","barred"] mK mY
 lW:FnAt K mg "sorted_places" (top 32) ["barred"] lK lP
 oG:FnAt K mg "longest_end" (top 33) ["row","places"] og ow
 qU:FnAt K mg "moves_from" (top 34) ["place","signs","barred","places"] qj qE
 qV:FnAt K mg "leads_into" (top 35) ["ends","lot"] qk qF
 qW:FnAt K mg "live_among" (top 36) ["moves"] lq qG
 wZ:FnAt K mg "all_rows" (top 39) ["band","wide"] wN wV
 zo:FnAt K mg "is_rate" (top 40) ["band","many","wide"] zc zi
 gy:FnAt K mg "check_rate" (top 41) ["band","many","wide"] ql qH
 oH:FnAt K mg "longer_rows" (top 42) ["band","rows"] oi oz
 jB:FnAt K mg "blocks_from" (top 43) ["band","place","wide"] oj oA
 ub:FnAt K mg "ends_from" (top 45) ["band","place"] tL tV
 x9:FnAt K mg "all_ends" (top 46) ["band"] wO wW
 j0:FnAt K mg "counts_up_to" (top 47) ["band","length"] mN n7
 qX:FnAt K mg "count_from" (top 48) ["band","place","length"] qm qI
 Fd:FnAt K mg "count" (top 49) ["band","length"] F9 Fb
 qY:FnAt K mg "block_ends" (top 51) ["band","wide"] qo qJ
 uc:FnAt K mg "weight_of" (top 52) ["places","weights"] tM tW
 zp:FnAt K mg "lowered" (top 53) ["ends","many","weights"] zf zj
 xa:FnAt K mg "greatest" (top 54) ["band","many","wide","most"] pe wX
 C3:FnAt K mg "scarce" (top 55) ["band","many","wide","most"] BU BX
 nv:FnAt K mg "copied_steps" (top 57) ["line"] mO n8
 jC:FnAt K mg "first_sheet" (top 59) ["band","many","wide","weights"] om oB
 j1:FnAt K mg "is_number_of" (top 60) ["number","things"] mP n9
 dY:FnAt K mg "check_part" (top 61) ["sheet","many","steps","weight"] qp qK
 qZ:FnAt K mg "with_twins" (top 62) ["line","desk","twin"] qt qL
 uW:FnAt K mg "split" (top 63) ["sheet","many","desk","numbers","weight"] Fa Fc
 j2:FnAt K mg "copied_sheet" (top 68) ["sheet"] mQ nc
 dZ:FnAt K mg "check_not_scarce" (top 70) ["band","many","wide"] iV iY
 cB:FnAt K mg "weights_of_least_most" (top 71) ["band","many","wide"] fS fU
 nA:FnAt K mg "reached_from" (top 72) ["sheet","desk"] mR ng
 kh:FnAt K mg "closed_weights" (top 73) ["band","many","wide","weights"] k6 kg
 lz:FnAt K mg "steps_into" (top 74) ["line","desks"] qw qN
 lA:FnAt K mg "kept_desks" (top 75) ["sheet","many"] lu qO
 ud:FnAt K mg "step_down" (top 76) ["sheet"] tN tX
 C4:FnAt K mg "run_by" (top 77) ["weights","numbers","many"] BV BZ
 rg:FnAt K mg "next_split" (top 78) ["sheet","many"] qx qP
 nV:FnAt K mg "plan_of" (top 79) ["band","many","wide"] zg zk
 lX:FnAt K mg "blocks_behind" (top 81) ["band","wide"] lM lT
 gz:FnAt K mg "steps_by_new_numbers" (top 82) ["line","kept","many"] gu gw
 ri:FnAt K mg "check_data" (top 83) ["data","many"] qy qQ
 xc:FnAt K mg "walked" (top 84) ["lines","desk","data"] BW C0
 i9:FnAt K mg "_law_here" (top 87) ["_law_script","_law_place"] tO tY
 jD:FnAt K mg "_law_shaken" (top 88) ["_law_cell","_law_many"] oq oE
 ue:FnAt K mg "_law_band" (top 89) ["_law_script"] tP tZ
 uf:FnAt K mg "_law_rate" (top 90) ["_law_script","_law_signs"] tQ u0
 ug:FnAt K mg "_law_told" (top 91) ["_law_signs","_law_words","_law_many","_law_wide"] tR u9
 cQ:FnAt K mg "_law_caught" (top 92) ["_law_reader","_law_way","_law_thing","_law_length"] ot oF
 cy:FnAt K mg "_law_refused" (top 93) ["_law_caught_here","_law_sort","_law_due"] iW nq
 rj:FnAt K mg "_law_other" (top 94) ["_law_signs","_law_cell"] qz qR
 aE:Addr
 Kj:mg "Reader"=ρ (.ref aE)
 au:G0 K aE
 GU:Mk K aE gq
 aB:Addr
 PX:mg "Band"=ρ (.ref aB)
 aK:Ml K aB
 MY:Mk K aB ip
 aD:Addr
 Aj:mg "Sheet"=ρ (.ref aD)
 aC:Jo K aD
 xf:Mk K aD gV
 aW:Addr
 PY:mg "Plan"=ρ (.ref aW)
 ee:Mm K aW
 MZ:Mk K aW iq
 aq:Addr
 Kk:mg "Writer"=ρ (.ref aq)
 ag:GH K aq
 GV:Mk K aq gv
 jn:cG K aE "__init__" "Reader.__init__" (inClass (top 24) 0) ["self","writer"] gq jg
 d7:cG K aE "blocks_in_window" "Reader.blocks_in_window" (inClass (top 24) 1) ["self"] fj fk
 fV:cG K aE "desks_ahead_of" "Reader.desks_ahead_of" (inClass (top 24) 2) ["self","row"] fR fT
 eG:cG K aE "word_fitting" "Reader.word_fitting" (inClass (top 24) 3) ["self","window"] gK gL
 gW:cG K aE "word_of" "Reader.word_of" (inClass (top 24) 4) ["self","window"] jX k8
 dm:cG K aE "words_in" "Reader.words_in" (inClass (top 24) 5) ["self","length"] jd jh
 fC:cG K aE "read" "Reader.read" (inClass (top 24) 6) ["self","row"] oa ou
 gX:cG K aE "touched" "Reader.touched" (inClass (top 24) 7) ["self","length","number"] jY k9
 lY:cG K aB "__init__" "Band.__init__" (inClass (top 37) 0) ["self","signs","barred"] ip lQ
 bC:cG K aB "check_row" "Band.check_row" (inClass (top 37) 1) ["self","row"] jZ kd
 fJ:cG K aB "check_place" "Band.check_place" (inClass (top 37) 2) ["self","place"] iU iX
 jo:cG K aB "check_live" "Band.check_live" (inClass (top 37) 3) ["self","place"] je ji
 nB:cG K aB "is_good" "Band.is_good" (inClass (top 37) 4) ["self","row"] mL mZ
 oI:cG K aB "places" "Band.places" (inClass (top 37) 5) ["self"] oh oy
 jq:cG K aB "live" "Band.live" (inClass (top 37) 6) ["self"] tK tU
 lZ:cG K aB "place_of" "Band.place_of" (inClass (top 37) 7) ["self","row"] lL lR
 pf:cG K aB "led" "Band.led" (inClass (top 37) 8) ["self","place","sign"] wM wU
 nC:cG K aB "longest" "Band.longest" (inClass (top 37) 9) ["self"] mM n0
 fb:cG K aD "__init__" "Sheet.__init__" (inClass (top 58) 0) ["self","homes","weights","lines"] gV ke
 m6:cG K aW "__init__" "Plan.__init__" (inClass (top 69) 0) ["self","weights","splits","kept","last"] iq lS
 rk:cG K aW "sheet" "Plan.sheet" (inClass (top 69) 1) ["self"] qu qM
 jr:cG K aq "__init__" "Writer.__init__" (inClass (top 85) 0) ["self","band","many","wide"] gv jl
 cD:cG K aq "behind" "Writer.behind" (inClass (top 85) 1) ["self"] lN lU
 cX:cG K aq "ahead" "Writer.ahead" (inClass (top 85) 2) ["self"] mS nh
 Kl:cG K aq "start" "Writer.start" (inClass (top 85) 3) ["self"] wQ wY
 eB:cG K aq "lead" "Writer.lead" (inClass (top 85) 4) ["self"] oo oC
 gA:cG K aq "desks" "Writer.desks" (inClass (top 85) 5) ["self"] mU ni
 js:cG K aq "place_at" "Writer.place_at" (inClass (top 85) 6) ["self","desk"] jf jm
 j3:cG K aq "steps" "Writer.steps" (inClass (top 85) 7) ["self","desk"] mV nj
 nD:cG K aq "write" "Writer.write" (inClass (top 85) 8) ["self","data"] mW nk
 aI:Addr
 jt:mg "BandError"=ρ (.ref aI)
 XT:DV K aI "BandError"
 XB:Nt K aI
 sA:Addr
 GW:mg "NoSigns"=ρ (.ref sA)
 GX:lj K sA aI "NoSigns"
 sC:Addr
 GY:mg "TooMany"=ρ (.ref sC)
 GZ:lj K sC aI "TooMany"
 xg:Addr
 Km:mg "NoWord"=ρ (.ref xg)
 Kn:lj K xg aI "NoWord"
 cf:Addr
 Fe:mg "NoRow"=ρ (.ref cf)
 gB:bJ K cf aI "NoRow"
 Ff:ux K cf
 fg:Addr
 gY:ï
 Fg:zy K "__init__" "NoRow.__init__" (inClass (top 6) 0) fg gY
 Fh:Binds K gY ["self","number"] []
 Ko:Ā K (.ref cf) "__init__"=ρ (ρ (.ref fg))
 Kp:Φ K (.ref fg)=true
 j4:Ā K (.ref cf) "number"=ρ τ
 xh:Addr
 Kq:mg "Barred"=ρ (.ref xh)
 Kr:lj K xh aI "Barred"
 sD:Addr
 Hc:mg "NoPlace"=ρ (.ref sD)
 Hd:lj K sD aI "NoPlace"
 cY:Addr
 xi:mg "NoNumber"=ρ (.ref cY)
 j5:bJ K cY aI "NoNumber"
 DZ:ux K cY
 C5:Ā K (.ref cY) "__init__"=ρ (ρ (.builtin "ValueError.__init__"))
 xj:Addr
 Ks:mg "NoRate"=ρ (.ref xj)
 Kt:lj K xj aI "NoRate"
 fh:Addr
 iH:mg "NoSplit"=ρ (.ref fh)
 iI:bJ K fh aI "NoSplit"
 QA:ux K fh
 j6:Ā K (.ref fh) "__init__"=ρ (ρ (.builtin "ValueError.__init__"))
 aU:Addr
 ph:mg "NoLength"=ρ (.ref aU)
 bW:bJ K aU aI "NoLength"
 pj:ux K aU
 dD:Addr
 fv:ï
 xk:zy K "__init__" "NoLength.__init__" (inClass (top 12) 0) dD fv
 pk:Binds K fv ["self","length"] []
 uh:Ā K (.ref aU) "__init__"=ρ (ρ (.ref dD))
 ui:Φ K (.ref dD)=true
 gC:Ā K (.ref aU) "length"=ρ τ
 cz:Addr
 xm:mg "Scarce"=ρ (.ref cz)
 ia:bJ K cz aI "Scarce"
 SH:ux K cz
 eL:Addr
 gD:ï
 C6:zy K "__init__" "Scarce.__init__" (inClass (top 13) 0) eL gD
 C7:Binds K gD ["self","length","rows"] []
 He:Ā K (.ref cz) "__init__"=ρ (ρ (.ref eL))
 Hf:Φ K (.ref eL)=true
 uz:Ā K (.ref cz) "length"=ρ τ
 xR:Ā K (.ref cz) "rows"=ρ τ
 nE:Addr
 Ak:mg "Open"=ρ (.ref nE)
 xn:bJ K nE aI "Open"
 VS:ux K nE
 Fi:Ā K (.ref nE) "__init__"=ρ (ρ (.builtin "ValueError.__init__"))
 xo:Addr
 Ku:mg "NoData"=ρ (.ref xo)
 Kv:lj K xo aI "NoData"
 xq:Addr
 Kw:mg "NoForm"=ρ (.ref xq)
 Kx:lj K xq aI "NoForm"
 xr:Addr
 Ky:mg "NoBand"=ρ (.ref xr)
 Kz:lj K xr aI "NoBand"
 pq:Addr
 E1:mg "NoWriter"=ρ (.ref pq)
 E2:lj K pq aI "NoWriter"
 xt:∃t,mg "MOST_BLOCKS"=ρ (.int 24 t)
 xu:∃t,mg "MOST_WEIGHT"=ρ (.int 8 t)
 mi:∃t,mg "MOST_WEIGHT_IN_ALL"=ρ (.int 40 t)
 known:∃t,mg "KNOWN_SIGNS"=ρ (.str fQ t)
section
variable{P:Ê}{w:World}{K:Á}{mg:Str->Option Value}{base:Heap}
theorem rm(L:Lk K mg):aR P w K mg base d4 1 L.tI L.tS ["text","signs"] Mv:=by
 have T:=L.T;refine L.nr.F.dM (N:=["text","signs"]) (λf A outer s H n Q E nd o h=>?_)
 let{a,b,rfl,hl,k}:=h
 refine{_,(a9 (aw (aF (B1 rfl) (by rfl) T.all Sg (aH (cK rfl (ax ["signs"] [1]) (zS (0)) (λ_ _ _ _ _ _=>bf) (λ_ _ _ _ _ _=>(fZ yt (0) (1) rfl))))))),?_}
 ac_rfl
 refine{1,a,rfl,λl e=>comp_map (U7 b) (pH a) e (by unfold fm;rw[À];exact ak (Í (Ν (aP a)) ())) (λ_ _=>trivial) (λx g p i _ q=>?_) (λj m d=>?_)}
 .let{c,1}:=Æ.mp i
  exact{2,_,1,rfl,q g (a8.refl _)}
 .rw[G9]at d;refine{l,1,aO.of d,?_};have:=k j m;rw[wfM];exact this
theorem ir(L:Lk K mg):aR P w K mg base d4 1 L.mK L.mY ["row","barred"] (MK K):=by
 have T:=L.T;refine L.gx.F.dM (N:=["row","barred"]) (λi A outer s H o Q E nd p h=>?_)
 let{r,a,j,rfl,f,hl,k}:=h
 refine{_,(a9 (aw (aF (AZ rfl) (by rfl) T.any Sh (aH (cK rfl (ax ["row"] [0]) (aS (1)) (λ_ _ _ _ _ _=>bf) (λ_ _ _ _ _ _=>(fZ yt (0) (1) rfl))))))),?_}
 ac_rfl
 refine{1,a,rfl,{_,f},λl d=>comp_map (U7 r) (aT K a (j.map V.str)) d (by rw[À];exact ak ()) (λg e=>e.seq f) (λx m t n _ q=>?_) (λg e b=>?_)}
 .let{c,1}:=Æ.mp n
  exact{2,_,1,rfl,q m (a8.refl _)}
 .rw[Ju]at b;refine{l,1,aO.of b,?_};have:=k g e;rw[wfN];exact this
theorem Al(L:Lk K mg):aR P w K mg base d4 2 L.tJ L.tT ["thing"] Su:=by
 have T:=L.T;refine L.ua.F.dM (N:=["thing"]) (λd A outer s H l Q E nd m h=>?_)
 let{x,rfl,S,k}:=h
 have a:x.9<=sizeLine:=ak (by have:=S.hi;lia)
 let{f,b}:=L.known
 refine{_,(a5 (b7 (PW.pt (iy (cH (bS (aF dj (by rfl) T.tF i5 (a7 (0) (aH (gZ (v:=.ty "str") (by rfl) T.str M8 rfl)))))) (iy (cC lC (xH T.len (0)) aj) (jx (cC nY (xH T.len (0)) aj))))) (a9 (aw dN)) aJ)
  (a9 (aw (vG (fZ iM (aF AY (by rfl) T.len wel (aH (bx (B9 rfl) (by rfl) T.set Vt (aH (0))))) (xH T.len (0)) (kr _)) (vg (ao (rm L) L.nr (a7 (0) (aH (cA (v:=.str fQ) (by rfl) b ⟨f,rfl⟩))))))))),?_}
 ac_rfl
 refine{1,_,_,_,true,rfl,fz.str x,rfl,true,rfl,?_};refine bo ?_;refine{1,x,rfl,a,_,1,rfl,1,?_};refine HU (by have:=S.lo;simp;lia) ?_;refine{1,x,rfl,a,_,1,rfl,1,?_};refine HU (by have:=S.hi;simp;lia) ?_;refine{1,x,rfl,?_,λp g=>?_}
 .have:=S.hi;show x.9+1<ū;unfold ū
  lia
 refine{p,1,a6,1,x,rfl,a,rfl,?_};refine{1,?_};refine UM (by rw[Bq S.nd];simp) ?_;refine{1,x,fQ,rfl,by have:=S.hi;lia,λi j=>?_};have e:((ch x).all λc=>decide (c∈ch fQ))=true:=õ.mpr λc hc=>decide_eq_true (S.sub c hc);rw[e];exact k i ((a8.upd g).trans j)
theorem E3(L:Lk K mg):aR P w K mg base d4 2 L.zb L.zh ["thing","signs"] Sv:=by
 have T:=L.T;refine L.zm.F.dM (N:=["thing","signs"]) (λb A outer s H i Q E nd j h=>?_)
 let{x,g,rfl,S,k}:=h
 have a:x.9<=sizeLine:=ak (by have:=S.hi;lia)
 refine{_,(a5 (b7 (PW.pt (iy (cH (bS (aF dj (by rfl) T.tF i5 (a7 (0) (aH (gZ (v:=.ty "str") (by rfl) T.str M8 rfl)))))) (iy (cC lC (xH T.len (0)) aj) (jx (cC nY (xH T.len (0)) aj))))) (a9 (aw dN)) aJ)
  (a9 (aw (ao (rm L) L.nr (a7 (0) (aH (1))))))),?_}
 ac_rfl
 refine{1,_,_,_,true,rfl,fz.str x,rfl,true,rfl,?_};refine bo ?_;refine{1,x,rfl,a,_,1,rfl,1,?_};refine HU (by have:=S.lo;simp;lia) ?_;refine{1,x,rfl,a,_,1,rfl,1,?_};refine HU (by have:=S.hi;simp;lia) ?_;refine{2,x,g,rfl,by have:=S.hi;lia,λd f=>?_};have e:((ch x).all λc=>decide (c∈ch g))=true:=õ.mpr λc hc=>decide_eq_true (S.sub c hc);rw[e];exact k d f
theorem uA(L:Lk K mg):aR P w K mg base d4 3 L.mJ L.mX ["barred","signs"] (ML K):=by
 have T:=L.T;refine L.nu.F.dM (N:=["barred","signs","number","thing"]) (λj A outer s H q Q E nd r h=>?_)
 let{a,g,d,rfl,c,hl,hw,k}:=h
 refine{_,(a5 (b7 (cC nY (K6 T.len (0)) aj) eY aJ)
  (a9 (forA (kD (by rfl) T.enum (aH (0))) (eE rfl (aQ (ay (i:=2)) (aQ (ay (i:=3)) d1))) (a9 (b7 (cH (bS (ao (E3 L) L.zm (a7 (3) (aH (1)))))) eY aJ))))),?_}
 ac_rfl
 refine{1,a,1,.inl c,_,1,rfl,1,?_};refine HU (by grind) ?_;refine{1,a,1,c,mr (K:=K) (a:=a) (xs:=d.map V.str) (λi σ b=>a8 H b/\∃e f,σ=[ρ (.ref a),ρ (.str g),e,f]) {a8.refl _,τ,τ,rfl} (λi σ b _ p=>p.1.seq c) ?_ (λσ b p=>k b p.1)};rintro i x σ b T u ⟨l,e,f,rfl⟩ m
 obtain⟨t,rfl,n⟩:∃t,x=.str t/\t∈d:=by
  grind
 refine{T,1,gM.of a6,rfl,_,1,_,1,rfl,?_};refine{2,t,g,rfl,hw t n,λv o=>{true,rfl,?_}};refine bo ?_;exact{(l.trans (a8.upd m)).trans o,_,1}
theorem sE(L:Lk K mg):aR P w K mg base d4 2 L.lK L.lP ["barred"] (JQ K):=by
 have T:=L.T;refine L.lW.F.dM (N:=["barred","found","word","length","beginning"]) (λM A outer s H vs Q E nd O h=>?_)
 let{a,ws,rfl,y,hl,hw,k}:=h
 have R:=fA O
 refine{_,(a5 (ai (i:=1) (EF (AR cI dN Er) rfl rfl (by simp) ⋯))
  (a5 (forA (aS (0)) (ay (i:=2)) (a9 (forA (rN rfl T.range (a7 aj (aH (xH T.len (2))))) (ay (i:=3)) (a5 (ai (i:=4) (bq fq (2) dh (b9 (3))))
  (a9 (b7 (cH (bS (ao (ir L) L.gx (a7 (4) (aH (0)))))) (a9 (eI R (1) (4) dN rfl)) aJ))))))
  (a9 (aw (aF (zN rfl) (by rfl) T.sorted M7 (aH (1))))))),?_}
 ac_rfl
 intro d hd;refine{a6,[((Å "":Key),V.bl true)],rfl,⋯,?_}
 have G:a8 H (upd (upd H d (.dK [])) d (.dK (mq [] [((Å "":Key),V.bl true)]))):=by
  rw[Eg];exact a8.upd hd
 refine{1,a,rfl,{_,G.seq y},di (K:=K) (a:=a) (xs:=ws.map V.str) (λi σ m=>∃B c v4,σ=[ρ (.ref a),ρ (.ref d),B,c,v4]/\a8 H m/\m d=ρ (.dK (lE (bU ws "" (ws.take i)))))
  ⟨τ,τ,τ,rfl,G,a6⟩ (λi σ m _ {_,_,_,_,f,_}=>f.seq y) ?_ ?_}
 .rintro i x σ m g ⟨B,c,v4,rfl,f,t⟩;have hi:i<ws.9:=by have:=(Ñ.mp g).1;rwa[À]at this
  obtain⟨wd,p,rfl⟩:∃wd,ws[i]?=ρ wd/\x=.str wd:=by
   rw[Ç]at g
   cases e:ws[i]? with
   |none=>rw[e]at g;cases g
   |some z=>rw[e]at g;exact{z,rfl,(Ò g).symm}
  have S:wd∈ws:=Ð p;have U:=hw wd S;have X:ws.take (i+1)=ws.take i++[wd]:=by rw[ý,p];rfl
  have Y:(bU ws "" (ws.take i)).9<=30:=by
   have:=nP (ws:=ws) (e:="") (us:=ws.take i) λv Z=>hw v (ő Z);rw[Ú]at this
   lia
  refine⟨_,rfl,wd,rfl,ak (),1,_,rfl,{⋯,⋯,(),()},?_⟩;have en:((wd.9:Int)-1).toNat=wd.9-1:=()
  refine dE (lo:=1) (n:=((wd.9:Int)-1).toNat) (λj σ u=>∃c v4,σ=[ρ (.ref a),ρ (.ref d),ρ (.str wd),c,v4]/\a8 H u/\u d=ρ (.dK (lE (upTo ws wd (bU ws "" (ws.take i)) j))))
   ⟨c,v4,rfl,f,t⟩ ?_ ?_
  .rintro j σ u hj ⟨c,v4,rfl,q,C⟩;have ec:(1+(j:Int))=((1+j:Nat):Int):=();refine{3,wd,rfl,ak (),?_};rw[ec];have Ua:=wg ws wd (bU ws "" (ws.take i)) j;refine{2,bT wd (1+j),a,ws,rfl,q.seq y,(),λH4 D=>{1,?_}};have I:=D _ _ C
   cases J:bears ws (bT wd (1+j)) with
   |true=>
    refine bo ?_;refine{_,1,q.trans D,?_};rw[I,gQ];unfold si;rw[if_pos J]
   |false=>
    refine cU ?_;refine{2,d,1,kA.k (k:=Å (bT wd (1+j))) I (by rw[FD];exact bB ()),?_};refine{_,1,λb o e=>?_,?_}
    .rw[ae (af e hd)];exact D _ _ (q _ _ e)
    .rw[a6,Ga,gQ];unfold si;rw[if_neg (by rw[J];exact ã)]
  .rintro σ u ⟨c,v4,rfl,q,C⟩;refine{_,c,v4,rfl,q,?_};rw[C,X,Ds,en];rfl
 .rintro σ m ⟨B,c,v4,rfl,f,t⟩;rw[À,ë]at t;have Y5:=nP (ws:=ws) (e:="") (us:=ws) hw;refine{1,d,_,1,t,CK _,(),λl ss r hp hs=>?_};exact k l ss _ (f.trans (a8.upd r)) (f.free r) a6 hp hs
theorem xx(L:Lk K mg):aR P w K mg base d4 1 L.og L.ow ["row","places"] (OX K):=by
 refine L.oG.F.dM (N:=["row","places","cut"]) (λq A outer s H x Q E nd y h=>?_)
 let{r,a,ps,rfl,t,u,hl,k}:=h
 refine{_,(a5 (ai (i:=2) aj)
  (a5 (jI wdr (g7 kz (bq fq (0) (b9 (2)) dh) (1) rfl) (a9 (vn (i:=2) nd rfl (ğ rfl) aj Iw)))
  (a9 (aw (bq fq (0) (b9 (2)) dh))))),?_}
 ac_rfl
 refine{λm σ c=>∃n:Nat,n<=r.9/\m=r.9-n/\σ=[ρ (.str r),ρ (.ref a),ρ (.int (n:Int))]/\a8 H c/\∀j,j<n->cm r j∉ps,⟨r.9,0,Û _,rfl,rfl,a8.refl _,λj d=>absurd d (ť j)⟩,?_};rintro m σ c ⟨n,hn,rfl,rfl,f,o⟩;refine{3,r,rfl,ak (),1,a,1,.inl (f.seq t),rfl,fL ps,1,?_};rw[if_pos rfl,jJ]
 by_cases h:cm r n∈ps
 .have e:decide (î r (ρ (n:Int)) τ∈ps)=true:=decide_eq_true h;rw[e];refine bo ?_;refine{3,r,rfl,ak (),?_};have:=k c f;unfold lend at this;rw[vJ h o hn]at this;exact this
 .have e:decide (î r (ρ (n:Int)) τ∈ps)=false:=decide_eq_false h;rw[e];refine cU ?_
  have g:n<r.9:=by
   rcases wfk hn with z |z
   .exact z
   .subst z;rw[sj]at h;exact absurd u h
  refine{λb p=>∃l:Nat,l=n+1/\b=[ρ (.str r),ρ (.ref a),ρ (.int (l:Int))]/\a8 H p,?_,?_}
  .rintro b p ⟨l,rfl,rfl,v⟩;refine{r.9-(n+1),(),n+1,g,rfl,rfl,v,λj d=>?_};rcases wfk (Nat.le_of_lt_succ d) with z |z
   .exact o j z
   .rw[z];exact h
  .exact{1,_,1,rfl,n+1,rfl,rfl,f}
theorem xS(L:Lk K mg):aR P w K mg base d4 2 L.qj L.qE ["place","signs","barred","places"] (MM K):=by
 refine L.qU.F.dM (N:=["place","signs","barred","places","moves","sign","row"]) (λR A outer s H vs Q E nd S h=>?_)
 let{p,g,a,b,l,ps,rfl,T,U,V,X,Y,B,C,k}:=h
 have Z:=fA S
 refine{_,(a5 (ai (i:=4) dF)
  (a5 (forA (zS (1)) (ay (i:=5)) (a5 (ai (i:=6) (aA cV (0) (5)))
  (a9 (eI Z (4) (5) (AJ (bS (ao (ir L) L.gx (a7 (6) (aH (2))))) eO (ao (xx L) L.oG (a7 (6) (aH (3))))) rfl))))
  (a9 (aw (4))))),?_}
 ac_rfl
 intro d hd
 refine{1,g,rfl,mn (pH g) (λi σ f=>∃r v6,σ=[ρ (.str p),ρ (.str g),ρ (.ref a),ρ (.ref b),ρ (.ref d),r,v6]/\a8 H f/\f d=ρ (.dK (((ch g).take i).map λc=>((Å ({#[c]}:Str):Key),uR l ps p c))))
  {τ,τ,rfl,a8.upd hd,a6} (λ_ _ _ _ _=>trivial) ?_ ?_}
 .rintro i x σ f m ⟨r,v6,rfl,t,y⟩
  obtain⟨c,hc,rfl⟩:∃c,(ch g)[i]?=ρ c/\x=.str ⟨#[c]⟩:=by
   unfold fm at m;rw[Ç]at m
   cases e:(ch g)[i]? with
   |none=>rw[show g.cps.toList[i]?=τ from e]at m;cases m
   |some z=>rw[show g.cps.toList[i]?=ρ z from e]at m;exact{z,rfl,(Ò m).symm}
  have hi:i<(ch g).9:=(Ñ.mp hc).1;have J:=aP g;have Am:(p++({#[c]}:Str)).length=p.9+1:=by rw[<-aP,aV,É,aP];rfl
  refine{2,p,{#[c]},rfl,rfl,ak (by show p.9+1<=_;lia),?_}
  have fin:∀u,a8 f u->Nz (Lq 4) (Lq 5) (λ_ D Q5=>Q5 (uR l ps p c) D) {nx:=λσ f=>∃r v6,σ=[ρ (.str p),ρ (.str g),ρ (.ref a),ρ (.ref b),ρ (.ref d),r,v6]/\a8 H f/\f d=ρ (.dK (((ch g).take (i+1)).map λc=>((Å ({#[c]}:Str):Key),uR l ps p c))),rt:=Q}
   [ρ (.str p),ρ (.str g),ρ (.ref a),ρ (.ref b),ρ (.ref d),ρ (.str {#[c]}),ρ (.str (p++{#[c]}))] u:=by
   intro u n;have h4:=n _ _ y;refine{2,d,1,kA.k (k:=Å ({#[c]}:Str)) h4 (by rw[À,Ú];exact bB ()),?_};refine{_,1,λb o e=>?_,?_}
   .rw[ae (af e hd)];exact n _ _ (t _ _ e)
   .rw[a6,gb]
    .have:(ch g).take (i+1)=(ch g).take i++[c]:=by rw[ý,hc];rfl
     rw[this,Ü];rfl
    .cases q:bD (((ch g).take i).map λc=>((Å (⟨#[c]⟩:Str):Key),uR l ps p c)) (Å (⟨#[c]⟩:Str):Key) with
     |none=>rfl
     |some v=>
      have:=zP q;rw[Î]at this
      let{G,I,e}:=Æ.mp this
      have e':({#[G]}:Str)={#[c]}:=Ě e
      have:G=c:=by
       have:=congrArg ch e';simpa [ch] using this
      subst this
      let{j,hj,M}:=wf0.mp I
      rw[wfB]at M;rw[Ú]at hj;have e1:(ch g)[i]=G:=(Ñ.mp hc).2;have:=(Ř B).mp (M.trans e1.symm)
      lia
  refine{2,_,a,l,rfl,t.seq T,C,λu n=>{1,?_}}
  cases O:bears l (p++⟨#[c]⟩) with
  |true=>
   refine cU ?_;have:=fin u n;unfold uR at this;rw[if_pos O]at this;unfold uR;exact this
  |false=>
   refine bo ?_;refine{2,_,b,ps,rfl,(t.trans n).seq U,V,(),λD s5=>?_};have:=fin D (n.trans s5);unfold uR at this;rw[if_neg (by rw[O];exact ã)]at this;unfold uR;exact this
 .rintro σ f ⟨r,v6,rfl,t,y⟩;have e:(fm g).9=(ch g).9:=by unfold fm;rw[À]
  rw[e,ë]at y;exact{_,rfl,k d f t hd y}
theorem xT(L:Lk K mg):aR P w K mg base d4 1 L.qk L.qF ["ends","lot"] (Md K):=by
 have T:=L.T;refine L.qV.F.dM (N:=["ends","lot"]) (λm A outer s H u Q E nd v h=>?_)
 let{a,b,d,ls,rfl,i,n,fa,o,hl,k}:=h
 refine{_,(a9 (aw (aF (AZ rfl) (by rfl) T.any Sh (aH (cK rfl (ax ["lot"] [1]) (aS (0)) (λ_ _ _ _ _ _=>bf) (λ_ _ _ _ _ _=>(fZ (iO (K:=K) rfl) (0) (1) rfl))))))),?_}
 ac_rfl
 refine{1,a,rfl,{_,i},λl f=>comp_map (Si ls) (aT K a d) f (ak ()) (λj g=>g.seq i) (λx p y r t q=>?_) (λj g c=>?_)}
 .exact{2,b,ls,rfl,.inl (t.seq n),õ.mp fa x r,o,q p (a8.refl _)}
 .have e:d.map (Si ls)=(d.map λe=>pO e ls).map V.bl:=by rw[Î];rfl
  rw[e]at c;refine{l,1,aO.of c,?_};have:=k j g;rw[wfN];exact this
theorem xU(L:Lk K mg):aR P w K mg base d4 2 L.lq L.qG ["moves"] (OY K):=by
 have T:=L.T;refine L.qW.F.dM (N:=["moves","lot","left"]) (λY A outer s H vs Q E nd hr h=>?_)
 let{d,Z,o,rfl,hd,hl,hm,hf,hel,k}:=h
 have hu:=fA hr;have SJ:(A.deeper (wda "live_among" (aL (top 36)) s.heap.objs.size L.lq Y)).units<ò:=hr.vq
 refine{_,(a5 (ai (i:=1) (bx (kC rfl) (by rfl) T.list iz (aH (0))))
  (a9 (jI wdr (bS dN) (a5 (dS (i:=2) rfl (ax ["moves","lot"] [0,1]) nd rfl rfl (aS (1)) (λ_ _ _ _ _ _=>hF (bS (ao (xT L) L.qV (a7 (bx (D3 rfl) (by rfl) T.list iz (aH (ED (K:=K) rfl wde wea wg0 yE (dC hu (1) (0) (λ_ _=>rfl))))) (aH (2)))))) (λ_ _ _ _ _ _=>(0)))
  (a5 (b7 (cC (CT SJ) (2) (1)) (a9 (aw (1))) aJ)
  (a9 (ai (i:=1) (2)))))))),?_}
 ac_rfl
 refine{1,d,1,hd,λl0 t=>?_}
 refine{λm σ H2=>∃(l:Addr) (ls:List Str) (v:Option V),m=ls.9/\σ=[ρ (.ref d),ρ (.ref l),v]/\a8 H H2/\H l=τ/\H2 l=ρ (.lst (ls.map V.str))/\ls.Sublist (Z.map (·.1)) /\
  ∀b:List Str,(∀k∈b,k∈Z.map (·.1)/\mw (o k) b=true)->∀k∈b,k∈ls,
  {_,l0,Z.map (·.1),τ,rfl,rfl,a8.upd t,t,by rw[a6,iJ],wfx _,λb h k hk=>(h k hk).1},?_}
 rintro m σ H2 ⟨l,ls,v,rfl,rfl,S,NV,U,f,c⟩;refine{true,rfl,cU ?_};have DT:ls.9<=1000:=by have:=f.length_le;rw[À]at this;lia
 let p:V->Bool:=λx=>match x with
  |.str k=>mw (o k) ls
  |_=>false
 let g:List Str:=ls.filter λk=>mw (o k) ls
 have u:(ls.map V.str).filter p=g.map V.str:=by
  rw[wf2];rfl
 refine{λy r=>∃(B:Addr) (v:Option V),y=[ρ (.ref d),ρ (.ref B),v]/\a8 H r/\H B=τ/\r B=ρ (.lst (g.map V.str))/\g.9<ls.9,?_,?_}
 .rintro y r ⟨B,v,rfl,n,Cj,C,Pz⟩;refine{g.9,Pz,B,g,v,rfl,rfl,n,Cj,C,(wdW).trans f,λb h k hk=>?_};have hk1:=c b h k hk;exact ß.mpr {hk1,CM (c b h) (h k hk).2}
 .refine{1,l,rfl,{_,aO.of U},λl2 D=>et p (λx=>x) (aT K l (ls.map V.str)) D (by rw[À];exact ak ()) (λr n=>n.seq (aO.of U)) (λx G Q' hx s3 q=>?_) (λx G Q' hx _ s3 q=>{1,q G (a8.refl _)}) (λr n C=>?_)}
  .let{X,hkx,rfl}:=Æ.mp hx
   let{a,ha,I}:=iG (f.subset hkx)
   have J:a8 H G:=S.trans s3;have Ub:=J _ _ hd;have j:=J _ _ (hm _ ha);refine{2,d,.ref a,rfl,?_,?_}
   .have:=eN.k (k:=(Å X:Key)) Ub;rw[I]at this;exact this
   refine{.inr (.inr (.inl {rfl,.inl {_,j}})),a,1,rfl,j,λvw M=>?_};refine{vw,a,1,a6,by rw[ae (af j M)];exact j,λl3 FN=>?_};have s4:a8 G (upd (upd G vw (pF vw a)) l3 (.lst ((o X).map (·.2)))):=(a8.upd M).trans (a8.upd FN);refine{1,l3,l,_,1,aO.of a6,aO.of (s4 _ _ (s3 _ _ U)),hf X,fL ls,by rw[À];exact hel X,λH5 s5=>{1,?_}};exact q H5 (s4.trans s5)
  .rw[Θ,u]at C;have O:=n _ _ U;refine{2,l2,l,_,1,rfl,aO.of C,aO.of O,fL _,fL _,1,?_};rw[yr];have R:H l2=τ:=S.free D
   by_cases e:g=ls
   .rw[decide_eq_true e];refine cU ?_;refine{1,k l ls r (S.trans n) NV O {f,λkk hk=>?_,c}};have:=e ▸ hk;exact(ß.mp this).2
   .rw[decide_eq_false e];refine bo ?_;refine{1,l2,1,S.trans n,R,C,?_};rcases wfk (Ħ (λk=>mw (o k) ls) ls) with z |z
    .exact z
    .exact absurd ((wdW (p:=λk=>mw (o k) ls)).eq_of_length z) e
theorem xA(L:Lk K mg):aR P w K mg base d4 1 L.oh L.oy ["self"] (JF L.aB):=by
 have T:=L.T;refine L.oI.F.dM (N:=["self"]) (λa A outer s H j Q E nd m h=>?_)
 let{x,g,n,ss,ls,rfl,B,k}:=h
 let{{c,b,d,q,o,e,p,f,i,r,t},_,_,_}:=B
 refine{_,(a9 (aw (bx (kC rfl) (by rfl) T.list iz (aH (az (0) rfl))))),?_}
 ac_rfl
 refine{1,x,L.aB,c,_,1,e,L.aK.cl,L.aK.kQ,kH g b d q,d,1,f,λl hl=>?_};rw[iJ,i];exact k l _ (a8.upd hl) hl a6
theorem lB(L:Lk K mg):aR P w K mg base d4 1 L.tK L.tU ["self"] (Mw L.aB):=by
 have T:=L.T;refine L.jq.F.dM (N:=["self"]) (λa A outer s H i Q E nd j h=>?_)
 let{x,g,m,ss,ls,rfl,B,k}:=h
 let{{c,b,d,q,n,e,o,p,r,t,f},_,_,_}:=B
 refine{_,(a9 (aw (bx dQ (by rfl) T.list iz (aH (az (0) rfl))))),?_}
 ac_rfl
 refine{1,x,L.aB,c,_,1,e,L.aK.cl,L.aK.sr,yQ g b d q,q,1,.inl (aO.of f),λl hl=>?_};exact k l _ (a8.upd hl) hl a6
theorem iB(L:Lk K mg):aR P w K mg base d4 1 L.iU L.iX ["self","place"] (VA L.aB):=by
 have T:=L.T;refine L.fJ.F.dM (N:=["self","place"]) (λc A outer s H r Q E nd e h=>?_)
 let{x,p,g,t,ss,ls,rfl,B,f,k}:=h
 let{{i,b,d,q,mv,j,u,l,m,y,z},_,_,_}:=B
 let{a,ha,n}:=iG (mv:=mv) (k:=p) (by rw[m];exact f)
 have o:=fA e;refine{_,(a9 (b7 (PW.pt (iy (cH (bS (aF dj (by rfl) T.tF i5 (a7 (1) (aH (gZ (v:=.ty "str") (by rfl) T.str M8 rfl)))))) (jx (zD (yF o (1) (az (0) rfl)))))) eY aJ)),?_}
 ac_rfl
 refine{1,_,_,_,true,rfl,fz.str p,rfl,true,rfl,bo ?_};refine{2,x,L.aB,i,_,1,j,L.aK.cl,L.aK.kQ,kH g b d q,d,1,eN.k (k:=(Å p:Key)) l,1,?_};rw[n];exact bo k
theorem ju(L:Lk K mg):aR P w K mg base d4 1 L.wL L.wR ["thing"] Jb:=by
 have T:=L.T;refine L.iZ.F.dM (N:=["thing"]) (λa A outer s H c Q E nd d h=>?_)
 let{v,rfl,b,k}:=h
 refine{_,(a9 (aw (vG (aF dj (by rfl) T.tF i5 (a7 (0) (aH (gZ (v:=.ty "int") (by rfl) T.int Vu rfl)))) (vg (zF (aF dj (by rfl) T.tF i5 (a7 (0) (aH (gZ (v:=.ty "bool") (by rfl) T.bool J7 rfl))))))))),?_}
 ac_rfl
 cases b with
 |flat f=>
  cases v with
  |non=>exact{1,_,_,_,false,rfl,fz.non,rfl,false,rfl,bo k}
  |bl z=>exact{1,_,_,_,true,rfl,fz.bl z,rfl,true,rfl,cU {1,_,_,_,true,rfl,fz.bl z,rfl,true,rfl,k}}
  |int z=>exact{1,_,_,_,true,rfl,fz.int z,rfl,true,rfl,cU {1,_,_,_,false,rfl,fz.int z,rfl,false,rfl,k}}
  |str z=>exact{1,_,_,_,false,rfl,fz.str z,rfl,false,rfl,bo k}
  |flt z=>exact{1,_,_,_,false,rfl,fz.flt z,rfl,false,rfl,bo k}
  |ref z=>cases f
  |ty z=>cases f
  |_=>cases f
 |lst h f=>exact{1,_,_,_,false,rfl,fz.lst h,rfl,false,rfl,bo k}
 |tup h f=>exact{1,_,_,_,false,rfl,fz.tup h,rfl,false,rfl,bo k}
 |dic h=>exact{1,_,_,_,false,rfl,fz.dK h,rfl,false,rfl,bo k}
theorem C8(L:Lk K mg):aR P w K mg base d4 1 L.wN L.wV ["band","wide"] (Gp L.aB):=by
 have T:=L.T;refine L.wZ.F.dM (N:=["band","wide","rows","step"]) (λf A outer s H r Q E nd t h=>?_)
 let{x,n,g,u,ss,ls,rfl,B,j,l,m,k}:=h
 refine{_,(a5 (ai (i:=2) aj)
  (a5 (forA (cR rfl T.range (aH (1))) (ay (i:=3)) (a9 (vn (i:=2) nd rfl (ğ rfl) (xH T.len (az (0) rfl)) IA)))
  (a9 (aw (2))))),?_}
 ac_rfl
 let{{o,b,d,q,v,p,y,z,C,D,G},_,_,_}:=id B
 refine{1,n,rfl,(),(),dE (lo:=0) (n:=n.toNat) (λi σ a=>a=H/\∃c,σ=[ρ (.ref x),ρ (.int n),ρ (.int ((g.9:Int)^i)),c]) ⟨rfl,τ,rfl⟩ ?_ ?_}
 .rintro i σ a hi ⟨e,c,rfl⟩;rw[e];refine{2,x,L.aB,o,_,1,p,L.aK.cl,L.aK.q8,kJ g b d q,g,rfl,ak (),_,1,rfl,.inr {(),()},rfl,ρ (.int (0+(i:Int))),?_};rw[wg1];rfl
 .rintro σ a ⟨e,c,rfl⟩;rw[e];exact{_,rfl,k}
theorem E4(L:Lk K mg):aR P w K mg base d4 2 L.zc L.zi ["band","many","wide"] (Bz L.aB):=by
 refine L.zo.F.dM (N:=["band","many","wide"]) (λc A outer s H f Q E nd i h=>?_)
 let{x,many,wide,g,d,ss,ls,rfl,B,a,b,k}:=h
 refine{_,(a5 (b7 (PW.pt (iy (cH (bS (ao (ju L) L.iZ (aH (1))))) (iy (cC lC (1) aj) (jx (cC nY (1) aj))))) (a9 (aw dN)) aJ)
  (a5 (b7 (PW.pt (iy (cH (bS (ao (ju L) L.iZ (aH (2))))) (iy (cC lC (2) aj) (jx (cC nY (2) aj))))) (a9 (aw dN)) aJ)
  (a9 (aw (fZ Rr (ao (C8 L) L.wZ (a7 (0) (aH (2)))) aj (kr _)))))),?_}
 ac_rfl
 let{ha,j,hc,hd,e}:=id b
 refine{1,.int many,rfl,.flat rfl,true,rfl,bo ?_};refine{1,_,1,rfl,false,congrArg V.bl (decide_eq_false ()),bo ?_};refine{1,_,1,rfl,false,congrArg V.bl (decide_eq_false ()),bo ?_};refine{1,.int wide,rfl,.flat rfl,true,rfl,bo ?_};refine{1,_,1,rfl,false,congrArg V.bl (decide_eq_false ()),bo ?_};refine{1,_,1,rfl,false,congrArg V.bl (decide_eq_false ()),bo ?_};refine{2,x,wide,g,d,ss,ls,rfl,B,a,(),(),_,1,rfl,?_};show Q (V.bl (decide ((g.9:Int)^wide.toNat<=64))) H;rw[decide_eq_true e];exact k
theorem hO(L:Lk K mg):aR P w K mg base d4 3 L.ql L.qH ["band","many","wide"] (Bz L.aB):=by
 refine L.gy.F.dM (N:=["band","many","wide"]) (λc A outer s H e Q E nd f h=>?_)
 let{x,many,wide,g,d,ss,ls,rfl,B,a,b,k}:=h
 refine{_,(a5 (b7 (cH (bS (ao (E4 L) L.zo (a7 (0) (a7 (1) (aH (2))))))) eY aJ)
  (a9 (aw dN))),?_}
 ac_rfl
 exact{_,rfl,2,x,many,wide,g,d,ss,ls,rfl,B,a,b,true,rfl,bo k}
theorem uB(L:Lk K mg):aR P w K mg base d4 1 L.mO L.n8 ["line"] (JK K):=by
 refine L.nv.F.dM (N:=["line"]) (λo A outer s H D Q E nd c h=>?_)
 let{v,p,rfl,t,hn,k}:=h
 refine{_,(a9 (aw (gp rfl (ax [] []) (ax [] []) ⋯ (aS (0)) (λ_ _ _ _ _ _=>bf) (λ_ _ _ _ _ _=>(eD (a7 (0) (aH (1)))))))),?_}
 ac_rfl
 let{a,u,rfl,j,b,x}:=kT t
 have d:=b;rw[À]at d;refine{1,a,rfl,{_,j},λl hl=>?_};refine jW (prs:=p.map eR) (λ_=>true) (λq=>.tup [.at q.1,.at q.2]) (aT K a u) b (λi q e=>let ⟨r,y,B⟩:=x i q e;{r,y,gM.of B}) hl (ak ()) (λm f=>f.seq j) (λq n C _ _ g=>g n (a8.refl _)) (λq n C e _ G g=>?_) (λm f r=>?_)
 .let{z,I,rfl}:=Æ.mp e
  exact{2,by show 2<=sizeLine;decide,λr c=>g _ _ (a8.upd c) (mH c z)}
 .rw[ĝ.mpr (λ_ _=>rfl),Î]at r;exact k _ m f r
theorem m7(L:Lk K mg):aR P w K mg base d4 1 L.mP L.n9 ["number","things"] (Mb K):=by
 have T:=L.T;refine L.j1.F.dM (N:=["number","things"]) (λc A outer s H f Q E nd g h=>?_)
 let{i,a,b,rfl,d,k}:=h
 refine{_,(a9 (aw (vG (fZ AK (0) aj (kr _)) (vg (fZ lC (0) (K6 T.len (1)) (kr _)))))),?_}
 ac_rfl
 by_cases h0:0<=i
 .have e:fB i b.9=decide (i<(b.9:Int)):=by unfold fB;rw[decide_eq_true h0,wey]
  rw[e]at k;exact{1,_,1,rfl,true,congrArg V.bl (decide_eq_true h0),cU {2,a,b,rfl,.inl d,_,1,rfl,k}}
 .have e:fB i b.9=false:=by unfold fB;rw[decide_eq_false h0,ζ]
  rw[e]at k;exact{1,_,1,rfl,false,congrArg V.bl (decide_eq_false h0),bo k}
theorem oJ(L:Lk K mg):aR P w K mg base d4 1 L.qw L.qN ["line","desks"] (Pp K):=by
 refine L.lz.F.dM (N:=["line","desks"]) (λy A outer s H R Q E nd g h=>?_)
 let{v,b,f,j,rfl,B,C,hn,k}:=h
 refine{_,(a9 (aw (gp rfl (ax ["desks"] [1]) (ax ["desks"] [1]) ⋯ (aS (0)) (λ_ _ _ _ _ _=>hF (g7 (iO (K:=K) rfl) (1) (2) rfl)) (λ_ _ _ _ _ _=>(eD (a7 (0) (aH (1)))))))),?_}
 ac_rfl
 let{a,D,rfl,p,c,G}:=kT B
 have m:=c;rw[À]at m;refine{1,a,rfl,{_,p},λl hl=>?_}
 refine jW (prs:=j.map eR) (λq=>pO q.2 ((nI f).map V.int)) (λq=>.tup [.at q.1,.at q.2]) (aT K a D) c (λi q d=>let ⟨r,I,J⟩:=G i q d;{r,I,gM.of J}) hl (ak ()) (λt n=>n.seq p) (λq u M d x o=>by
  let{z,O,rfl}:=Æ.mp d
  exact{2,b,1,.inl (x.seq C),rfl,fM _,1,o u (a8.refl _)}) (λq u M d _ x o=>?_) (λt n r=>?_)
 .let{z,O,rfl}:=Æ.mp d
  exact{2,by show 2<=sizeLine;decide,λr g=>o _ _ (a8.upd g) (mH g z)}
 .have e:((j.map eR).filter λq=>pO q.2 ((nI f).map V.int))=(d5 f j).map eR:=by
   unfold d5;rw[wf2];refine congrArg _ (whO λq _=>?_);exact Be q.2 f
  rw[e,Î]at r;exact k _ t n r
theorem pw(L:Lk K mg):aR P w K mg base d4 1 L.je L.ji ["self","place"] (VB L.aB):=by
 have T:=L.T;refine L.jo.F.dM (N:=["self","place"]) (λa A outer s H l Q E nd m h=>?_)
 let{x,p,g,n,ss,ls,rfl,B,c,k}:=h
 let{{f,b,d,q,o,i,r,t,u,y,j},_,_,_}:=B
 refine{_,(a9 (b7 (PW.pt (iy (cH (bS (aF dj (by rfl) T.tF i5 (a7 (1) (aH (gZ (v:=.ty "str") (by rfl) T.str M8 rfl)))))) (jx (g7 kz (1) (az (0) rfl) rfl)))) eY aJ)),?_}
 ac_rfl
 refine{1,_,_,_,true,rfl,fz.str p,rfl,true,rfl,bo ?_};refine{2,x,L.aB,f,_,1,i,L.aK.cl,L.aK.sr,yQ g b d q,q,1,.inl (aO.of j),rfl,fL _,?_};have e:pO (.str p) (ls.map V.str)=true:=by rw[jJ];exact decide_eq_true c
 refine{false,?_,bo k};show V.bl (!pO (.str p) (ls.map V.str))=V.bl false;rw[e];rfl
theorem An(L:Lk K mg):aR P w K mg base d4 1 L.tN L.tX ["sheet"] (Pq K L.aD):=by
 have T:=L.T;refine L.ud.F.dM (N:=["sheet","heaviest","desk","line","number","step"]) (λhU A outer s H vs Q E nd hr h=>?_)
 let{x,hs,g,b,rfl,S,xQ,he,Dc,hex,k}:=h
 refine{_,(a5 (ai (i:=1) (aF (FI rfl) (by rfl) T.max yR (aH (az (0) rfl))))
  (a5 (forA (kD (by rfl) T.enum (aH (az (0) rfl))) (eE rfl (aQ (ay (i:=2)) (aQ (ay (i:=3)) d1))) (a9 (forA (kD (by rfl) T.enum (aH (3))) (eE rfl (aQ (ay (i:=4)) (aQ (ay (i:=5)) d1))) (a9 (b7 (PW.pt (CI (cC iM (bp bM (az (0) rfl) (2) (λ_ _=>rfl)) (1)) (zE (cC lC (bp bM (az (0) rfl) (bp g9 (5) aj (λ_ _=>rfl)) (λ_ _=>rfl)) (1))))) (a9 (aw (eD (a7 (2) (aH (4)))))) aJ)))))
  (a9 (aw eO)))),?_}
 ac_rfl
 let{dx,ah,bw,cl,hx,rh,Lc,rl}:=id S
 let{Y6,eb,hb}:=iR Lc
 cases eb
 let{SK,xs,ec,hc,R}:=id rl
 cases ec;have xl:xs.9=b.9:=by rw[R.len,À]
 refine{1,x,L.aD,dx,_,1,hx,L.aC.cl,L.aC.dI,cO ah bw cl,bw,g,rfl,hb,Dc,λM hM hT=>?_};have U:∀n:Nat,n<g.9->zv (g.map V.int) (n:Int)=ρ (.int (g.getD n 0)):=λn hn=>bL (by rw[Ç,Ã hn,Ë,Ã hn];rfl);refine{1,x,L.aD,dx,_,1,hx,L.aC.cl,L.aC.d2,bX ah bw cl,cl,xs,rfl,.inl hc,mr (K:=K) (a:=cl) (xs:=xs) (λi σ X=>a8 H X/\(∃v2 v3 v4 O,σ=[ρ (.ref x),ρ (.int M),v2,v3,v4,O])/\∀d f c q,Down g b M d f c q->i<=d) {a8.refl _,⟨τ,τ,τ,τ,rfl⟩,λ_ _ _ _ _=>Û _} (λi σ X _ p=>p.1.seq (.inl hc)) ?_ (λσ X p=>?_)}
 .rintro d y σ X T hy ⟨s2,⟨v2,v3,v4,O,rfl⟩,B⟩ hTf;have hd:d<xs.9:=(Ñ.mp hy).1;have KA:d<b.9:=();have Y:b[d]?=ρ (b.getD d []):=by rw[Ë,Ã KA];rfl
  let{v,Z,rd}:=R.at (i:=d) (d:=cj (b.getD d [])) (by rw[Ç,Y];rfl)
  rw[hy]at Z;cases Z
  let{a,C,rfl,hS,SM}:=ez rd
  have Y7:C.9=(b.getD d []).9:=by rw[SM.1,À,À]
  have VU:∀q∈b.getD d [],q.2<g.9:=he _ (Ð Y);have s3:=s2.trans (a8.upd (o:=.tup [.int (d:Nat),.ref a]) hTf);refine{T,1,gM.of a6,rfl,_,1,_,1,rfl,?_};generalize upd X T _=H3 at s3;refine{1,a,1,s3.seq hS,mr (K:=K) (a:=a) (xs:=C.map V.ref) (λi σ H4=>a8 H H4/\(∃v4 O,σ=[ρ (.ref x),ρ (.int M),ρ (.int (d:Int)),ρ (.ref a),v4,O])/\∀f c q,Down g b M d f c q->i<=f) {s3,{_,1},λ_ _ _ _=>Û _} (λi σ H4 _ p=>p.1.seq hS) ?_ (λσ H4 p=>?_)}
  .rintro i y σ H4 T2 G ⟨s4,⟨v4,O,rfl⟩,j⟩ hT2;have hi:i<C.9:=by have:=(Ñ.mp G).1;rwa[À]at this
   have I:i<(b.getD d []).9:=();rw[Ç,Ã hi]at G;cases G;have SN:H C[i]=ρ (.tup [.str (b.getD d [])[i].1,.int ((b.getD d [])[i].2:Int)]):=SM.2 i C[i] (jG (eR (b.getD d [])[i])) (Ã hi) (by rw[Ç,Ç,Ã I];rfl);have J:(b.getD d [])[i]?=ρ (b.getD d [])[i]:=Ã I;have NW:=VU _ (ñ I);generalize (b.getD d [])[i]=q at SN J NW;have m:=s4.trans (a8.upd (o:=.tup [.int (i:Nat),.ref C[i]]) hT2);refine{T2,1,gM.of a6,rfl,_,1,_,1,rfl,?_};generalize upd H4 T2 _=H5 at m
   have L7:(¬∃c q,Down g b M d i c q)->∀f c q,Down g b M d f c q->i+1<=f:=λhn f c q hD=>by
    have:=j f c q hD
    by_cases e:f=i
    .subst e;exact absurd ⟨c,q,hD⟩ hn
    .lia
   refine{1,x,L.aD,dx,_,1,m _ _ hx,L.aC.cl,L.aC.dI,cO ah bw cl,1,bw,_,_,1,rfl,m.seq hb,U d (),1,?_}
   by_cases r:g.getD d 0=M
   .refine{rfl,true,congrArg V.bl (decide_eq_true (by rw[r])),cU ?_};refine{1,x,L.aD,dx,_,1,m _ _ hx,L.aC.cl,L.aC.dI,cO ah bw cl,1,C[i],_,_,1,rfl,gM.of (m _ _ SN),rfl,bw,_,_,1,rfl,m.seq hb,U q.2 NW,1,_,1,rfl,?_}
    by_cases u:g.getD q.2 0<M
    .refine{true,congrArg V.bl (decide_eq_true u),cU ?_};refine{2,by show 2<=sizeLine;decide,λt ht=>?_};exact k t M d i _ q _ (m.trans (a8.upd ht)) a6 ⟨hM,hT,Y,J,r,u⟩
    .refine{false,congrArg V.bl (decide_eq_false u),bo ?_};refine{m,{_,1},L7 ?_};rintro⟨c,q',D⟩;have e1:=D.l;rw[Y]at e1;cases e1;have e2:=D.s;rw[J]at e2;cases e2;exact u D.lt
   .refine{rfl,false,congrArg V.bl (decide_eq_false λz=>r (V.int.inj z)),bo ?_};refine bo {m,{_,1},L7 ?_};rintro⟨c,q',D⟩;exact r D.e
  .let{s4,{v4,O,rfl},j}:=p
   refine{s4,{_,_,_,1},λd' f c q D=>?_};have:=B d' f c q D
   by_cases e:d'=d
   .subst e;have:=j f c q D;have e1:=D.l;rw[Y]at e1;cases e1;have:=(Ñ.mp D.s).1;rw[À]at *
    lia
   .lia
 .let{s2,_,B}:=p
  let{d,i,c,q,D}:=hex M hM hT
  have:=B d i c q D;have:=(Ñ.mp D.l).1
  lia
theorem xV(L:Lk K mg):aR P w K mg base d4 2 L.qy L.qQ ["data","many"] Jr:=by
 have T:=L.T;refine L.ri.F.dM (N:=["data","many","number","thing"]) (λg A outer s H t Q E nd u h=>?_)
 let{a,j,many,rfl,ha,c,k}:=h
 refine{_,(a5 (b7 (cH (bS (aF dj (by rfl) T.tF i5 (a7 (0) (aH (gZ (v:=.ty "list") (by rfl) T.list iz rfl)))))) eY aJ)
  (a9 (forA (kD (by rfl) T.enum (aH (0))) (eE rfl (aQ (ay (i:=2)) (aQ (ay (i:=3)) d1))) (a9 (b7 (PW.pt (iy (cH (bS (ao (ju L) L.iZ (aH (3))))) (iy (cC lC (3) aj) (jx (cC AK (3) (1)))))) eY aJ))))),?_}
 ac_rfl
 refine{1,_,_,_,true,rfl,fz.lst ha,rfl,true,rfl,bo ?_};refine{1,a,1,aO.of ha,mr (K:=K) (a:=a) (xs:=(nI j).map V.int) (λi σ b=>a8 H b/\∃d e,σ=[ρ (.ref a),ρ (.int many),d,e]) {a8.refl _,τ,τ,rfl} (λi σ b _ p=>p.1.seq (aO.of ha)) ?_ (λσ b p=>k b p.1)};rintro i x σ b T l ⟨m,d,e,rfl⟩ q
 let{n,hn,rfl}:=vV (Ð l)
 have r:=c n hn;refine{T,1,gM.of a6,rfl,_,1,_,1,rfl,?_};have f:=m.trans (a8.upd (o:=.tup [.int (i:Nat),.int (n:Int)]) q);generalize upd b T _=y at f;refine{1,.int (n:Int),rfl,.flat rfl,true,rfl,bo ?_};refine{1,_,1,rfl,false,congrArg V.bl (decide_eq_false ()),bo ?_};refine{2,_,1,rfl,false,congrArg V.bl (decide_eq_false ()),bo ?_};exact{f,_,1}
theorem xW(L:Lk K mg):aR P w K mg base d4 1 L.qi L.qA ["pairs","ends"] (Mr K):=by
 have T:=L.T;refine L.qS.F.dM (N:=["pairs","ends","wanted","end","found","desk"]) (λhU A outer s H vs Q E nd hr h=>?_)
 let{l,b,x,ps,B,rfl,hL,hT,hE,pl,el,k}:=h
 have f:=fA hr
 refine{_,(a5 (ai (i:=2) dF)
  (a5 (forA (aS (1)) (ay (i:=3)) (a9 (eI f (2) (3) dN rfl)))
  (a5 (ai (i:=4) dF)
  (a5 (forA (aS (0)) (eE rfl (aQ (ay (i:=5)) (aQ (ay (i:=3)) d1))) (a9 (b7 (zD (II f (3) (2))) (a9 (eI f (4) (5) dN rfl)) aJ)))
  (a9 (aw (bx (kC rfl) (by rfl) T.list iz (aH (4))))))))),?_}
 ac_rfl
 refine λm hw=>?_;have X:x.9=ps.9:=by rw[hT.1,À]
 refine{1,b,rfl,{_,(a8.upd hw).seq hE},di (K:=K) (a:=b) (xs:=(nI B).map V.int) (λi σ t=>a8 H t/\(∃n,t m=ρ (.dK (dB n))/\(∀e,e∈n↔e∈B.take i)/\n.9<=i)/\∃u,σ=[ρ (.ref l),ρ (.ref b),ρ (.ref m),u,τ,τ]) {a8.upd hw,{[],a6,λe=>by rw[Κ],Ä _},τ,rfl} (λi σ t _ q=>q.1.seq hE) ?_ ?_}
 .rintro i y σ t j ⟨J,⟨n,M,f,ul⟩,u,rfl⟩;have hi:i<B.9:=by have:=(Ñ.mp j).1;rwa[À,cM]at this
  rw[zU (Ã hi)]at j;cases j
  let{Y,Z,e2,e3}:=K0 B[i] n
  refine{2,m,1,kA.k (k:=á (B[i]:Int)) M (bB (by delta dB;rw[À];lia)),?_};rw[Z];refine{λc o e=>by rw[ae (af e hw)];exact J _ _ e,{Y,a6,λe=>?_,()},1};rw[e2,f,ý,Ã hi,ä];simp
 .rintro σ t ⟨J,⟨n,M,f,ul⟩,u,rfl⟩;rw[À,cM,ë]at f;refine λfd O=>?_;have nwf:m≠fd:=af M O;have s3:=J.trans (a8.upd (o:=.dK []) O);have h3:=a8.upd (o:=.dK []) O _ _ M;have g3:(upd t fd (.dK [])) fd=ρ (.dK (dB [])):=a6;have ff:=none_of J O;generalize upd t fd _=H3 at s3 h3 g3;refine{1,l,rfl,{_,s3.seq hL},di (K:=K) (a:=l) (xs:=x.map V.ref) (λi σ C=>a8 H C/\C m=ρ (.dK (dB n))/\(∃r,C fd=ρ (.dK (dB r))/\(∀d,d∈r↔∃e∈B,(d,e)∈ps.take i)/\r.9<=i)/\∃u v5,σ=[ρ (.ref l),ρ (.ref b),ρ (.ref m),u,ρ (.ref fd),v5]) {s3,h3,{[],g3,λd=>{(λz=>nomatch z),λ⟨e,_,z⟩=>by rw[Κ]at z;cases z},Ä _},_,τ,rfl} (λi σ C _ q=>q.1.seq hL) ?_ ?_}
  .rintro i y σ C j ⟨D,R,⟨r,S,hd,dl⟩,u,v5,rfl⟩;have hi:i<x.9:=by have:=(Ñ.mp j).1;rwa[À]at this
   have G:i<ps.9:=();rw[Ç,Ã hi]at j;cases j;have I:H x[i]=ρ (.tup (jP ps[i])):=hT.2 i x[i] _ (Ã hi) (by rw[Ç,Ã G];rfl);have v:ps.take (i+1)=ps.take i++[ps[i]]:=by rw[ý,Ã G];rfl
   generalize ps[i]=p at I v;refine{x[i],1,gM.of (D _ _ I),rfl,_,1,_,1,rfl,?_};have g:=eN.k (k:=(á (p.2:Int):Key)) R;rw[zV]at g
   by_cases U:p.2∈n
   .rw[if_pos U]at g
    let{ds',Z,e2,e3}:=K0 p.1 r
    refine{_,rfl,1,m,1,g,true,rfl,cU ?_};refine{2,fd,1,kA.k (k:=á (p.1:Int)) S (bB (by delta dB;rw[À];lia)),?_};rw[Z];refine{λc o e=>by rw[ae (af e ff)];exact D _ _ e,by rw[ae nwf];exact R,{ds',a6,λd=>?_,()},_,1};rw[e2,hd,v];constructor
    .rintro(⟨e,a,c⟩ |rfl)
     .exact{e,a,ď _ c}
     .exact{p.2,(f _).mp U,ÿ _ (Þ.mpr rfl)}
    .rintro⟨e,a,c⟩;rcases ä.mp c with c |c
     .exact .inl ⟨e,a,c⟩
     .exact .inr (congrArg Prod.fst (Þ.mp c))
   .rw[if_neg U]at g;refine{2,m,1,g,false,rfl,bo {D,R,{r,S,λd=>?_,()},_,1}};rw[hd,v];constructor
    .rintro⟨e,a,c⟩;exact{e,a,ď _ c}
    .rintro⟨e,a,c⟩;rcases ä.mp c with c |c
     .exact⟨e,a,c⟩
     .have:=congrArg Prod.snd (Þ.mp c);exact absurd ((f _).mpr (this ▸ a)) U
  .rintro σ C ⟨D,R,⟨r,S,hd,dl⟩,u,v5,rfl⟩;rw[À,X]at hd dl;rw[ë]at hd;refine{1,fd,1,S,λy j=>?_};rw[EL];exact k y r _ (D.trans (a8.upd j)) a6 hd dl
theorem xX(L:Lk K mg):aR P w K mg base d4 1 L.qz L.qR ["_law_signs","_law_cell"] Mo:=by
 refine L.rj.F.dM (N:=["_law_signs","_law_cell","_law_some"]) (λa A outer s H n Q E nd o h=>?_)
 let{g,c,rfl,k}:=h
 refine{_,(a5 (ai (i:=2) (bI (a7 cI (a7 cI (a7 cI (a7 cI (a7 cI (aH cI))))))))
  (a9 (aw (bp bM (2) (aA cJ (1) aj) (λ_ _=>rfl))))),?_}
 ac_rfl
 refine{by show 6<=sizeLine;decide,λl hl=>?_};obtain⟨i,hi,b⟩:∃i:Nat,i<6/\c%6=(i:Int):={(c%6).toNat,(),()};refine{2,_,1,rfl,(by show (0:Int)<6;decide),?_};rw[b]
 have fin:∀j:Nat,j<6->∃k,(yU.map V.str)[j]?=ρ (.str {#[k]})/\({#[k]}:Str)∈yU:=by
  intro j d
  match j,d with
  |0,_=>exact⟨33,∅,∅⟩
  |1,_=>exact⟨65,∅,∅⟩
  |2,_=>exact⟨32,∅,∅⟩
  |3,_=>exact⟨95,∅,∅⟩
  |4,_=>exact⟨126,∅,∅⟩
  |5,_=>exact⟨46,∅,∅⟩
 let{e,f,m}:=fin i hi
 exact{l,yU.map V.str,_,1,rfl,aO.of a6,bL f,k e _ (a8.upd hl) m}
end
end K54
namespace _S
open PySem.Spec PyProof.Rows
section
variable{K:Á}{C CB D:Addr}{nm zR MT:Str}
theorem lj.ne(U:bJ K C CB nm)(V:lj K D CB zR)(h:¬nm=zR):C≠D:=λe=>by
 subst e
 let{q,N,bs,m,sub,ab,d,n,p,r,s,t,u,l1}:=U.lk
 let{v,w,f,g,b,i,c,j,x,k,y,z,A,a}:=V.lk
 rw[l1]at a;have:=congrArg (λo=>match o with |some (⟨_,_,.cls l,_⟩:Obj)=>l.name |_=>nm) a;exact h this
theorem lj.neT(V:lj K D CB zR)(T:DV K CB MT)(h:¬zR=MT):D≠CB:=λe=>by
 subst e
 let{q,N,bs,n,sub,ab,d,p,r,s,t,u,v,l1}:=V.lk
 let{w,x,f,g,i,b,j,c,k,y,l,z,A,B,a}:=T.lk
 rw[l1]at a;have:=congrArg (λo=>match o with |some (⟨_,_,.cls m,_⟩:Obj)=>m.name |_=>zR) a;exact h this
theorem lj.cls(V:lj K D CB zR):(clsIn K D).isSome=true/\typeIn K (.ref D)=ρ (.type "type"):=by
 let{h,i,d,e,b,f,c,g,j,l1,k,l,m,a}:=V.lk
 refine{by unfold clsIn;rw[a];rfl,?_};show Option.map (λx=>x.cls) (K.lookup D)=ρ (.type "type");rw[a];rfl
theorem eC(U:bJ K C CB nm)(V:lj K D CB zR)(T:DV K CB MT)(g:¬zR=MT)(e:¬nm=zR):kitOne K (.ref C) (.ref D)=ρ false:=by
 unfold kitOne;have ne:=lj.ne U V e;rw[if_neg (by simpa using ne)]
 let{q,N,bs,f,sub,ab,a,h,i,j,k,l,m,lk}:=U.lk
 let{b,c}:=V.cls
 unfold kitCls;dsimp only;rw[b,c,if_pos (by rfl)];unfold subIn mroIn clsIn;dsimp only;rw[lk];show ρ ((È C::mh CB).contains (.ref D))=ρ false;have n1:(È D==È C)=false:=by simpa using æ ne
 have d:(È D==È CB)=false:=by simpa using V.neT T g
 simp only[ž,n1,d,Τ];rfl
end
end _S
namespace _B
theorem cp.same(h:cp K C H x hs ws lns)(s:a8 H g):cp K C g x hs ws lns:=by
 let{d,a,b,c,e,f,i,j}:=h
 exact{d,a,b,c,s _ _ e,bN.same s _ _ f,bN.same s _ _ i,bN.same s _ _ j}
structure Reach(lns:List (List (Str×Nat)))(rs:List Nat):Prop where
 cl:∀d∈rs,∀q∈lns.getD d [],q.2∈rs
 lt:∀d∈rs,d<lns.9
 ne:rs≠[]
 nd:rs.Nodup
theorem Hg{g:Str}{ws ss ls:List Str}{n:Nat}{many:Int}{f:Str->Int}{rs:List Nat}(hn:∀p∈ls,0<=f p)(l:HE g ws ss ls many n f)(R:Reach (bF g ws ss ls n (av ls f)) rs) :
 HE g ws ss ls many n (du (rs.map λd=>(av ls f).getD d "") f):=by
 intro p m
 by_cases h:p∈rs.map λd=>(av ls f).getD d ""
 .let{d,hd,rfl}:=Æ.mp h
  have b:=R.lt d hd;have c:d<(av ls f).9:=by unfold bF at b;rwa[À]at b
  have j:(bF g ws ss ls n (av ls f)).getD d []=gT g ws ss ls n (av ls f) ((av ls f).getD d ""):=by
   unfold bF;rw[Ë,Ç,Ã c,Ë,Ã c];rfl
  have e:iA g ws ss ls n (du (rs.map λd=>(av ls f).getD d "") f) ((av ls f).getD d "")=iA g ws ss ls n f ((av ls f).getD d ""):=by
   delta iA;refine congrArg List.sum (ĕ λq i=>?_);delta du
   by_cases a:q.2∈rs.map λd=>(av ls f).getD d ""
   .rw[if_pos a]
   .rw[if_neg a]
    by_cases h0:0<f q.2
    .exfalso;have k:q.2∈av ls f:=ß.mpr {dW i,decide_eq_true h0}
     have o:(q.1,(av ls f).idxOf q.2)∈(bF g ws ss ls n (av ls f)).getD d []:=by
      rw[j];delta gT;exact Æ.mpr {q,ß.mpr {i,decide_eq_true k},rfl}
     have:=R.cl d hd _ o;refine a (Æ.mpr {_,this,?_});show (av ls f).getD ((av ls f).idxOf q.2) ""=q.2;rw[Ë,(nR k).1];rfl
    .have:=hn _ (dW i)
     lia
  rw[e];delta du;rw[if_pos h];exact l _ m
 .have e:du (rs.map λd=>(av ls f).getD d "") f p=0:=by delta du;rw[if_neg h]
  rw[e,Int.mul_zero];delta iA;exact vN λq i=>wu hn _ (dW i)
theorem p6.same(h:p6 K C j H x m g l hs ws lns)(s:a8 H p):p6 K C j p x m g l hs ws lns:=by
 let{e,a,b,c,d,f,i,k,n,o}:=h
 exact{e,a,b,c,d,s _ _ f,s _ _ i,bN.same s _ _ k,bN.same s _ _ n,o.same s}
structure iu(g:Str)(bw ss ls:List Str)(many:Int)(n:Nat)(f:Str->Int)(rB:List zX)(ks:List Nat)(hs:List Str)(ws:List Int)(lns:List (List (Str×Nat))):Prop where
 nn:∀p∈ls,0<=f p
 le:∀p∈ls,f p<=8
 fit:HE g bw ss ls many n f
 ps:0<(ls.map f).sum
 m:(ls.map f).sum<=40
 rn:Runs many (av ls f) ((av ls f).map f) (bF g bw ss ls n (av ls f)) rB hs ws lns
 b:jc many hs ws lns
 cv:xO (aX g bw ss ls n) hs lns
 ln:hs.9<=40
 ko:p7 lns many ks
 ne:ks≠[]
 sl:rB.9<=40
 sb:∀p∈hs,p∈ls
structure HG(many:Int)(n:Nat)(wl:List (List (Str×Nat))):Prop where
 ne:wl≠[]
 ln:∀l∈wl,(l.9:Int)=many
 e:∀l∈wl,∀q∈l,q.2<wl.9
 wd:∀l∈wl,∀q∈l,q.1.9=n
theorem Fj{many:Int}{n:Nat}{wl:List (List (Str×Nat))}(g:HG many n wl):∀(ts:List Nat) (s:Str×Nat),s.2<wl.9->(∀t∈ts,(t:Int)<many)->(ts.foldl (lI wl) s).2<wl.9/\(ts.foldl (lI wl) s).1.9=s.1.9+n*ts.9
 |[],s,h,_=>⟨h,rfl⟩
 |t::ts,s,h,c=>by
  have j:=c t (Ø ..);have hl:=Ð (d9 h);have f:=g.ln _ hl;have d:=Ð (rY (l:=wl.getD s.2 []) (t:=t) ())
  let{a,b}:=Fj g ts (lI wl s t) (g.e _ hl ((wl.getD s.2 []).getD t ("",0)) d) λx i=>c x (Ô _ i)
  refine{a,?_};rw[Ů,b];show (s.1++_).9+_=_;rw[len_app,g.wd _ hl _ d,ê,ĩ,whV]
  lia
theorem ro{many:Int}{n:Nat}{wl:List (List (Str×Nat))}(W:HG many n wl){d:Nat}(hd:d<wl.9){ts:List Nat}(g:∀t∈ts,(t:Int)<many):(cP wl d ts).2<wl.9/\(cP wl d ts).1.9=n*ts.9:=by
 let{a,b}:=Fj W ts ("",d) hd g
 refine{a,b.trans ?_};show 0+_=_
 lia
theorem SQ{many:Int}{n:Nat}{lns:List (List (Str×Nat))}{g:List Nat}(h:p7 lns many g)(j:g≠[])(t:0<=many)(r:∀l∈lns,∀q∈l,q.1.9=n):HG many n (fH lns g many.toNat):=by
 refine{λz=>j (whi.mp z),λl hl=>?_,λl hl q a=>?_,λl hl q a=>?_}
 .let{d,hd,rfl}:=Æ.mp hl
  have:=(h.st d hd).2;unfold gg;rw[À,Ú]
  lia
 .let{d,hd,rfl}:=Æ.mp hl
  unfold gg at a
  let{p,b,rfl}:=Æ.mp a
  have c:=of_decide_eq_true (ß.mp ((Ĩ _ _).subset b)).2;unfold fH;rw[À];exact ν.mpr c
 .let{d,hd,rfl}:=Æ.mp hl
  unfold gg at a
  let{p,b,rfl}:=Æ.mp a
  have e:=(ß.mp ((Ĩ _ _).subset b)).1;exact r _ (Ð (d9 (h.st d hd).1)) p e
theorem KB(B:b4 C H j g bw ss ls)(t:H x=ρ (.ins I J fs))(hn:j≠x):b4 C (gG H x) j g bw ss ls:=by
 let{{f,b,d,q,u,v,h,i,w,k,r},p,o,l}:=B
 have ne:∀{c:Addr} {o:HO},H c=ρ o->(∀a b e,o≠.ins a b e)->c≠x:=λe n z=>by rw[z,t]at e;exact n _ _ _ (Ò e).symm
 exact{{f,b,d,q,u,fY v hn,fY h (ne h λ_ _ _ z=>by cases z),fY i (ne i λ_ _ _ z=>by cases z),w,λm s=>fY (k m s) (ne (k m s) λ_ _ _ z=>by cases z),fY r (ne r λ_ _ _ z=>by cases z)},p,o,l}
structure PZ(K:Á)(C CB CP CS:Addr)(H:Hp)(x:Addr)(g:Str)(bw:List Str)(many:Int)(n:Nat):Prop where
 ex:∃(xb:Addr) (ss ls:List Str) (f0 f:Str->Int) (rB:List zX) (ks:List Nat) (hs:List Str) (ws:List Int) (lns:List (List (Str×Nat))) (b:Nat),b4 CB H xb g bw ss ls/\BH K C CP CS H x xb many n (cF f ls) rB ks hs ws lns b/\Gg g bw ss many n/\uT g bw ss ls many n f0/\(∀p∈ls,f p<=f0 p)/\iu g bw ss ls many n f rB ks hs ws lns/\HG many n (fH lns ks many.toNat)/\lF bw n b
theorem Hh{many:Int}{n:Nat}{bw ss hk:List Str}{wl:List (List (Str×Nat))}(g:HG many n wl)(j:ss.Perm (bU bw "" bw))(hw:∀w∈bw,1<=w.9)(G:Jh bw ss hk wl){d:Nat}(hd:d<wl.9)(p:hk.getD d ""∈ss):∀ts:List Nat,(∀t∈ts,(t:Int)<many)->bears bw (hk.getD d ""++(cP wl d ts).1)=false/\lend ss (hk.getD d ""++(cP wl d ts).1)=hk.getD (cP wl d ts).2 "":=by
 intro ts;refine snoc_ind (P:=λ(ts:List Nat)=>(∀t∈ts,(t:Int)<many)->bears bw (hk.getD d ""++(cP wl d ts).1)=false/\lend ss (hk.getD d ""++(cP wl d ts).1)=hk.getD (cP wl d ts).2 "") ?_ ?_ ts
 .intro _
  let{c,e}:=p8 j hw p
  show bears bw (hk.getD d ""++("":Str))=false/\lend ss (hk.getD d ""++("":Str))=hk.getD d "";rw[kL];exact⟨c,e⟩
 .intro ts t f h
  let{i,k}:=f λx a=>h x (ď _ a)
  have r:=h t (ÿ _ (Þ.mpr rfl))
  let{b,_}:=ro g hd (ts:=ts) λx a=>h x (ď _ a)
  rw[yX];delta lI;have hl:=Ð (d9 b);have m:=g.ln _ hl;have o:=Ð (rY (l:=wl.getD (cP wl d ts).2 []) (t:=t) ())
  let{g1,g2}:=G _ b _ o
  rw[<-k]at g1 g2
  let{c1,q}:=Pw j hw i g1
  dsimp only;rw[<-f7];exact{c1,q.trans g2}
theorem iu.steps{g:Str}{bw ss ls:List Str}{many:Int}{n:Nat}{f:Str->Int}{r:List zX}{j:List Nat}{hs:List Str}{ws:List Int}{lns:List (List (Str×Nat))}(P:iu g bw ss ls many n f r j hs ws lns)(C:ss.Perm (bU bw "" bw))(hw:∀w∈bw,1<=w.9)(t:∀p∈ls,p∈ss)(m:Nat){d:Nat}(hd:d<j.9):j[d]<hs.9/\∀q∈(fH lns j m).getD d [],∃e,(q.1,e)∈lns.getD j[d] []/\e∈j/\q.2=j.idxOf e/\bears bw (hs.getD j[d] ""++q.1)=false/\lend ss (hs.getD j[d] ""++q.1)=hs.getD e ""/\q.1∈La g n:=by
 have hk:=(P.ko.st j[d] (ñ hd)).1;rw[P.b.l]at hk;refine{hk,λq c=>?_}
 have i:(fH lns j m).getD d []=gg j m (lns.getD j[d] []):=by
  unfold fH;rw[Ë,Ç,Ã hd];rfl
 rw[i]at c;unfold gg at c
 let{z,k,rfl}:=Æ.mp c
 have a:=ß.mp ((Ĩ _ _).subset k)
 let{c1,o,s}:=P.cv.FE P.b.l (λp h=>t p (P.sb p h)) C hw hk a.1
 exact{z.2,a.1,of_decide_eq_true a.2,rfl,c1,o,s}
theorem iu.FE{g:Str}{bw ss ls:List Str}{many:Int}{n:Nat}{f:Str->Int}{l:List zX}{j:List Nat}{hs:List Str}{ws:List Int}{lns:List (List (Str×Nat))}(P:iu g bw ss ls many n f l j hs ws lns)(t:ss.Perm (bU bw "" bw))(hw:∀w∈bw,1<=w.9)(r:∀p∈ls,p∈ss)(m:Nat):Jh bw ss (p0 hs j) (fH lns j m):=by
 intro d hd q i
 have a:d<j.9:=by
  unfold fH at hd;rwa[À]at hd
 let{hk,h}:=P.steps t hw r m a
 let{e,o,b,c,c1,k,_}:=h q i
 have hi:=ν.mpr b;rw[jN a,c,jN hi,Ε hi];exact⟨c1,k⟩
theorem iu.det{g:Str}{bw ss ls:List Str}{many:Int}{n:Nat}{f:Str->Int}{j:List zX}{I:List Nat}{hs:List Str}{ws:List Int}{lns:List (List (Str×Nat))}(P:iu g bw ss ls many n f j I hs ws lns)(nd:(ch g).Nodup)(C:ss.Perm (bU bw "" bw))(hw:∀w∈bw,1<=w.9)(t:∀p∈ls,p∈ss)(hl:ls.Nodup):Gh hs lns j.9:=by
 have key:∀{j hs ws lns},Runs many (av ls f) ((av ls f).map f) (bF g bw ss ls n (av ls f)) j hs ws lns->fI g bw ss ls many n f j hs ws lns/\Gh hs lns j.9:=by
  intro j hs ws lns h
  induction h with
  |nil=>
   refine{fI.start nd C hw t hl P.nn P.fit,λd o ws a b e _ _ _=>?_};have hn:(av ls f).Nodup:=hl.filter _;have c:(bF g bw ss ls n (av ls f)).9=(av ls f).9:=by unfold bF;rw[À]
   rw[c]at a b;rw[Ë,Ë,Ã a,Ã b]at e;exact(Ř hn).mp e
  |@snoc l hs ws lns d ns w r ok nl k=>
   let{L,D}:=k
   refine{L.step ok nl,?_};rw[É];exact D.split L.cv L.b.l L.b.e (L.b.split ok).2 (F:=λp w=>lend ss (p++w)) (λi hi q m=>((L.cv.FE L.b.l (λp h=>t p (L.sb p h)) C hw hi m).2.1).symm) _
 exact(key P.rn).2
structure zq(bw ss hk:List Str)(wl:List (List (Str×Nat)))(s:Nat):Prop where
 det:Gh hk wl s
 go:Jh bw ss hk wl
 inj:∀(d i j:Nat) (z:Str×Nat),(wl.getD d [])[i]?=ρ z->(wl.getD d [])[j]?=ρ z->i=j
 e:∀(d:Nat),∀q∈wl.getD d [],q.2<wl.9
theorem iu.read{g:Str}{bw ss ls:List Str}{many:Int}{n:Nat}{f:Str->Int}{I:List zX}{t:List Nat}{hs:List Str}{ws:List Int}{lns:List (List (Str×Nat))}(P:iu g bw ss ls many n f I t hs ws lns)(nd:(ch g).Nodup)(J:ss.Perm (bU bw "" bw))(hw:∀w∈bw,1<=w.9)(C:∀p∈ls,p∈ss)(hl:ls.Nodup)(m:Nat):zq bw ss (p0 hs t) (fH lns t m) I.9:=by
 have D:=P.det nd J hw C hl;have E:t.Nodup:=P.ko.ab.sub.nodup wfT;have s:∀{d},d<t.9->t.getD d 0<lns.9:=λ{d} hd=>(P.ko.st _ (Ð (getD_some 0 hd))).1;refine{λd R G a b e l r H=>?_,P.FE J hw C m,λd i j z c k=>?_,λd q u=>?_}
 .rw[we]at a b
  have h:=D _ _ G (s a) (s b) (by
   have v:=jN (hs:=hs) a;have A:=jN (hs:=hs) b;rw[v,A]at e;rw[Ë (l:=t),Ã a,Ë (l:=t),Ã b]
   exact e) l (Aa _ _ r) (Aa _ _ H)
  rw[Ë,Ã a,Ë,Ã b]at h;exact(Ř E).mp h
 .have hd:=JB (Ð c);rw[NN hd]at c k;have o:(lns.getD (t.getD d 0) []).Nodup:=yY λq=>P.cv.cnt P.b.l (by have:=s hd;have:=P.b.l;lia) q;generalize lns.getD (t.getD d 0) []=B at c k o;have nt:((d5 t B).take m).Nodup:=(o.filter _).sublist (Ĩ _ _);have mem:∀q∈(d5 t B).take m,q.2∈t:=λq u=>of_decide_eq_true (ß.mp (ő u)).2;unfold gg at c k;generalize (d5 t B).take m=l at c k nt mem;rw[Ç]at c k
  let{p,c,v}:=wdw.mp c
  let{q,k,A}:=wdw.mp k
  have L:=v.trans A.symm
  let{a,b}:=ġ L
  have lp:=ν.mpr (mem p (Ð c));have M:=ν.mpr (mem q (Ð k))
  have b:p.2=q.2:=by
   have x:=Ε lp;have y:=Ε M;rw[<-x,<-y];congr 1
  have N:p=q:=š a b;rw[<-N]at k
  let{S,O}:=Ñ.mp c
  let{T,Q}:=Ñ.mp k
  exact(Ř nt).mp (O.trans Q.symm)
 .rw[we];exact(A9 (w:=q.1) (e:=q.2) u).1
theorem zq.one{bw ss hk:List Str}{wl:List (List (Str×Nat))}{s:Nat}(R:zq bw ss hk wl s){d d' i l e g:Nat}{w:Str}{us:List Str}(hd:d<wl.9)(j:d'<wl.9)(r:hk.getD d ""=hk.getD d' "")(t:(wl.getD d [])[i]?=ρ (w,e))(p:(wl.getD d' [])[l]?=ρ (w,g))(hl:us.9=s)(C:jO wl e us)(I:jO wl g us):i=l:=by
 have m1:=Ð t;have c:=Ð p;have a:=(R.go d hd _ m1).2;have b:=(R.go d' j _ c).2
 have f:e=g:=R.det e g us (R.e d _ m1) (R.e d' _ c) (by
  show hk.getD (w,e).2 ""=hk.getD (w,g).2 ""
  rw[<-a,<-b,r]) hl C I
 have h:=nQ s (w::us) d ⟨e,m1,C⟩;have k:=nQ s (w::us) d' ⟨g,c,I⟩;have m:=R.det d d' _ hd j r (by rw[Ú,ê];lia) h k;rw[<-f,<-m]at p;exact R.inj d i l _ t p
theorem step_at{many:Int}{n:Nat}{wl:List (List (Str×Nat))}(g:HG many n wl){d t:Nat}(hd:d<wl.9)(j:(t:Int)<many):(wl.getD d [])[t]?=ρ (gk wl d t):=by
 have:=g.ln _ (Ð (d9 hd));exact rY ()
theorem xB{many:Int}{n:Nat}{wl:List (List (Str×Nat))}(g:HG many n wl):∀(ts:List Nat) (d:Nat),d<wl.9->(∀t∈ts,(t:Int)<many)->(∀w∈eS wl d ts,w.9=n)/\jO wl d (eS wl d ts)/\pZ wl d ts<wl.9
 |[],d,hd,_=>{(λw h=>nomatch h),trivial,hd}
 |t::ts,d,hd,h=>by
  have f:=Ð (step_at g hd (h t (Ø ..)));have hl:=Ð (d9 hd)
  let{a,b,c}:=xB g ts (gk wl d t).2 (g.e _ hl _ f) λx i=>h x (Ô _ i)
  refine{λw hw=>?_,{_,f,b},c};rcases à.mp hw with rfl |hw
  .exact g.wd _ hl _ f
  .exact a w hw
theorem lG.one{bw ss hk:List Str}{wl:List (List (Str×Nat))}{c:Nat}{p w:Str}{as:List Str}{i j:Nat}(R:zq bw ss hk wl c)(hl:as.9=c)(g:lG ss hk wl p w as i)(l:lG ss hk wl p w as j):i=j:=by
 let{d,e,a1,a2,a3,a}:=g
 let{k,m,b1,b,f,h}:=l
 exact R.one a1 b1 (a2.trans b.symm) a3 f hl a h
theorem E5{bw ss hk:List Str}{wl:List (List (Str×Nat))}{many:Int}{n b c:Nat}(R:zq bw ss hk wl c)(j:HG many n wl)(m1:1<=many)(I:ss.Perm (bU bw "" bw))(hw:∀w∈bw,1<=w.9)(h0:hk.getD 0 ""∈ss)(hs:∀s∈ss,s.9<=n*b){ts:List Nat}(J:∀t∈ts,(t:Int)<many){k:Nat}(p:k<ts.9) :
 ∃bs w as,((eS wl 0 (ig b c ts)).take (k+(b+1+c))).drop k=bs++w::as/\bs.9=b/\as.9=c/\bears bw (cat bs)=false/\lG ss hk wl (cat bs) w as ts[k]:=by
 have g:=sx m1 J b c
 have E:(ig b c ts).drop (k+b)=ts[k]::(ts.drop (k+1)++Ý c 0):=by
  unfold ig;rw[wi9,Ş (by rw[č];lia),wdY,č,show k+b-b=k by lia,wcP (),wfJ p];rfl
 have m:(ig b c ts).9=b+(ts.9+c):=by unfold ig;rw[É,É,č,č]
 generalize ig b c ts=l at g E m;have i:l=l.take k++((l.drop k).take b++l.drop (k+b)):=by rw[<-List.drop_drop,ſ,ſ]
 generalize H:l.take k=d at i;generalize L:(l.drop k).take b=f at i;have M:d.9=k:=by rw[<-H,Ú];lia
 have N:f.9=b:=by rw[<-L,Ú,ē];lia
 rw[E]at i;generalize O:ts.drop (k+1)++Ý c 0=rest at i;have U:c<=rest.9:=by rw[<-O,É,č];lia
 have o:0<wl.9:=Š.mpr j.ne;have q:∀t∈d++f,(t:Int)<many:=λt h=>g t (by rw[i,<-ø];exact ď _ h);have v:∀t∈rest,(t:Int)<many:=λt h=>g t (by rw[i,<-ø];exact ÿ _ (Ô _ h))
 let{a1,a2}:=jR wl (ts[k]::rest) (d++f) 0
 let{b1,V}:=jR wl f d 0
 let{G,_,u}:=xB j (d++f) 0 o q
 let{g1,g2}:=Hh j I hw R.go o h0 (d++f) q
 rw[iS]at g1 g2;generalize X:pZ wl 0 (d++f)=D at a1 u g2;have x:=J _ (ñ p);have a:=step_at j u x;have y:=Ð (d9 u);have z:=j.e _ y _ (Ð a)
 let{v1,Q,_}:=xB j rest (gk wl D ts[k]).2 z v
 rw[b1]at g1 g2 a1 G;generalize A:eS wl 0 d=S at *;generalize B:eS wl (pZ wl 0 d) f=bs at *;have T:S.9=k:=by rw[<-A,jQ,M]
 have r:bs.9=b:=by rw[<-B,jQ,N]
 have C:(cat bs).9=n*b:=by rw[fD λw h=>G w (ÿ _ h),r]
 rw[pY,<-f7]at g1 g2;refine{bs,(gk wl D ts[k]).1,(eS wl (gk wl D ts[k]).2 rest).take c,?_,r,by rw[Ú,jQ];lia,jV (by rw[aV];exact{_,[],by rw[û]}) g1,D,(gk wl D ts[k]).2,u,?_,a,nQ c _ _ Q}
 .rw[i,<-ø,a1,show eS wl D (ts[k]::rest)=(gk wl D ts[k]).1::eS wl (gk wl D ts[k]).2 rest from rfl,wgN,ø,wcP (),Ş (),wdY,show k+(b+1+c)-k=bs.9+(c+1) by lia,List.take_length_add_append,List.take_succ_cons]
 .rw[<-g2];exact(Gi (I.mem_iff.mpr (cx bw)) (λs h=>by rw[C];exact hs s h))
structure E6(R:Wr):Prop where
 w:HG R.many R.n R.wl
 m1:1<=R.many
 m8:R.many<=8
 n1:1<=R.n
 uj:R.n<=10
 b1:R.b<=1000
 c1:R.c<=1000
 hl:R.hk.9=R.wl.9
 l1:R.wl.9<=40
 bh:lF R.bw R.n R.b
 hw:∀w∈R.bw,1<=w.9/\w.9<=900
 bl:R.bw.9<=1000
 gl:R.g.9<=10
 rd:zq R.bw R.ss R.hk R.wl R.c
 gd:∀(d:Nat),∀q∈R.wl.getD d [],∀c∈ch q.1,c∈ch R.g
 h0:R.hk.getD 0 ""∈R.ss
 sh:∀s∈R.ss,s.9<=R.n*R.b
 pm:R.ss.Perm (bU R.bw "" R.bw)
structure sF(K:Á)(C CB CP:Addr)(H:Hp)(x:Addr)(R:Wr):Prop where
 ex:∃dx p xb a l dp wa wb wc wz ys,H x=ρ (.ins C dx (nW p xb R.many (R.n:Int) a l R.o.1 (R.o.2:Int)))/\H p=ρ (.ins CP dp (vY wa wb wc wz))/\aO K H wb ys/\ys.9=R.c/\bN K H (kR R.wl) (.ref l)/\aO K H a (R.hk.map V.str)/\b4 CB H xb R.g R.bw R.ss R.ls
 ok:E6 R
theorem sF.same(h:sF K C CB g H x R)(s:a8 H j):sF K C CB g j x R:=by
 let{{b,p,c,a,l,dp,d,e,f,i,k,m,n,o,q,r,t,u},v}:=h
 exact{{b,p,c,a,l,dp,d,e,f,i,k,s _ _ m,s _ _ n,s.seq o,q,bN.same s _ _ r,s.seq t,u.same s},v}
theorem lF.one(h:lF bw n b)(h':lF bw n g):b=g:=by
 let{_,M,{u,a},e}:=h
 let{_,N,{v,c},f}:=h'
 have:M=N:=by
  rcases a with⟨a1,a2⟩ |⟨w,hw,a⟩<;>rcases c with⟨c1,i⟩ |⟨j,d,c⟩
  .lia
  .rw[a2]at d;cases d
  .rw[i]at hw;cases hw
  .have:=u j d;have:=v w hw;lia
 rw[this]at e
 lia
theorem b8.same(h:b8 H rs g)(s:a8 H j):b8 j rs g:={h.1,λi r c a b=>s _ _ (h.2 i r c a b)}
theorem iC.same{wl:List (List (Str×Nat))}(h:iC H a wl)(s:a8 H g):iC g a wl:=by
 let{e,f,i}:=h
 refine{e,s _ _ f,λw=>?_};rcases i w with z |⟨l,j,ps,a,b,c,d⟩
 .exact .inl z
 .exact .inr {l,j,ps,a,s _ _ b,c.same s,d}
theorem eK.same{g H j:Hp}{done:List xP}(h:eK g H a done)(s:a8 H j):eK g j a done:=by
 let{h0,fa,e,f,i,k,m}:=h
 refine{h0.trans s,fa,e,s _ _ f,i,λw=>?_,m};rcases k w with z |⟨l,n,a,b,c,d⟩
 .exact .inl z
 .exact .inr {l,n,a,b,s _ _ c,d.same s}
theorem eK.step{B H:Hp}{done:List xP}{g:Addr}(M:eK B H a done)(h0:H g=τ)(w:Str)(i e:Nat):∃kvs:List (Key×V),(upd H g (.lst [])) a=ρ (.dK kvs)/\kvs.9<=done.9 /\
 (∀v,bD kvs (Å w:Key)=ρ v->∃(l:Addr) (rs:List Addr),v=.ref l/\(upd H g (.lst [])) l=ρ (.lst (rs.map V.ref))/\rs.9<=done.9/\∀r,(upd H g (.lst [])) r=τ->eK B (upd (upd (upd H g (.lst [])) r (.tup (jP (i,e)))) l (.lst (rs.map V.ref++[.ref r]))) a (done++[(i,w,e)])) /\
 (bD kvs (Å w:Key)=τ->(upd (upd H g (.lst [])) a (.dK (putK kvs (Å w:Key) (.ref g)))) g=ρ (.lst (([]:List Addr).map V.ref))/\∀r,(upd (upd H g (.lst [])) a (.dK (putK kvs (Å w:Key) (.ref g)))) r=τ->eK B (upd (upd (upd (upd H g (.lst [])) a (.dK (putK kvs (Å w:Key) (.ref g)))) r (.tup (jP (i,e)))) g (.lst (([]:List Addr).map V.ref++[.ref r]))) a (done++[(i,w,e)])):=by
 have t:a8 H (upd H g (.lst [])):=a8.upd h0;have I:(upd H g (.lst [])) g=ρ (.lst []):=a6;have M1:=M.same t;have J:B g=τ:=none_of M.s h0;have nl:∀{c o},H c=ρ o->c≠g:=λh z=>by rw[z,h0]at h;cases h
 let{_,_,b,A,_,L,_}:=id M
 generalize upd H g (.lst [])=G at *
 let{s,fa,kvs,j,C,m,D}:=M1
 have N:b=kvs:=by have:=t _ _ A;rw[j]at this;cases this;rfl
 subst N;refine{b,j,C,λv d=>?_,λhn=>?_}
 .rcases m w with⟨z,_⟩ |⟨l,rs,a1,a2,a3,f⟩
  .rw[z]at d;cases d
  .rw[a1]at d;cases d;refine{l,rs,rfl,a3,?_,λr n=>eK.add s fa j (whP C) a1 a2 a3 f (λv _=>m v) D n};have:=f.1;rw[À]at this;rw[this];delta pairsOf;rw[À];exact Ħ ..
 .have na:a≠g:=nl A;have E:(upd G a (.dK (putK b (Å w:Key) (.ref g)))) g=ρ (.lst []):=by rw[ae na.symm];exact I
  have O:a8 B (upd G a (.dK (putK b (Å w:Key) (.ref g)))):=λc o h=>by rw[ae (af h fa)];exact s _ _ h
  refine{E,λr n=>eK.add (rs:=[]) O fa a6 ?_ (by rw[vt,if_pos rfl]) J E ?_ (λv d=>?_) (λu v l x y=>?_) n}
  .have:=hZ b (Å w:Key) (.ref g);lia
  .rcases m w with⟨_,z⟩ |⟨l,rs,a1,_⟩
   .rw[z];exact b8.nil _
   .rw[hn]at a1;cases a1
  .rw[vt,if_neg (λz=>d (Ě z))];rcases m v with z |⟨l,rs,a1,a2,a3,f⟩
   .exact .inl z
   .have n1:l≠a:=λz=>by rw[z,j]at a3;cases a3
    exact .inr {l,rs,a1,a2,by rw[ae n1];exact a3,f.1,λi q Q x y=>by
     have h:=f.2 i q Q x y
     rw[ae (λz=>by rw[z,j]at h;cases h)];exact h}
  .rw[vt]at x y
   have old:∀{v:Str} {l:Addr},bD b (Å v:Key)=ρ (.ref l)->l≠g:=λ{v l} h=>by
    rcases L v with⟨z,_⟩ |⟨R,rs,a1,a2,a3,f⟩
    .rw[z]at h;cases h
    .rw[a1]at h;cases h;exact nl a3
   by_cases p:u=w
   .by_cases k:v=w
    .rw[p,k]
    .rw[if_pos (congrArg Å p)]at x;rw[if_neg (λz=>k (Ě z))]at y;cases x;exact absurd rfl (old y)
   .rw[if_neg (λz=>p (Ě z))]at x
    by_cases k:v=w
    .rw[if_pos (congrArg Å k)]at y;cases y;exact absurd rfl (old x)
    .rw[if_neg (λz=>k (Ě z))]at y;exact D u v l x y
theorem eK.over{p g j:Hp}{done:List xP}(M:eK p g a done)(s:a8 g j):eK (mC p g j) j a done:=by
 let{h0,fa,b,d,i,k,m}:=id M
 let{_,_,f,g1,_,g3,_}:=M.same s
 have n:f=b:=by have:=s _ _ d;rw[g1]at this;cases this;rfl
 subst n;refine{λc o h=>?_,by unfold mC;rw[d];exact fa,f,g1,i,λw=>?_,m}
 .unfold mC at h
  cases e:g c with
  |none=>rw[e]at h;exact h
  |some u=>rw[e]at h;exact s _ _ (h0 _ _ h)
 .rcases k w with z |⟨l,q,a1,a2,a3,r⟩
  .exact .inl z
  .exact .inr {l,q,a1,by unfold mC;rw[a3];exact a2,s _ _ a3,r.same s}
structure uC(K:Á)(C CB CP CR:Addr)(H:Hp)(z:Addr)(R:Wr):Prop where
 ex:∃dz x a,H z=ρ (.ins CR dz (Fz x a))/\iC H a R.wl/\sF K C CB CP H x R
theorem uC.same{CR:Addr}(h:uC K C CB g CR H z R)(s:a8 H j):uC K C CB g CR j z R:=by
 let{b,x,a,c,d,e}:=h
 exact{b,x,a,s _ _ c,d.same s,e.same s}
theorem N0{K:Á}{C CB J T:Addr}{H:Hp}{x t:Addr}{g:Str}{bw ss ls:List Str}{many:Int}{n:Nat}{f:Str->Int}{r:List zX}{j:List Nat}{hs:List Str}{ws:List Int}{lns:List (List (Str×Nat))}{b:Nat}(B:b4 CB H t g bw ss ls)(W:BH K C J T H x t many n (cF f ls) r j hs ws lns b)(P:iu g bw ss ls many n f r j hs ws lns)(U:HG many n (fH lns j many.toNat))(I:lF bw n b)(nd:(ch g).Nodup)(hw:∀w∈bw,1<=w.9/\w.9<=900)(bl:bw.9<=1000)(gl:g.9<=10)(m1:1<=many)(m8:many<=8)(n1:1<=n)(uj:n<=10):sF K C CB J H x {g,bw,ss,ls,p0 hs j,many,n,b,r.9,fH lns j many.toNat}:=by
 let{u,p,a,l,v,{dp,y,z,A,D,E,_,G,_,_},L,M}:=W
 let{S,N,O,Q,k}:=id G
 cases O;have c:∀p∈ls,p∈ss:=λp h=>B.lv.sub.subset h;have i:∀w∈bw,1<=w.9:=λw h=>(hw w h).1
 have R:j.9<=40:=by
  have m:=P.ko.ab.sub.length_le;have o:=P.b.l;have V:=P.ln;rw[ì]at m
  lia
 have sl:=P.sl;have kp:0<j.9:=Š.mpr P.ne;refine{{u,p,t,a,l,dp,y,z,A,D,N,v,E,.inl Q,by rw[k.len,À],M,.inl (uS L),B},U,m1,m8,n1,uj,I.le,by show r.9<=1000;lia,?_,?_,I,hw,bl,gl,P.read nd B.pm i c (B.nd.sublist B.lv.sub) _,λd q s=>?_,?_,Gj I n1 B.pm,B.pm}
 .show (p0 hs j).9=_;rw[we];exact À ..
 .show (fH lns j many.toNat).9<=40;rw[we];exact R
 .have hd:=JB s;have m:=(A9 (w:=q.1) (e:=q.2) s).2;have o:j.getD d 0<hs.9:=by have:=(P.ko.st _ (Ð (getD_some 0 hd))).1;have:=P.b.l;lia
  exact JE n _ (P.cv.FE P.b.l (λp h=>c p (P.sb p h)) B.pm i o m).2.2
 .show (p0 hs j).getD 0 ""∈ss;rw[jN kp];have hk:=(P.steps B.pm i c many.toNat kp).1;rw[Ë,Ã hk];exact c _ (P.sb _ (ñ hk))
theorem Ao{R:Wr}(ok:E6 R):∀(ts:List Nat) (d:Nat),d<R.wl.9->(∀t∈ts,(t:Int)<R.many)->∀u∈eS R.wl d ts,u.9=R.n/\∀c∈ch u,c∈ch R.g
 |[],_,_,_,_,h=>nomatch h
 |t::ts,d,hd,b,u,h=>by
  have a:=Ð (step_at ok.w hd (b t (Ø ..)));have hl:=Ð (d9 hd);rcases à.mp h with rfl |h
  .exact{ok.w.wd _ hl _ a,ok.gd d _ a}
  .exact Ao ok ts _ (ok.w.e _ hl _ a) (λx f=>b x (Ô _ f)) u h
theorem VW{R:Wr}(ok:E6 R){ts:List Nat}(g:∀t∈ts,(t:Int)<R.many):∃all,Pu R ts all:=by
 refine{eS R.wl 0 (ig R.b R.c ts),Gz ..,Ao ok _ 0 (Š.mpr ok.w.ne) (sx ok.m1 g _ _),?_,λk hk=>?_}
 .rw[jQ];unfold ig;rw[É,É,č,č]
  lia
 .let{bs,w,a,d,e,f,i,j}:=E5 ok.rd ok.w ok.m1 ok.pm (λw h=>(ok.hw w h).1) ok.h0 ok.sh g hk
  refine{bs,w,a,d,e,f,i,?_};rw[Ë,Ã hk];exact j
theorem Pu.res{R:Wr}(ok:E6 R){ts:List Nat}{all:List Str}(h:Pu R ts all):∀k,k<ts.9->∃bs w us,(all.take (k+(R.b+1+R.c))).drop k=bs++w::us/\bs.9=R.b/\us.9=R.c/\(bears R.bw (cat bs)=true->V.int ((ts.getD k 0:Nat):Int)=.non)/\(∀i:Nat,bears R.bw (cat bs)=false->lG R.ss R.hk R.wl (cat bs) w us i->V.int ((ts.getD k 0:Nat):Int)=.int (i:Int))/\(bears R.bw (cat bs)=false->(∀i,¬lG R.ss R.hk R.wl (cat bs) w us i)->V.int ((ts.getD k 0:Nat):Int)=.non):=λk hk=>by
 let{bs,w,us,a1,a2,a3,d,a}:=h.r k hk
 exact{bs,w,us,a1,a2,a3,(λz=>by rw[d]at z;cases z),λi _ hi=>by rw[a.one ok.rd a3 hi],λ_ hn=>absurd a (hn _)}
end _B
namespace K54
section
variable{P:Ê}{w:World}{K:Á}{mg:Str->Option Value}{base:Heap}
theorem sG(L:Lk K mg):aR P w K mg base d4 4 L.ip L.lQ ["self","signs","barred"] (Pt K L.aB):=by
 have T:=L.T;refine L.lY.F.dM (N:=["self","signs","barred","places","place"]) (λhU A outer s H vs Q E nd hr h=>?_)
 let{x,t,g,a,ws,rfl,hx,hS,sg,hl,hw,k}:=h
 have Z:∀w∈ws,w.9<=5:=λw h=>(hw w h).hi;have hu:=fA hr
 refine{_,(a5 (b7 (cH (bS (ao (Al L) L.ua (aH (1))))) eY aJ)
  (a5 (bc (ao (uA L) L.nu (a7 (2) (aH (1)))))
  (a5 (dq (0) (1) rfl)
  (a5 (dq (0) (bx dQ (by rfl) T.list iz (aH (2))) rfl)
  (a5 (dq (0) dF rfl)
  (a5 (ai (i:=3) (ao (sE L) L.lW (aH (2))))
  (a5 (forA (aS (3)) (ay (i:=4)) (a9 (eI hu (az (0) rfl) (4) (ao (xS L) L.qU (a7 (4) (a7 (1) (a7 (2) (aH (3)))))) rfl)))
  (a9 (dq (0) (ao (xU L) L.qW (aH (az (0) rfl))) rfl))))))))),?_}
 ac_rfl
 refine{1,g,rfl,sg,λH1 s1=>{true,rfl,bo ?_}};refine{2,a,g,ws,rfl,s1.seq hS,hl,hw,λH2 s2=>?_};have D:a8 H H2:=s1.trans s2;have hx2:=D _ _ hx;refine{2,x,L.aB,t,1,hx2,L.aK.cl,L.aK.q8,⋯,?_};rw[OV];have SR:∀(o:HO) b ob,H b=ρ ob->b≠x->(upd H2 x o) b=ρ ob:=λo b ob e hb=>by rw[ae hb];exact D _ _ e
 have G:∀{H':Hp} (h:∀b o,H b=ρ o->b≠x->H' b=ρ o),aO K H' a (ws.map V.str):=λ{H'} h=>by
  have Y8:∀o,H a=ρ o->(∀fs,o≠.ins L.aB t fs)->a≠x:=λo e ne z=>by
   subst z;rw[hx]at e;exact ne [] (Ò e).symm
  rcases hS with(e |⟨o,e⟩) |e
  .exact .inl (.inl (h _ _ e (Y8 _ e (λ_ z=>by cases z))))
  .exact .inl (.inr {o,h _ _ e (Y8 _ e (λ_ z=>by cases z))})
  .exact .inr e
 refine{1,a,1,.inl (G (SR _)),λb hb=>?_};have v:x≠b:=af a6 hb;have VX:H2 b=τ:=by rw[ae v.symm]at hb;exact hb
 refine{1,x,L.aB,t,U6 g,rfl,by rw[ae v,a6],L.aK.cl,L.aK.wo,(show 1<1000 by decide),?_};rw[put2];intro d hd;have r:x≠d:=af a6 hd
 have SU:b≠d:=by
  intro z;subst z;rw[ae v.symm,a6]at hd;cases hd
 have I:H2 d=τ:=by rw[ae r.symm,ae SU.symm,ae r.symm]at hd;exact hd
 refine{1,x,L.aB,t,Qw g b,rfl,by rw[ae r,a6],L.aK.cl,L.aK.kQ,(show 2<1000 by decide),?_};rw[put3];generalize J:upd (upd (upd (upd (upd H2 x (.ins L.aB t (U6 g))) b (.lst (ws.map V.str))) x (.ins L.aB t (Qw g b))) d (.dK [])) x (.ins L.aB t (OU g b d))=H3;have x3:H3 x=ρ (.ins L.aB t (OU g b d)):=by rw[<-J,a6]
 have d3:H3 d=ρ (.dK []):=by rw[<-J,ae r.symm,a6]
 have b3:H3 b=ρ (.lst (ws.map V.str)):=by rw[<-J,ae v.symm,ae SU,ae v.symm,a6]
 have k3:∀c o,H c=ρ o->c≠x->H3 c=ρ o:=λc o e hc=>by
  have e2:=D _ _ e;rw[<-J,ae hc,ae (af e2 I),ae hc,ae (af e2 VX),ae hc];exact e2
 clear J;refine{1,a,ws,rfl,G k3,hl,Z,λl ss H4 s4 R h4 hp hso=>?_};have VY:ss.Nodup:=hp.nodup_iff.mpr (tf ws);have Fl:ss.9<=25:=by have:=nP (ws:=ws) (e:="") (us:=ws) Z;rw[hp.length_eq];lia
 have SV:∀p∈ss,p.9<=5:=λp E7=>Gu Z p (hp.mem_iff.mp E7);have VZ:("":Str)∈ss:=hp.mem_iff.mpr (cx ws);have Uc:l≠d:=λz=>by rw[z,d3]at R;cases R
 have nlx:l≠x:=λz=>by rw[z,x3]at R;cases R
 refine{1,l,rfl,{_,aO.of h4},di (K:=K) (a:=l) (xs:=ss.map V.str) (λi σ S=>∃v4 B,σ=[ρ (.ref x),ρ (.str g),ρ (.ref a),ρ (.ref l),v4]/\S d=ρ (.dK (cN B))/\B.map (·.1)=ss.take i/\(∀m∈B,S m.2=ρ (.dK (rowOf g ws ss m.1)))/\(∀m∈B,H4 m.2=τ)/\(∀c o,H4 c=ρ o->c≠d->S c=ρ o))
  {τ,[],rfl,s4 _ _ d3,rfl,λm u=>(nomatch u),λm u=>(nomatch u),λc o e _=>e} (λi σ S _ {_,_,_,_,_,_,_,M}=>aO.of (M _ _ h4 Uc)) ?_ ?_}
 .rintro i y σ S hy ⟨v4,B,rfl,C,n,f,RH,M⟩
  obtain⟨p,U,rfl⟩:∃p,ss[i]?=ρ p/\y=.str p:=by
   rw[Ç]at hy
   cases e:ss[i]? with
   |none=>rw[e]at hy;cases hy
   |some z=>rw[e]at hy;exact{z,rfl,(Ò hy).symm}
  have hi:i<ss.9:=(Ñ.mp U).1;have E7:p∈ss:=Ð U
  have k5:∀c o,H c=ρ o->c≠x->S c=ρ o:=λc o e hc=>M _ _ (s4 _ _ (k3 c o e hc)) (λz=>by
   subst z;have:=D _ _ e
   rw[I]at this;cases this)
  have x5:S x=ρ (.ins L.aB t (OU g b d)):=M _ _ (s4 _ _ x3) r;refine{4,p,g,a,l,ws,ss,rfl,G k5,aO.of (M _ _ h4 Uc),VZ,by have:=SV p E7;lia,by have:=sg.hi;lia,sg.nd,(),λe H6 O X h6=>?_};have d6:=O _ _ C
  have KC:p∉B.map (·.1):=by
   rw[n];intro u
   let{j,hj,ej}:=wf0.mp u
   rw[wfB]at ej;rw[Ú]at hj;have e1:ss[i]=p:=(Ñ.mp U).2;have:=(Ř VY).mp (ej.trans e1.symm)
   lia
  have Y:B.9<=25:=by have:=congrArg γ n;rw[À,Ú]at this;lia
  refine{1,x,L.aB,t,_,1,O _ _ x5,L.aK.cl,L.aK.kQ,mD g b d,1,d,1,kA.k (k:=Å p) d6 (by unfold cN;rw[À];exact bB ()),?_};have QB:e≠d:=λz=>by rw[z,C]at X;cases X
  have e4:H4 e=τ:=by
   cases q:H4 e with
   |none=>rfl
   |some o=>
    have:=M _ _ q QB;rw[this]at X;cases X
  refine{_,B++[(p,e)],rfl,?_,?_,?_,?_,?_}
  .rw[a6,gb _ (oV KC)];unfold cN;rw[Ü];rfl
  .rw[Ü,n];have:ss.take (i+1)=ss.take i++[p]:=by rw[ý,U];rfl
   rw[this];rfl
  .intro m u;rcases ä.mp u with z |z
   .have nm:m.2≠d:=λq=>by
     have:=f m z;rw[q,C]at this;have:=RH m z;rw[q]at this;rw[s4 _ _ d3]at this;cases this
    rw[ae nm];exact O _ _ (f m z)
   .have:m=(p,e):=by simpa using z
    subst this;rw[ae QB];exact h6
  .intro m u;rcases ä.mp u with z |z
   .exact RH m z
   .have:m=(p,e):=by simpa using z
    subst this;exact e4
  .intro c o hc Y9;rw[ae Y9];exact O _ _ (M c o hc Y9)
 .rintro σ S ⟨v4,B,rfl,C,n,f,RH,M⟩;rw[À,ë]at n;have x5:S x=ρ (.ins L.aB t (OU g b d)):=M _ _ (s4 _ _ x3) r;have Y:B.9<=1000:=by have:=congrArg γ n;rw[À]at this;lia
  refine{1,x,L.aB,t,_,1,x5,L.aK.cl,L.aK.kQ,mD g b d,d,B,rowOf g ws ss,rfl,C,Y,f,λkx=>Dz g ws ss kx,λkx=>by rw[Gb];have:=sg.hi;lia,λq ls H6 O hq h6 lv=>?_};refine{1,x,L.aB,t,1,O _ _ x5,L.aK.cl,L.aK.sr,(show 3<1000 by decide),?_};rw[FU];have W2:q≠x:=λz=>by rw[z,x5]at hq;cases hq
  have Y0:∀m∈B,m.2≠x:=λm u z=>by
   have:=f m u;rw[z,x5]at this;cases this
  refine k ss ls _ {{t,b,d,q,B,a6,?_,?_,n,λm u=>?_,?_},hp,hso,by rw[n]at lv;exact lv} λc o e hc=>?_
  .rw[ae v.symm];exact O _ _ (M _ _ (s4 _ _ b3) SU)
  .rw[ae r.symm];exact O _ _ C
  .rw[ae (Y0 m u)];exact O _ _ (f m u)
  .rw[ae W2];exact h6
  .rw[ae hc]
   exact O _ _ (M _ _ (s4 _ _ (k3 c o e hc)) (λz=>by
    subst z;have:=D _ _ e
    rw[I]at this;cases this))
theorem gE(L:Lk K mg):aR P w K mg base d4 2 L.gV L.ke ["self","homes","weights","lines"] (JL K L.aD):=by
 have T:=L.T;refine L.fb.F.dM (N:=["self","homes","weights","lines"]) (λhU A outer s H vs Q E nd hr h=>?_)
 let{x,j,u,v,w,G,I,t,rfl,J,Z,W3,Ld,n1,n2,n3,n4,k}:=h
 refine{_,(a5 (dq (0) (bx dQ (by rfl) T.list iz (aH (1))) rfl)
  (a5 (dq (0) (bx dQ (by rfl) T.list iz (aH (2))) rfl)
  (a9 (dq (0) (cK rfl (ax [] []) (aS (3)) (λ_ _ _ _ _ _=>bf) (λ_ _ _ _ _ _=>(ao (uB L) L.nv (aH (0))))) rfl)))),?_}
 ac_rfl
 let{a,rfl,ha}:=Jx Z
 let{b,rfl,hb}:=iR W3
 let{c,xs,rfl,hc,M}:=Ld
 have xl:xs.9=t.9:=by rw[M.len,À]
 have l:∀{d:Addr} {ys:List V} {H':Hp},aO K H d ys->(∀b o,H b=ρ o->b≠x->H' b=ρ o)->aO K H' d ys:=λhS kp=>(fE kp).seq (zB J hS);refine{1,a,1,.inl ha,λf B=>?_};have m:x≠f:=af J B;refine{1,x,L.aD,j,[],rfl,by rw[ae m];exact J,L.aC.cl,L.aC.gm,(show 0<1000 by decide),?_};rw[NI];have X:∀d o,H d=ρ o->d≠x->(upd (upd H f (.lst (G.map V.str))) x (.ins L.aD j (yJ f))) d=ρ o:=λd o e hd=>by rw[ae hd];exact a8.upd B _ _ e
 have x1:(upd (upd H f (.lst (G.map V.str))) x _) x=ρ (.ins L.aD j (yJ f)):=a6;have a1:(upd (upd H f (.lst (G.map V.str))) x (.ins L.aD j (yJ f))) f=ρ (.lst (G.map V.str)):=by rw[ae m.symm,a6]
 generalize upd (upd H f _) x _=O at X x1 a1 ⊢;refine{1,b,1,.inl (l hb X),λg n=>?_};have p:x≠g:=af x1 n;have nab:f≠g:=af a1 n
 have W4:H g=τ:=by
  cases q:H g with
  |none=>rfl
  |some o=>have:=X _ _ q p.symm;rw[n]at this;cases this
 refine{1,x,L.aD,j,yJ f,rfl,by rw[ae p];exact x1,L.aC.cl,L.aC.dI,(show 1<1000 by decide),?_};rw[IW];have C:∀d o,H d=ρ o->d≠x->(upd (upd O g (.lst (I.map V.int))) x (.ins L.aD j (vO f g))) d=ρ o:=λd o e hd=>by rw[ae hd];exact a8.upd n _ _ (X _ _ e hd)
 have Y:(upd (upd O g (.lst (I.map V.int))) x _) x=ρ (.ins L.aD j (vO f g)):=a6;have a2:(upd (upd O g (.lst (I.map V.int))) x (.ins L.aD j (vO f g))) f=ρ (.lst (G.map V.str)):=by rw[ae m.symm,ae nab];exact a1
 have b2:(upd (upd O g (.lst (I.map V.int))) x (.ins L.aD j (vO f g))) g=ρ (.lst (I.map V.int)):=by rw[ae p.symm,a6]
 generalize upd (upd O g _) x _=H2 at C Y a2 b2 ⊢;have R:=bz.same (fE C) _ _ (bz.off J _ _ M);refine{1,c,rfl,{_,l (.inl hc) C},λc' S=>?_};refine wK (K:=K) (t.map cj) (aT K c xs) S (ak ()) (by rw[À,xl]) (λH' s'=>s'.seq (l (.inl hc) C)) (λi y d U Q' hy hd D qq=>?_) (λU D r3=>?_)
 .let{d',e',r}:=R.get i y hy
  rw[hd]at e';cases e';rw[Ç]at hd
  cases e:t[i]? with
  |none=>rw[e]at hd;cases hd
  |some qs=>
   rw[e]at hd;cases hd;exact{1,y,qs,rfl,bN.same D _ _ r,n4 qs (Ð e),λz H4 s4 r4=>qq z H4 s4 r4}
 .have ncx:x≠c':=af Y S;refine{1,x,L.aD,j,vO f g,rfl,D _ _ Y,L.aC.cl,L.aC.d2,(show 2<1000 by decide),?_};rw[EI];have up:a8 (aM H U) (aM H (upd U x (.ins L.aD j (De f g c')))):=bV J λd o e hd=>by rw[ae hd];exact e
  have old:a8 (aM H2 U) (aM H U):=λd o e=>by
   unfold aM at e ⊢
   cases q:H d with
   |none=>
    cases q2:H2 d with
    |none=>rw[q2]at e;exact e
    |some z=>rw[q2]at e;cases e
   |some z=>
    by_cases hd:d=x
    .rw[hd,Y]at e;cases e
    .rw[C _ _ q hd]at e;cases e
  refine k f g c' _ a6 ?_ ?_ (bN.same (old.trans up) _ _ r3) λd o e hd=>by rw[ae hd];exact D _ _ (C _ _ e hd)
  .exact qa ((cg B (by rw[ae m.symm];exact D _ _ a2)))
  .exact jS ((cg W4 (by rw[ae p.symm];exact D _ _ b2)))
theorem xY(L:Lk K mg):aR P w K mg base d4 1 L.qt L.qL ["line","desk","twin"] (MD K):=by
 refine L.qZ.F.dM (N:=["line","desk","twin","steps","word","end"]) (λhU A outer s H vs Q E nd u h=>?_)
 let{v,d,t,p,rfl,hL,NW,k}:=h
 refine{_,(a5 (ai (i:=3) (bI fG))
  (a5 (forA (aS (0)) (eE rfl (aQ (ay (i:=4)) (aQ (ay (i:=5)) d1))) (a5 (bc (ja ė ħ İ d8 (3) (aH (eD (a7 (4) (aH (5)))))))
  (a9 (b7 (cC iM (5) (1)) (a9 (bc (ja ė ħ İ d8 (3) (aH (eD (a7 (4) (aH (2)))))))) aJ))))
  (a9 (aw (3))))),?_}
 ac_rfl
 let{a,S,rfl,hS,hT}:=ez hL
 have Am:S.9=p.9:=by rw[hT.1,À,À]
 refine{Û _,λb M=>?_};have sb:a8 H (upd H b (.lst [])):=a8.upd M;have x:(upd H b _) b=ρ (.lst []):=a6;generalize upd H b _=B at sb x;have keep:∀{g:Hp},(∀c o,B c=ρ o->c≠b->g c=ρ o)->a8 H g:=λC c o e=>C _ _ (sb _ _ e) (af e M)
 refine{1,a,rfl,{_,sb.seq hS},di (K:=K) (a:=a) (xs:=S.map V.ref) (λj σ g=>∃(v4 v5:Option V) (as:List V),σ=[ρ (.ref a),ρ (.int (d:Int)),ρ (.int (t:Int)),ρ (.ref b),v4,v5]/\g b=ρ (.lst as)/\(∀c o,B c=ρ o->c≠b->g c=ρ o)/\bz K (aM B g) ((fi d t (p.take j)).map lH) as)
  {τ,τ,[],rfl,x,λc o e _=>e,rfl} (λj σ g _ {_,_,_,_,_,C,_}=>(keep C).seq hS) ?_ ?_}
 .rintro j y σ g hy ⟨v4,v5,as,rfl,l,C,T⟩;have hj:j<S.9:=by have:=(Ñ.mp hy).1;rwa[À]at this
  have U:j<p.9:=();rw[Ç,Ã hj]at hy;cases hy;have X:H S[j]=ρ (.tup [.str p[j].1,.int (p[j].2:Int)]):=hT.2 j S[j] (jG (eR p[j])) (Ã hj) (by rw[Ç,Ç,Ã U];rfl);have pM:p.take (j+1)=p.take j++[p[j]]:=by rw[ý,Ã U];rfl
  have Yb:as.9<=2*j:=by
   rw[T.len,À];exact Í (rV d t _) (Ũ 2 (by rw[Ú];lia))
  generalize p[j]=q at X pM;refine{S[j],1,gM.of (keep C _ _ X),rfl,_,1,_,1,rfl,?_};refine{1,.inl {rfl,_,aO.of l},2,by show 2<=sizeLine;decide,λr u=>?_};have I:∀n:Nat,n<=20000->n<sizeLine:=λn hn=>ę hn (by rw[Ē];decide);have Ud:=a8.upd (o:=.tup [.str q.1,.int (q.2:Int)]) u _ _ l;refine{b,_,1,rfl,Ud,I _ (),?_};have Y:∀c o,(upd g r (.tup [.str q.1,.int (q.2:Int)])) c=ρ o->c≠b->(upd (upd g r (.tup [.str q.1,.int (q.2:Int)])) b (.lst (as++[.ref r]))) c=ρ o:=λc o e hc=>by rw[ae hc];exact e
  have D:∀c o,B c=ρ o->c≠b->(upd (upd g r (.tup [.str q.1,.int (q.2:Int)])) b (.lst (as++[.ref r]))) c=ρ o:=λc o e hc=>Y _ _ (a8.upd u _ _ (C c o e hc)) hc
  have r0:B r=τ:=by
   cases z:B r with
   |none=>rfl
   |some o=>
    by_cases hc:r=b
    .rw[hc,l]at u;cases u
    .rw[C _ _ z hc]at u;cases u
  have O:bz K (aM B (upd (upd g r (.tup [.str q.1,.int (q.2:Int)])) b (.lst (as++[.ref r])))) ((fi d t (p.take j)).map lH++[lH q]) (as++[.ref r]):=by
   refine iF (bz.same ((iQ (a8.upd u)).trans (bV x Y)) _ _ T) ?_;have R:r≠b:=λz=>by rw[z,l]at u;cases u
   exact{r,1,cg r0 (by rw[ae R,a6]),.str q.1,[.int (q.2:Int)],rfl,⟨rfl,rfl⟩,.int (q.2:Int),[],rfl,⟨rfl,rfl⟩,rfl}
  have m:(upd (upd g r (.tup [.str q.1,.int (q.2:Int)])) b _) b=ρ (.lst (as++[.ref r])):=a6;generalize upd (upd g r _) b _=H4 at D O m
  by_cases G:q.2=d
  .refine{2,rfl,true,congrArg V.bl (decide_eq_true (by rw[G])),cU ?_};refine{1,.inl {rfl,_,aO.of m},2,by show 2<=sizeLine;decide,λJ f=>?_};have NX:=a8.upd (o:=.tup [.str q.1,.int (t:Int)]) f _ _ m;refine{b,_,1,rfl,NX,I _ (by rw[É,Ζ];lia),?_};have Z:∀c o,(upd H4 J (.tup [.str q.1,.int (t:Int)])) c=ρ o->c≠b->(upd (upd H4 J (.tup [.str q.1,.int (t:Int)])) b (.lst (as++[.ref r]++[.ref J]))) c=ρ o:=λc o e hc=>by rw[ae hc];exact e
   have r20:B J=τ:=by
    cases z:B J with
    |none=>rfl
    |some o=>
     by_cases hc:J=b
     .rw[hc,m]at f;cases f
     .rw[D _ _ z hc]at f;cases f
   refine{_,_,1,a6,λc o e hc=>Z _ _ (a8.upd f _ _ (D c o e hc)) hc,?_};rw[pM,vP,if_pos G,Ü];have em:([q,(q.1,t)]:List (Str×Nat)).map lH=[lH q]++[lH (q.1,t)]:=rfl;rw[em,<-ø];refine iF (bz.same ((iQ (a8.upd f)).trans (bV x Z)) _ _ O) ?_;have R:J≠b:=λz=>by rw[z,m]at f;cases f
   exact{J,1,cg r20 (by rw[ae R,a6]),.str q.1,[.int (t:Int)],rfl,⟨rfl,rfl⟩,.int (t:Int),[],rfl,⟨rfl,rfl⟩,rfl}
  .refine{2,rfl,false,congrArg V.bl (decide_eq_false λz=>G (by have:=V.int.inj z;lia)),bo ?_};refine{_,_,1,m,D,?_};rw[pM,vP,if_neg G,Ü];exact O
 .rintro σ g ⟨v4,v5,as,rfl,l,C,T⟩;rw[À,Am,ë]at T;exact{1,k _ _ (keep C) {b,as,rfl,.inl (cg M l),bz.same (f9 sb) _ _ T}}
theorem oK(L:Lk K mg):aR P w K mg base d4 2 L.lu L.qO ["sheet","many"] (PU K L.aD):=by
 have T:=L.T;refine L.lA.F.dM (N:=["sheet","many","kept","left"]) (λG A outer s H vs Q E nd hr h=>?_)
 let{x,many,hs,ws,b,rfl,S,hn,hm,k}:=h
 have I:(A.deeper (wda "kept_desks" (aL (top 75)) s.heap.objs.size L.lu G)).units<ò:=hr.vq
 refine{_,(a5 (ai (i:=2) (bx (vB rfl) (by rfl) T.list iz (aH (bx sV (by rfl) T.range A2 (aH (K6 T.len (az (0) rfl)))))))
  (a9 (jI wdr (bS dN) (a5 (dS (i:=3) rfl (ax ["sheet","kept","many"] [0,2,1]) nd rfl rfl (aS (2)) (λ_ _ _ _ _ _=>hF (cC AK (aF (xM (K:=K) rfl) (by rfl) T.len wel (aH (ao (oJ L) L.lz (a7 (bp (hX (K:=K) rfl) (nO (K:=K) rfl (1) rfl) (0) (λ_ _=>rfl)) (aH (2)))))) (3))) (λ_ _ _ _ _ _=>(0)))
  (a5 (b7 (cC (CT I) (3) (2)) (a9 (aw (2))) aJ)
  (a9 (ai (i:=2) (3)))))))),?_}
 ac_rfl
 let{dx,ah,bw,cl,hx,rh,Lc,rl}:=id S
 let{SK,J,ec,hc,m}:=id rl
 cases ec;have xl:J.9=b.9:=by rw[m.len,À]
 refine{1,x,L.aD,dx,_,1,hx,L.aC.cl,L.aC.d2,bX ah bw cl,cl,J,rfl,.inl (.inl hc),?_};rw[xl];refine{1,λp hp=>?_};refine{p,b.9,rfl,a6,ak (),λl hl=>?_};have s1:a8 H (upd H p (.rng 0 (b.9:Int))):=a8.upd hp;have fl:H l=τ:=none_of s1 hl;have s2:=s1.trans (a8.upd (o:=.lst ((Ö b.9).map λi=>V.int (i:Nat))) hl);have h2:(upd (upd H p (.rng 0 (b.9:Int))) l (.lst ((Ö b.9).map λi=>V.int (i:Nat)))) l=ρ (.lst ((nI (Ö b.9)).map V.int)):=by rw[a6,vW]
 generalize upd (upd H p _) l _=H2 at s2 h2;refine{λq σ M=>∃(l:Addr) (c:List Nat) (v3:Option V),q=c.9/\σ=[ρ (.ref x),ρ (.int many),ρ (.ref l),v3]/\a8 H M/\H l=τ/\M l=ρ (.lst ((nI c).map V.int))/\Above b many c,{_,l,_,τ,rfl,rfl,s2,fl,h2,Above.start b many},?_};rintro q σ M ⟨l,c,v3,rfl,rfl,O,fl,r,t⟩;refine{true,rfl,cU ?_};refine{λu C=>∃(g:Addr),u=[ρ (.ref x),ρ (.int many),ρ (.ref g),ρ (.ref g)]/\a8 H C/\H g=τ/\C g=ρ (.lst ((nI (vR b many c)).map V.int))/\vR b many c≠c,?_,?_}
 .rintro u C ⟨g,rfl,R,U,h',X⟩;exact{_,IY X,g,_,1,rfl,R,U,h',t.next}
 have Y:∀d∈c,d<b.9:=λd hd=>Ą.mp (t.sub.subset hd);have Y5:c.9<=1000:=by have:=t.sub.length_le;rw[ì]at this;lia
 refine{1,l,rfl,{_,aO.of r},λg z=>?_};refine et (λv=>match v with |.int d=>decide (many<=((d5 c (b.getD d.toNat [])).9:Int)) |_=>false) (λv=>v) (aT K l _) z (ak (by rw[À,cM];lia)) (λC R=>aO.of (R _ _ r)) (λy D Q' hy j Z=>?_) (λy D Q' hy _ j Z=>{1,Z D (a8.refl _)}) (λD j h4=>?_)
 .let{n,Cj,rfl}:=vV hy
  have Q0:=Y n Cj;have hq:b[n]?=ρ (b.getD n []):=by rw[Ë,Ã Q0];rfl
  let{v,Q1,rd}:=m.at (i:=n) (d:=cj (b.getD n [])) (by rw[Ç,hq];rfl)
  have e:=O.trans j;refine{1,x,L.aD,dx,_,1,e _ _ hx,L.aC.cl,L.aC.d2,bX ah bw cl,1,cl,J,_,1,rfl,e.seq (.inl hc),bL Q1,1,v,l,c,b.getD n [],rfl,bN.same e _ _ rd,aO.of (j _ _ r),hm _ (Ð hq),λy H5 s5 r5=>?_}
  let{a,rs,rfl,hS,hT}:=ez r5
  have Am:rs.9=(d5 c (b.getD n [])).9:=by rw[hT.1,À,À]
  refine{a,1,.inl ((ck _ _).seq hS),?_};rw[À,Am];exact{1,_,1,rfl,1,Z H5 s5}
 rw[Θ,rX (f:=λn=>decide (many<=((d5 c (b.getD n [])).9:Int))) (λn=>rfl)]at h4;have e:=O.trans j;refine{2,g,l,_,1,rfl,aO.of h4,aO.of (j _ _ r),fM _,fM _,1,?_};refine uo (λB=>?_) (λB=>?_)
 .rw[su,decide_eq_true_eq]at B;exact{1,k l c D e fl (j _ _ r) {t,t.stays B}}
 .rw[su,decide_eq_true_eq]at B;exact{_,rfl,g,rfl,e,none_of O z,h4,B}
theorem Ap(L:Lk K mg):aR P w K mg base d4 1 L.tM L.tW ["places","weights"] (J9 K):=by
 have T:=L.T;refine L.uc.F.dM (N:=["places","weights"]) (λj A outer s H y Q E nd n h=>?_)
 let{l,d,o,m,f,rfl,g,p,hd,hw,k}:=h
 have q:=fA n;refine{_,(a9 (aw (aF (my rfl) (by rfl) T.sum FV (aH (cK rfl (ax ["weights"] [1]) (aS (0)) (λ_ _ _ _ _ _=>bf) (λ_ _ _ _ _ _=>(dC q (1) (0) (λ_ _=>rfl)))))))),?_}
 ac_rfl
 refine{1,l,rfl,{_,g},λr a=>?_};refine comp_map (LN f) (aT K l (o.map V.str)) a (by rw[À];exact ak ()) (λB t=>t.seq g) (λz b C u c v=>?_) (λb c i=>?_)
 .let{e,x,rfl}:=Æ.mp u
  have g3:=eN.rd (k:=(Å e:Key)) (hd.same c);rw[eZ,hw e x]at g3;exact{2,d,1,g3,v b (a8.refl _)}
 .rw[rM]at i;exact{r,_,rfl,aO.of i,k b c}
theorem E8(L:Lk K mg):aR P w K mg base d4 2 L.zf L.zj ["ends","many","weights"] Gq:=by
 have T:=L.T;refine L.zp.F.dM (N:=["ends","many","weights","lower","place"]) (λX A outer s H vs Q E nd Y h=>?_)
 let{x,B,many,n,o,M,f,g,r,ss,ls,rfl,l,O,Z,Le,nd,DT,Yc,hm8,C,k}:=h
 have D:=fA Y
 refine{_,(a5 (ai (i:=3) dF)
  (a5 (forA (uV (0)) (ay (i:=4)) (a9 (eI D (3) (4) (aF (rP rfl) (by rfl) T.min M9 (a7 (dC D (2) (4) (λ_ _=>rfl)) (aH (aA j9 (ao (Ap L) L.uc (a7 (dC D (0) (4) (λ_ _=>rfl)) (aH (2)))) (1))))) rfl)))
  (a9 (aw (3))))),?_}
 ac_rfl
 refine λdl m=>?_;have R:a8 H (upd H dl (.dK [])):=a8.upd m;have J:=jK x o (cN M);rw[iJ,O]at J;refine{1,x,1,.inr {o,R _ _ l,?_}};refine mn J (λj σ t=>∃(v4:Option V),σ=[ρ (.ref x),ρ (.int many),ρ (.ref B),ρ (.ref dl),v4]/\t dl=ρ (.dK (bK (cF (mG g r ss ls many n f) (ls.take j))))/\a8 H t) ⟨τ,rfl,a6,R⟩ (λj σ t _ {_,_,_,b}=>b _ _ l) ?_ ?_
 .rintro j y σ t hy ⟨v4,rfl,z,b⟩
  let{p,G,rfl,hj,u,pM}:=i6 hy
  have d:=C.same b;have g3:=eN.rd (k:=(Å p:Key)) d;rw[eZ,kG f ls p u]at g3
  let{a,ha,hv}:=iG (mv:=M) (k:=p) (by rw[O];exact u)
  have S:=eN.f (k:=(Å p:Key)) (b _ _ l);rw[hv]at S;have I:=b _ _ (Z _ ha);have Ue:=gR g r ss ls n p;refine{2,B,1,g3,2,x,1,S,1,a,B,(aX g r ss ls n p).map (·.2),_,f,rfl,aO.of I,by rw[À];lia,d,λe he=>?_,λH4 U=>?_}
  .let{q,hq,rfl}:=Æ.mp he
   exact kG f ls _ (dW hq)
  have eb:(((aX g r ss ls n p).map (·.2)).map f).sum=iA g r ss ls n f p:=by delta iA;rw[Î];rfl
  refine{1,_,1,rfl,{(),()},_,1,?_};have h4:=U _ _ z;have v:p∉(cF (mG g r ss ls many n f) (ls.take j)).map (·.1):=by rw[rZ];exact iT nd G
  refine{2,dl,1,kA.k (k:=Å p) h4 (by rw[jL];delta cF;rw[À,Ú];exact bB ()),?_};refine{1,?_,λc oc e=>?_}
  .rw[a6,rT v,eb,pM];delta cF;rw[Ü];rfl
  .rw[ae (af e m)];exact U _ _ (b _ _ e)
 .rintro σ t ⟨v4,rfl,z,b⟩;rw[À,ë]at z;exact{_,rfl,k dl t b m z}
theorem m9(L:Lk K mg):aR P w K mg base d4 4 L.mQ L.nc ["sheet"] (JN K L.aD):=by
 refine L.j2.F.dM (N:=["sheet"]) (λB A outer s H vs Q E nd C h=>?_)
 let{x,D,G,j,rfl,S,n1,I,J,M,k}:=h
 refine{_,(a9 (aw (nN L.xf (gE L) (C.mono ⋯) rfl L.Aj L.fb.b .nil pJ (a7 (az (0) rfl) (a7 (az (0) rfl) (aH (az (0) rfl))))))),?_}
 ac_rfl
 let{l,g,bw,cl,m,O,n,R}:=id S
 refine{1,x,L.aD,l,_,1,m,L.aC.cl,L.aC.gm,fN g bw cl,1,x,L.aD,l,_,1,m,L.aC.cl,L.aC.dI,cO g bw cl,1,x,L.aD,l,_,1,m,L.aC.cl,L.aC.d2,bX g bw cl,?_};intro y i p q T;have sm:a8 H (upd (upd H i (.own y)) y (.ins L.aD i [])):=fP p q;refine{y,i,.ref g,.ref bw,.ref cl,D,G,j,rfl,a6,bN.same sm _ _ O,bN.same sm _ _ n,bN.same sm _ _ R,n1,I,J,M,λU X Y a d Z q2 q3 f=>{rfl,?_}};have t:a8 H a:=λc o e=>f _ _ (sm _ _ e) (af e p);have u:=λ(z:kj) (v:V) (r:bN K (aM _ a) z v)=>bN.same (f9 sm) z v r;exact k y a t {i,U,X,Y,cg p d,u _ _ Z,u _ _ q2,u _ _ q3}
theorem xZ(L:Lk K mg):aR P w K mg base d4 5 L.qu L.qM ["self"] (Gs K L.aW L.aD):=by
 refine L.rk.F.dM (N:=["self"]) (λe A outer s H u Q E nd v h=>?_)
 let{x,m,f,B,g,i,d,rfl,{j,a,b,c,z,l,ha,C,hc,S},n1,n,o,p,k}:=h
 refine{_,(a9 (aw (ao (m9 L) L.j2 (aH (az (0) rfl))))),?_}
 ac_rfl
 exact{1,x,L.aW,j,_,1,l,L.ee.cl,L.ee.Jq,Dj a b c z,z,g,i,d,rfl,S,n1,n,o,p,λy q r t=>k y q r t}
inductive E9(K:Á)(C CB CP:Addr)(u:Wr->V)(vs:List V)(H:Hp)(Q:VK)(eF:XK):Prop
 |mk (x R) (_:vs=[.ref x]) (_:sF K C CB CP H x R) (_:Q (u R) H)
theorem dg(L:Lk K mg):aR P w K mg base d4 1 L.mS L.nh ["self"] (E9 K L.aq L.aB L.aW (λR=>.int (R.c:Int))):=by
 have T:=L.T;refine L.cX.F.dM (N:=["self"]) (λd A outer s H r Q E nd t h=>?_)
 let{x,R,rfl,{{e,p,u,a,l,dp,f,b,g,i,j,m,n,o,q,_},_},k}:=h
 refine{_,(a9 (aw (K6 T.len (az (az (0) rfl) rfl)))),?_}
 ac_rfl
 refine{1,x,L.aq,e,_,1,m,L.ag.cl,L.ag.qh,Ad ..,p,L.aW,dp,_,1,n,L.ee.cl,L.ee.Bo,zY f b g i,b,j,rfl,.inl o,?_};rw[q];exact k
theorem eV(L:Lk K mg):aR P w K mg base d4 1 L.oo L.oC ["self"] (E9 K L.aq L.aB L.aW (λR=>.str R.o.1)):=by
 refine L.eB.F.dM (N:=["self"]) (λb A outer s H e Q E nd f h=>?_)
 let{x,R,rfl,{{c,p,g,a,l,dp,i,j,m,n,q,d,_},_},k}:=h
 refine{_,(a9 (aw (az (0) rfl))),?_}
 ac_rfl
 exact{1,x,L.aq,c,_,1,d,L.ag.cl,L.ag.sy,o9 ..,k}
theorem iw(L:Lk K mg):aR P w K mg base d4 1 L.mU L.ni ["self"] (E9 K L.aq L.aB L.aW (λR=>.int (R.wl.9:Int))):=by
 have T:=L.T;refine L.gA.F.dM (N:=["self"]) (λb A outer s H f Q E nd g h=>?_)
 let{x,R,rfl,{{c,p,i,a,l,dp,j,m,n,o,q,d,_,_,_,_,e,_},ok},k}:=h
 refine{_,(a9 (aw (K6 T.len (az (0) rfl)))),?_}
 ac_rfl
 refine{1,x,L.aq,c,_,1,d,L.ag.cl,L.ag.gm,tu ..,a,1,.inl e,?_};rw[À,ok.hl];exact k
inductive KD(K:Á)(C CB CP:Addr)(vs:List V)(H:Hp)(Q:VK)(eF:XK):Prop
 |mk (x:Addr) (R:Wr) (d:Nat) (_:vs=[.ref x,.int (d:Int)]) (_:sF K C CB CP H x R) (_:d<R.wl.9) (_:Q (.str (R.hk.getD d "")) H)
theorem pz(L:Lk K mg):aR P w K mg base d4 1 L.jf L.jm ["self","desk"] (KD K L.aq L.aB L.aW):=by
 refine L.js.F.dM (N:=["self","desk"]) (λb A outer s H i Q E nd j h=>?_)
 let{x,R,d,rfl,{{c,p,m,a,l,dp,n,o,q,r,t,f,_,_,_,_,g,_},ok},hd,k}:=h
 refine{_,(a9 (aw (bp bM (az (0) rfl) (1) (λ_ _=>rfl)))),?_}
 ac_rfl
 have e:=getD_some ("":Str) (show d<R.hk.length by rw[ok.hl];exact hd);exact{1,x,L.aq,c,_,1,f,L.ag.cl,L.ag.gm,tu ..,1,a,_,_,1,rfl,g,bL (v:=.str (R.hk.getD d "")) (by rw[Ç,e];rfl),k}
inductive KG(K:Á)(C CB CP:Addr)(vs:List V)(H:Hp)(Q:VK)(eF:XK):Prop
 |mk (x:Addr) (R:Wr) (d:Nat) (_:vs=[.ref x,.int (d:Int)]) (_:sF K C CB CP H x R) (_:d<R.wl.9) (_:∀y H',a8 H H'->bN K (aM H H') (cj (R.wl.getD d [])) y->Q y H')
theorem mc(L:Lk K mg):aR P w K mg base d4 1 L.mV L.nj ["self","desk"] (KG K L.aq L.aB L.aW):=by
 refine L.j3.F.dM (N:=["self","desk"]) (λD A outer s H Y Q E nd e h=>?_)
 let{x,R,d,rfl,{{G,p,Z,a,l,dp,wa,wb,wc,wz,ys,I,_,_,_,hl,_},ok},hd,k}:=h
 refine{_,(a9 (aw (gp rfl (ax [] []) (ax [] []) ⋯ (aS (bp bM (az (0) rfl) (1) (λ_ _=>rfl))) (λ_ _ _ _ _ _=>bf) (λ_ _ _ _ _ _=>(eD (a7 (0) (aH (1)))))))),?_}
 ac_rfl
 let{l',J,M,f,g}:=id hl
 cases M;have c:=d9 hd
 let{v,j,rd}:=g.at (i:=d) (d:=cj (R.wl.getD d [])) (by rw[Ç,c];rfl)
 have O:=ok.w.ln _ (Ð c);have m8:=ok.m8
 let{u,S,rfl,y,b,T}:=kT rd
 have m:=b;rw[À]at m;refine{1,x,L.aq,G,_,1,I,L.ag.cl,L.ag.d2,tD ..,1,l,J,_,1,rfl,.inl f,bL j,u,rfl,{_,y},λlc n=>?_};refine jW (prs:=(R.wl.getD d []).map eR) (λ_=>true) (λq=>.tup [.at q.1,.at q.2]) (aT K u S) b (λi q c=>let ⟨r,U,V⟩:=T i q c;{r,U,gM.of V}) n (ak ()) (λB o=>o.seq y) (λq C X _ _ t=>t C (a8.refl _)) (λq C X c _ s3 t=>?_) (λB o r=>?_)
 .let{z,hz,rfl}:=Æ.mp c
  exact{2,by show 2<=sizeLine;decide,λr e=>t _ _ (a8.upd e) (mH e z)}
 .rw[ĝ.mpr (λ_ _=>rfl),Î]at r;exact k _ B o r
inductive Q2(K:Á)(C CB CP:Addr)(vs:List V)(H:Hp)(Q:VK)(eF:XK):Prop
 |mk (x a R ts) (_:vs=[.ref x,.ref a]) (_:sF K C CB CP H x R) (_:H a=ρ (.lst ((nI ts).map V.int))) (_:(∀t∈ts,(t:Int)<R.many)) (_:ts.9<=10000) (_:∀H',a8 H H'->Q (.str (MJ R.wl R.b R.c ts)) H')
theorem Aq{H:Hp}{x:Addr}{R:Wr}{Q:VK}{E:XK}(W:sF K C CB l H x R)(k:∀j,a8 H j->Q (.int (R.b:Int)) j):JP C CB [.ref x] H Q E:=by
 let{{a,p,c,h,i,dp,m,o,q,r,s,d,_,_,_,t,_,B},ok}:=W
 exact{x,c,a,_,R.n,R.g,R.bw,R.ss,R.ls,rfl,d,gU ..,eT ..,B,ok.n1,ok.uj,λw hw=>(ok.hw w hw).2,ok.bl,λb j e f=>by rw[_B.lF.one f ok.bh];exact k j e}
inductive Hi(K:Á)(C CB CP:Addr)(vs:List V)(H:Hp)(Q:VK)(eF:XK):Prop
 |mk (x R) (_:vs=[.ref x]) (_:sF K C CB CP H x R) (_:∀a H',a8 H H'->iC H' a R.wl->Q (.ref a) H')
theorem sH{R:Wr}(ok:E6 R):∀k,k<=R.wl.9->(dX R.wl k).9<=k*8
 |0,_=>Û _
 |k+1,h=>by
  have a:=sH ok k ();have:=ok.w.ln _ (Ð (d9 (show k<R.wl.length by lia)));have:=ok.m8;rw[wm,É,À]
  lia
inductive Hj(K:Á)(C CB CP CE:Addr)(vs:List V)(H:Hp)(Q:VK)(eF:XK):Prop
 |mk (z dz x R) (_:vs=[.ref z,.ref x]) (_:H z=ρ (.ins CE dz [])) (_:sF K C CB CP (gG H z) x R) (_:∀H',(∀c o,H c=ρ o->c≠z->H' c=ρ o)->uC K C CB CP CE H' z R->Q .non H')
inductive N1(K:Á)(C CB CP CE:Addr)(u:Wr->V)(vs:List V)(H:Hp)(Q:VK)(eF:XK):Prop
 |mk (z R) (_:vs=[.ref z]) (_:uC K C CB CP CE H z R) (_:∀H',a8 H H'->Q (u R) H')
inductive Hk(K:Á)(C CB CP CE:Addr)(vs:List V)(H:Hp)(Q:VK)(eF:XK):Prop
 |mk (z R us) (_:vs=[.ref z,.str (cat us)]) (_:uC K C CB CP CE H z R) (_:(∀u∈us,u.9=R.n)) (_:us.9<=2000) (_:∀l ds H',a8 H H'->H' l=ρ (.lst ((nI ds).map V.int))->(∀e:Nat,e∈ds↔e<R.wl.9/\jO R.wl e us)->Q (.ref l) H')
inductive Hl(K:Á)(C CB CP CE:Addr)(vs:List V)(H:Hp)(Q:VK)(eF:XK):Prop
 |mk (z R bs w us) (_:vs=[.ref z,.str (cat (bs++w::us))]) (_:uC K C CB CP CE H z R) (_:(∀u∈bs++w::us,u.9=R.n/\∀c∈ch u,c∈ch R.g)) (_:bs.9=R.b) (_:us.9=R.c) (_:(bears R.bw (cat bs)=true->∀H',a8 H H'->Q .non H')) (_:(∀i:Nat,bears R.bw (cat bs)=false->lG R.ss R.hk R.wl (cat bs) w us i->∀H',a8 H H'->Q (.int (i:Int)) H')) (_:(bears R.bw (cat bs)=false->(∀i,¬lG R.ss R.hk R.wl (cat bs) w us i)->∀H',a8 H H'->Q .non H'))
theorem KH{R:Wr}(ok:E6 R):R.o.1.9=R.n*R.b:=by
 have m1:=ok.m1;have a:=ro ok.w (Š.mpr ok.w.ne) (ts:=Ý R.b 0) λt c=>by rw[(η.mp c).2];lia
 rw[č]at a;exact a.2
inductive Ea(K:Á)(C CB CP CE CL:Addr)(vs:List V)(H:Hp)(Q:VK)(E:XK):Prop
 |mk (z R l) (_:vs=[.ref z,.int l]) (_:uC K C CB CP CE H z R) (_:(∃m:Nat,l=((R.n*(R.b+m+R.c):Nat):Int)/\∀H',a8 H H'->Q (.int (m:Int)) H')\/(q0 R l/\l.natAbs<=1000/\J8 CL "length" (.int l) H E))
inductive N2(K:Á)(C CB CP CE CN CL:Addr)(vs:List V)(H:Hp)(Q:VK)(E:XK):Prop
 |mk (z R s) (_:vs=[.ref z,.str s]) (_:uC K C CB CP CE H z R) (_:(∃(all:List Str) (m:Nat) (res:Nat->V),s=cat all/\(∀u∈all,u.9=R.n/\∀c∈ch u,c∈ch R.g)/\all.9=R.b+m+R.c/\m<=1000/\(∀k,k<m->∃bs w us,(all.take (k+(R.b+1+R.c))).drop k=bs++w::us/\bs.9=R.b/\us.9=R.c/\(bears R.bw (cat bs)=true->res k=.non)/\(∀i:Nat,bears R.bw (cat bs)=false->lG R.ss R.hk R.wl (cat bs) w us i->res k=.int (i:Int))/\(bears R.bw (cat bs)=false->(∀i,¬lG R.ss R.hk R.wl (cat bs) w us i)->res k=.non))/\∀l H',a8 H H'->H l=τ->H' l=ρ (.lst ((Ö m).map res))->Q (.ref l) H')\/(∃i,s.9<=1000/\Out R.g s i/\J8 CN "number" (.int (i:Nat)) H E)\/((∀c∈ch s,c∈ch R.g)/\s.9<=1000/\q0 R (s.9:Int)/\J8 CL "length" (.int (s.9:Int)) H E))
inductive Hm(K:Á)(C CB CP CE CN CL:Addr)(vs:List V)(H:Hp)(Q:VK)(E:XK):Prop
 |mk (z R s) (_:vs=[.ref z,.str s]) (_:uC K C CB CP CE H z R) (_:s.9<=1000) (_:(∃i,Out R.g s i/\J8 CN "number" (.int (i:Nat)) H E)\/((∀c∈ch s,c∈ch R.g)/\s.length≠R.n*(R.b+1+R.c)/\J8 CL "length" (.int (s.9:Int)) H E))
inductive Eb(K:Á)(C CB CP CE CL CU:Addr)(vs:List V)(H:Hp)(Q:VK)(E:XK):Prop
 |mk (z R l v) (_:vs=[.ref z,.int l,v]) (_:uC K C CB CP CE H z R) (_:(q0 R l/\l.natAbs<=1000/\J8 CL "length" (.int l) H E)\/∃m:Nat,l=((R.n*(R.b+m+R.c):Nat):Int)/\OW H l v/\∀H',a8 H H'->E (.ref CU) τ H')
theorem G7.same{CR p t:Addr}{H I:Hp}{j:V}{s:Nat}{C:Addr}{nm:Str}{od:Option Addr}(h:G7 CR p t H j s C nm od)(s':a8 H I):G7 CR p t I j s C nm od:=by
 rcases h with⟨a,b,c,d,i,e,f,g⟩ |⟨a,b,c,d,i,e,f,g⟩ |⟨a,b,c⟩
 .exact .r a b c d i e (s' _ _ f) g
 .exact .l a b c d i e (s' _ _ f) g
 .exact .u a b c
inductive Fm(K:Á)(C CB CP CE CR CL CU CX:Addr)(vs:List V)(H:Hp)(Q:VK)(eF:XK):Prop
 |mk (z:Addr) (R:Wr) (way:Nat) (v:V) (l:Int) (s:Nat) (HF:V) (_:vs=[.ref z,.int (way:Int),v,.int l]) (_:uC K C CB CP CE H z R)
  (_:(∃(r:Str) (i:Nat),(way=0\/way=1)/\v=.str r/\r.9<=1000/\Out R.g r i/\s=0/\HF=.int (i:Int))\/(∃r:Str,way=0/\v=.str r/\r.9<=1000/\(∀c∈ch r,c∈ch R.g)/\q0 R (r.9:Int)/\s=1/\HF=.int (r.9:Int))\/(∃r:Str,way=1/\v=.str r/\r.9<=1000/\(∀c∈ch r,c∈ch R.g)/\r.length≠R.n*(R.b+1+R.c)/\s=1/\HF=.int (r.9:Int))\/(way=2/\q0 R l/\l.natAbs<=1000/\s=1/\HF=.int l)\/(∃m:Nat,way=2/\l=((R.n*(R.b+m+R.c):Nat):Int)/\OW H l v/\s=2))
  (_:∀(e C':Addr) (nm:Str) (od:Option Addr) (H':Hp),a8 H H'->Y4 K H' e C' CX nm od->G7 CR CL CU H' HF s C' nm od->Q (.ref e) H'):Fm K C CB CP CE CR CL CU CX vs H Q eF
theorem W5{R:Wr}(ok:E6 R):∀c∈ch R.o.1,c∈ch R.g:=by
 delta Wr.o;rw[iS];have m1:=ok.m1;exact Ag λu h=>(Ao ok _ 0 (Š.mpr ok.w.ne) (λt a=>by rw[(η.mp a).2];lia) u h).2
end
end K54
namespace _L
open PySem.Spec PyProof.Rows
section
variable{X:Cx}{tg:Expr}
theorem Q3(I:Inv X g σ H s)(h:H a=ρ (.dK [])):∃o ep,s.heap.get? a=ρ o/\o.cls=.type "dict"/\o.data=.dict #[] ep/\(a==Ė)=false:=by
 let{_,e,m,rel,o,c,ep,f,i,j,k}:=(show bP X.prog X.w H s.heap a (.dK []) from I.b6 a _ h)
 cases rel;have d:=k.2.1
 have:c=#[]:=weC.mp (by
  cases l:c.toList with
  |nil=>rfl
  |cons a b=>rw[l]at d;cases d)
 subst this;exact⟨o,ep,f,i.1,j,e⟩
theorem Hn{K:Á}(J:X.K=K):Ny X "list.index" (λx xs H Q=>∃l g k i,x=.ref l/\xs=[.str k]/\aO K H l (Ķ V.str g)/\g.9<=1000/\g[i]?=ρ k/\(∀j:Nat,j<i->g[j]?≠ρ k)/\Q (.int (i:Nat)) H):=by
 subst J;intro A s σ H x xs v Y Q I E G h
 let{l,g,k,i,rfl,rfl,L,M,hi,f,q}:=h
 cases E
 let{u,rfl,N,rfl}:=G.one
 let{a,B,pl,Z}:=I.list L
 let{{cls,O,data,sl},C,hc,n,hd}:=pl.isList
 simp only at hc hd;subst hc hd;have c:=B.9;rw[À]at c;have R:i<g.9:=(Ñ.mp hi).1
 have at_:∀m (b:m<a.9),∃t,a[m]=.str (g[m]'1.0) t:=λm b=>by
  let{w,D,S}:=B.get (i:=m) (x:=.str (g[m]'1.0)) (by rw[Ç,Ã 1.0];rfl)
  rw[Ã b]at D
  let{t,rfl}:=S
  exact{t,Ò D}
 refine ο wdf {_,C,rfl} wg2 (wfK _ _)
  (wg3 l a.toArray n O sl (.str k N) (λw=>match w with |.str z _=>z==k |_=>false) i (by simp;omega) 1.0 ?_ ?_) {C,λy T=>?_,?_}
 .let{t,e}:=at_ i 1.0
  have U:g[i]=k:=(Ñ.mp hi).2;simp only[wdN];rw[e,U];simp
 .intro m b o;have p:m<a.9:=by simpa using b
  let{t,e}:=at_ m p
  simp only[wdN];rw[e];have d:=f m o;rw[Ã 1.0]at d;simp only[beq_eq_false_iff_ne,ne_eq];exact λz=>d (by rw[z])
 .have r:y∈a:=by simpa using T
  let{m,b,rfl}:=Ŭ r
  let{t,e}:=at_ m b
  rw[e];exact wgD _ _ _ _
 .exact{.int (i:Nat),H,I.tok _,{_,rfl},q}
theorem Ho{K:Á}(J:X.K=K):Ny X "list.index" (λx xs H Q=>∃l g k i,x=.ref l/\xs=[.int k]/\aO K H l (Ķ V.int g)/\g.9<=1000/\g[i]?=ρ k/\(∀j:Nat,j<i->g[j]?≠ρ k)/\Q (.int (i:Nat)) H):=by
 subst J;intro B s σ H x xs v Z Q I G L h
 let{l,g,k,i,rfl,rfl,M,N,hi,o,q}:=h
 cases G
 let{u,rfl,O,rfl}:=L.one
 let{a,C,pl,hz}:=I.list M
 let{{cls,R,data,sl},D,hc,n,hd}:=pl.isList
 simp only at hc hd;subst hc hd;have d:=C.9;rw[À]at d;have S:i<g.9:=(Ñ.mp hi).1
 have b:∀m (c:m<a.9),∃t,a[m]=.int (g[m]'1.0) t:=λm c=>by
  let{w,E,T}:=C.get (i:=m) (x:=.int (g[m]'1.0)) (by rw[Ç,Ã 1.0];rfl)
  rw[Ã c]at E
  let{t,rfl}:=T
  exact{t,Ò E}
 refine ο wdf {_,D,rfl} wg2 (wfK _ _)
  (wg3 l a.toArray n R sl (.int k O) (λw=>match w with |.int z _=>z==k |_=>false) i (by simp;omega) 1.0 ?_ ?_) {D,λy U=>?_,?_}
 .let{t,e}:=b i 1.0
  have Y:g[i]=k:=(Ñ.mp hi).2;simp only[wdN];rw[e,Y];simp
 .intro m c p;have r:m<a.9:=by simpa using c
  let{t,e}:=b m r
  simp only[wdN];rw[e];have f:=o m p;rw[Ã 1.0]at f;simp only[beq_eq_false_iff_ne,ne_eq];exact λz=>f (by rw[z])
 .have A:y∈a:=by simpa using U
  let{m,c,rfl}:=Ŭ A
  let{t,e}:=b m c
  rw[e];exact wgC _ _ _ _
 .exact{.int (i:Nat),H,I.tok _,{_,rfl},q}
theorem KI{g:List (Addr×Obj)}{σ:St}{H:Hp}{s:Shared}{R:It->Hp->Prop}{E:Value->Shared->Prop}{c:Int}{m:Nat}{t u v:Tok}(I:Inv X g σ H s)(j:1<=c)(l:c<=1000)(p:c*(m:Int)<=1000000)(r:m<=1000000)
 (q:R (Lz 0 c m) H):wpAny (model X.prog X.w) X.A (pyIter (.ref s.8)) (Qq X g σ tg R) E {s with heap:=s.heap.push {cls:=.type "range",data:=.fields #[.int 0 t,.int (c*(m:Int)) u,.int c v]}}:=by
 have h0:0<=c*(m:Int):=Int.mul_nonneg () ()
 have a:whj 0 (c*(m:Int)) c=true:=by
  unfold whj;rw[Eo ()];simp only[Builtin.Range.rangeFitsLong,ś,wie,decide_eq_true_eq,beq_iff_eq,show c>0 by lia,if_true]
  lia
 refine wpAny_pyIter_range (wis ..) a ?_;have d:Inv X g σ H {s with heap:=s.heap.push {cls:=.type "range",data:=.fields #[.int 0 t,.int (c*(m:Int)) u,.int c v]}}:=I.kept (t':=s.toks) λb o e=>Õ _ e
 refine{(s.heap.push {cls:=.type "range",data:=.fields #[.int 0 t,.int (c*(m:Int)) u,.int c v]}).7,[(s.heap.push {cls:=.type "range",data:=.fields #[.int 0 t,.int (c*(m:Int)) u,.int c v]}).7],_,_,H,rfl,
  d.kept (t':=s.toks) λb o e=>Õ _ e,B4 _ 0 c m,?_,λb f=>?_,q}
 .have h:(0:Int)+((0:Nat):Int)*c=0:=by simp
  have i:((m:Nat):Int)-((0:Nat):Int)=wdc 0 (c*(m:Int)) c:=by rw[Eo ()];simp
  show wgo _ _ ((0:Int)+((0:Nat):Int)*c) (((m:Nat):Int)-((0:Nat):Int)) c;rw[h,i];exact è _ rfl
 .have e:b=(s.heap.push {cls:=.type "range",data:=.fields #[.int 0 t,.int (c*(m:Int)) u,.int c v]}).7:=by simpa using f
  subst e;exact d.zI (Ä _) (d.b6.fresh (Ä _))
theorem Hq(l:Gl X "range")(C:X.mg "range"=τ)(ha:PA X [a,b,c] J)(hs:starEach [a,b,c] X.5=[(false,eval a X.5),(false,eval b X.5),(false,eval c X.5)]:=by rfl)(g:starEach [b,c] X.5=[(false,eval b X.5),(false,eval c X.5)]:=by rfl) :
 PI X tg (.Call (.Name "range" p) [a,b,c] [] pos) (Rh J):=by
 refine{?_};intro d s σ H R I h;refine Call_ (gN I l C boot_range (Ÿ (bQ (ha pos d s σ H _ I h) λy z ⟨A,B,k,n,i⟩=>?_) (by rw[hs,g]) (by rw[g];rfl)))
 let{c,m,e,i,o,u,v,q}:=i
 subst e
 cases n with
 |cons r f=>
  cases f with
  |cons w f=>
   cases f with
   |cons j f=>
    cases f
    let{t,rfl}:=r
    let{D,rfl}:=w
    let{x,rfl}:=j
    exact call_range_3 1.0 (KI k i o u v q) (.inl (wgr 1.0))
end
section
variable{X:Cx}{e o:Expr}{es:List Expr}{ta:TE}{t:TA}{pos apos:Pos}{C f:Addr}{q:Str}{st:Stmt}{ps:List Str}{k:Nat}{sp:Sp}
theorem gH{m:Str}{fd:ï}{pl:Sem Bool}(he:PE X o ta)(c:AA X.K C)(g:cG X.K C m q st ps f fd)(F:aR X.prog X.w X.K X.mg X.base d4 k f fd ps sp)(l:dJ k X.A:=by exact dJ.mono (by assumption) ⋯)
 (r:eval (.Call (.Attribute o m apos) [] [] pos) X.5=(do
   let j <-eval o X.5
   standAt apos.atName
   let (f,first) <-holding [j] (ţ j m pl)
   callWith pos f first (backTo pos (starEach [] X.5)) (backToKw pos (Ĭ [] X.5))):=by rfl) :
 PE X (.Call (.Attribute o m apos) [] [] pos) (Ek C m sp [] E0 ta zu):=IP he c g.m F l g.b .nil pJ r
theorem Fn{m:Str}{fd:ï}{pl:Sem Bool}(he:PE X o ta)(c:AA X.K C)(j:cG X.K C m q st ps f fd)(F:aR X.prog X.w X.K X.mg X.base d4 k f fd ps sp)(ha:PA X (e::es) t)(r:dJ k X.A:=by exact dJ.mono (by assumption) ⋯)
 (g:starEach (e::es) X.5=(false,eval e X.5)::starEach es X.5:=by rfl) (hpl:(backTo pos (starEach es X.5)).any (·.1)=false:=by rfl)
 (I:eval (.Call (.Attribute o m apos) (e::es) [] pos) X.5=(do
   let l <-eval o X.5
   standAt apos.atName
   let (f,first) <-holding [l] (ţ l m pl)
   callWith pos f first (backTo pos (starEach (e::es) X.5)) (backToKw pos (Ĭ [] X.5))):=by rfl) :
 PE X (.Call (.Attribute o m apos) (e::es) [] pos) (Ek C m sp [] E0 ta t):=jb he c j.m F r j.b .nil pJ ha g hpl I
end
section
variable{M:Model}{A:Around}{E:Value->Shared->Prop}{e C C1 CB:Addr}{nm q:Str}{N:Addr}{bs:List Value}{hdct:Bool}{sn:List Str}{sub:List Value}{ab:Bool}{col:Option Bool}{dd:Option Addr}{k0 k1 k2 k3 k5:Option Value}{zR q':Str}{N':Addr}{bs':List Value}{SW:Bool}{sn':List Str}{Wa:List Value}{ab':Bool}{Wb:Option Bool}{dd':Option Addr}{k0' k1' k2' k3' k5':Option Value}
theorem uk{h:Heap}{g:Array Ŀ}{d:Drawn}{t:Nat}{os:ù}{p:Obj}{Q:Bool->Shared->Prop}(l:h.get? C=ρ (ć nm q C N bs (mh CB) hdct sn sub ab col dd k0 k1 k2 k3 k5 "ValueError.__new__"))
 (he:h.get? e=ρ p) (j:p.cls=.ref C) (r:Q true ⟨h,g,d,t,os⟩) :
 wpAny M A (wf1 (.ref e) (.ref C)) Q E ⟨h,g,d,t,os⟩:=by
 have a:(È C::mh CB).contains (.type "BaseException")=true:=by simp[ž,mh]
 have b:(È C::mh CB).contains (.ref C)=true:=by simp[ž]
 have f:=whW;unfold wf1
 repeat (first |(with_reducible refine Č he ?_;rw[j]) |with_reducible refine Č l ?_ |(with_reducible refine ŏ l ?_;rw[b]) |(with_reducible refine ŏ l ?_;rw[a]) |wp_step)
 exact r
theorem Ar{h:Heap}{g:Array Ŀ}{d:Drawn}{t:Nat}{os:ù}{I:Obj}{Q:Bool->Shared->Prop}(j:h.get? C1=ρ (ć zR q' C1 N' bs' (mh CB) SW sn' Wa ab' Wb dd' k0' k1' k2' k3' k5' "ValueError.__new__"))
 (J:h.get? C=ρ (ć nm q C N bs (mh CB) hdct sn sub ab col dd k0 k1 k2 k3 k5 "ValueError.__new__"))
 (he:h.get? e=ρ I) (l:I.cls=.ref C) (p:C1≠C) (r:C1≠CB) (T:Q false ⟨h,g,d,t,os⟩) :
 wpAny M A (wf1 (.ref e) (.ref C1)) Q E ⟨h,g,d,t,os⟩:=by
 have a:(È C1::mh CB).contains (.type "BaseException")=true:=by simp[ž,mh]
 have b:(È C::mh CB).contains (.ref C1)=false:=by simp[ž,mh,p,r]
 have f:=whW;unfold wf1
 repeat (first |(with_reducible refine Č he ?_;rw[l]) |with_reducible refine Č j ?_ |with_reducible refine Č J ?_ |(with_reducible refine ŏ J ?_;rw[b]) |(with_reducible refine ŏ j ?_;rw[a]) |wp_step)
 exact T
end
section
variable{X:Cx}{CB C1 C2:Addr}{Ug Uh x nm zR:Str}{body:List Stmt}{tb:CA}{i jj jk:Nat}{p1 p2 p3 p4 LX q1 q2 q3 q4 Wc pos:Pos}
theorem N3(l:X.stack=X.5::X.outer/\X.env.frame=ρ X.env.locals)(g:AO X body tb)(hg:Gl X Ug)(hm:X.mg Ug=ρ (.ref C1))(hg':Gl X Uh)(VI:X.mg Uh=ρ (.ref C2))(U:bJ X.K C1 CB nm)(U':bJ X.K C2 CB zR)(Dc:C1≠C2)(hnb:C1≠CB)(hN:X.N.Nodup)(hi:X.N[i]?=ρ x)
 (hx:Loc X.env.scope x) (J:(Ug==("__debug__":Str))=false:=by decide) (T:(Uh==("__debug__":Str))=false:=by decide)
 (hf:X.fn x=true\/X.env.scope.names.lookup x=ρ .local:=by first |exact .inl rfl |exact .inr rfl |assumption) (RU:Ċ (.Constant .none jj p3) (ρ (.Name x p2)) p4.line X.5=pure false:=by rfl) (Wd:Ċ (.Constant .none jk q3) (ρ (.Name x q2)) q4.line X.5=pure false:=by rfl) :
 PS X (.Try body [.ExceptHandler (ρ (.Name Ug p1)) τ [.Assign [.Name x p2] (.Constant .none jj p3) p4] LX,.ExceptHandler (ρ (.Name Uh q1)) τ [.Assign [.Name x q2] (.Constant .none jk q3) q4] Wc] [] [] pos) (RB C1 C2 tb i):=by
 refine{?_};intro a s σ H D I h;refine wpAny_Try_except (í (g a s σ H D _ I h) (λf s1 q=>?_) λY s1 q=>?_)
 .cases f with
  |next=>exact ĵ q
  |ret v=>exact q
  |brk=>exact q
  |cont=>exact q
 let{r,H0,G,d,e,C',od,m,rfl,k,bare,un,b6,F,c,hD}:=q
 have I1:Inv X a r m s1:=d.vp k un b6 bare λb z=>absurd z (by simp);have hfs:(X.5::X.outer).filterMap (·.frame)=rA X.stack:=by rw[l.1];rfl
 have t:=I1.pI
 have L:G.8<=s1.8:=wfZ λz=>by
  let{RL,_,vs,sl,he,_}:=F
  exact absurd (â (ę RL (Ì he)) (weQ z)) (ă _)
 refine vz (lo:=G.8) (H:=m) (base:=X.base) (outer:=X.outer) (by rw[<-l.1];exact d.ok.frames) (by rw[<-l.1];exact I1.stack) l.2 L (λb g=>b6.fresh g) F λZ F2 p=>?_;rw[hfs]at p
 let{M,n,J2}:=d.vF k bare un b6 p t
 have u:=J2 s1.toks
 let{qC,NC,bsC,snC,VP,abC,VQ,ddC,c0,c1,c2,c3,c5,O}:=U.lk
 let{qD,ND,bsD,snD,zbp,abD,zbq,ddD,e0,e1,e2,e3,e5,Q}:=U'.lk
 let{Y1,sl2,w,_}:=id F2.ob
 rcases c with c |c
 .cases c;refine wdX (wdG (g8 (X:=X.marked e) (u.marked (e:=e)) hg hm ?_ J)) (by intro z;cases z);refine uk (u.gJ _ _ O) w rfl ?_;refine wgy ?_;refine oS F2 λR F3 S=>?_;have A:CW G.heap.objs.size m (rA X.stack) Z R:={λb o q g _=>S b o q g,λb o q g=>{o.slots,S b o q (.inl ?_)}}
  rotate_left
  .have:∃o,G.heap.get? b=ρ o:=by
    let{_,o,B,_}:=d.stack.mem g
    exact⟨o,B⟩
   let{o,B}:=this
   exact Ì B
  let{Y2,V,J3}:=d.vF (s1:={s1 with heap:=Z}) k bare M n A t
  have I3:=J3 s1.toks;have Y:=eO (X:=(X.marked e).HC) (j:=jj) (pos:=p3) a {s1 with heap:=R} r m (λv C=>v=.non/\C=m) ((I3.marked (e:=e)).kl _) ⟨rfl,rfl⟩;refine ş (wdA (CV (bQ Y λv s5 ⟨y,H5,E,r5,ey,eH⟩=>?_)) RU);subst ey;subst eH;have E:=(E.eP).unmarked d.ok;refine hV E hN hi hx r5 (λs6 I6=>ĵ ?_) hf;exact{_,_,I6,hD}
 .cases c;refine wdX (wdG (g8 (X:=X.marked e) (u.marked (e:=e)) hg hm ?_ J)) (by intro z;cases z);refine Ar (u.gJ _ _ O) (u.gJ _ _ Q) w rfl Dc hnb ?_;refine wdX (wdG (g8 (X:=X.marked e) (u.marked (e:=e)) hg' VI ?_ T)) (by intro z;cases z);refine uk (u.gJ _ _ Q) w rfl ?_;refine wgy ?_;refine oS F2 λR F3 S=>?_;have A:CW G.heap.objs.size m (rA X.stack) Z R:={λb o q g _=>S b o q g,λb o q g=>{o.slots,S b o q (.inl ?_)}}
  rotate_left
  .have:∃o,G.heap.get? b=ρ o:=by
    let{_,o,B,_}:=d.stack.mem g
    exact⟨o,B⟩
   let{o,B}:=this
   exact Ì B
  let{Y2,V,J3}:=d.vF (s1:={s1 with heap:=Z}) k bare M n A t
  have I3:=J3 s1.toks;have Y:=eO (X:=(X.marked e).HC) (j:=jk) (pos:=q3) a {s1 with heap:=R} r m (λv C=>v=.non/\C=m) ((I3.marked (e:=e)).kl _) ⟨rfl,rfl⟩;refine ş (wdA (CV (bQ Y λv s5 ⟨y,H5,E,r5,ey,eH⟩=>?_)) Wd);subst ey;subst eH;have E:=(E.eP).unmarked d.ok;refine hV E hN hi hx r5 (λs6 I6=>ĵ ?_) hf;exact{_,_,I6,hD}
end
end _L
namespace K54
section
variable{P:Ê}{w:World}{K:Á}{mg:Str->Option Value}{base:Heap}
theorem um(L:Lk K mg):aR P w K mg base d4 2 L.wM L.wU ["self","place","sign"] (Sw L.aB):=by
 refine L.pf.F.dM (N:=["self","place","sign"]) (λn A outer s H z Q E nd o h=>?_)
 let{x,p,c,g,r,ss,ls,rfl,B,e,hc,k}:=h
 let{{f,b,d,q,mv,i,C,t,u,v,D},_,_,_}:=id B
 let{a,ha,y}:=iG (mv:=mv) (k:=p) (by rw[u];exact e)
 have j:=fA o
 refine{_,(a5 (bc (Fn (0) L.aK.cl L.fJ (iB L) (aH (1))))
  (a9 (aw (dC j (dC j (az (0) rfl) (1) (λ_ _=>rfl)) (2) (λ_ _=>rfl))))),?_}
 ac_rfl
 refine{1,x,f,1,i,HD _ _ _ _ ∅ ∅ ∅ ∅,1,x,p,g,r,ss,ls,rfl,B,e,?_};have l:=eN.k (k:=(Å p:Key)) t;rw[y]at l;have m:=eN.k (k:=(Å ({#[c]}:Str):Key)) (v _ ha);rw[F1 hc]at m;exact{1,x,L.aB,f,_,1,i,L.aK.cl,L.aK.kQ,kH g b d q,1,d,1,l,1,a,1,m,k}
theorem As(L:Lk K mg):aR P w K mg base d4 3 L.tL L.tV ["band","place"] (DF L.aB):=by
 refine L.ub.F.dM (N:=["band","place","ends"]) (λI A outer s H X Q E nd Y h=>?_)
 let{x,p,g,u,ss,ls,rfl,B,J,M,k}:=h
 refine{_,(a5 (dS (i:=2) rfl (ax ["band","place"] [0,1]) nd rfl rfl (zS (az (0) rfl)) (λ_ _ _ _ _ _=>bf) (λ_ _ _ _ _ _=>(Fn (1) L.aK.cl L.pf (um L) (a7 (2) (aH (0))))))
  (a9 (aw (cK rfl (ax [] []) (aS (2)) (λ_ _ _ _ _ _=>hF (cC zG (0) eO)) (λ_ _ _ _ _ _=>(0)))))),?_}
 ac_rfl
 let{{O,b,d,q,Z,R,h2,h3,h4,h5,h6},pm,_,_}:=id B
 refine{1,x,L.aB,O,_,1,R,L.aK.cl,L.aK.q8,kJ g b d q,g,rfl,λl hl=>?_};refine comp_map (XZ u ss p) (pH g) hl (by rw[DE];exact ak ()) (λ_ _=>trivial) (λz C D S n e=>?_) (λC n a=>?_)
 .let{c,hc,rfl}:=Æ.mp S
  have G:=B.same n
  let{{o,_,_,_,_,r,_},_}:=id G
  exact{1,x,o,1,r,HD _ _ _ _ ∅ ∅ ∅ ∅,2,x,p,c,g,u,ss,ls,rfl,G,J,hc,e C (a8.refl _)}
 .rw[Gd]at a;refine{1,l,rfl,{_,aO.of a},λT f=>?_};refine et Cv (λv=>v) (aT K l _) f (by rw[À,aP];exact ak ()) (λH' U=>aO.of (U _ _ a)) (λy j D V t e=>{1,rfl,1,e j (a8.refl _)}) (λy j D V _ t e=>{1,e j (a8.refl _)}) (λj t m=>?_);rw[Θ,Br]at m;exact k T j (n.trans t) (none_of n f) m
theorem C9(L:Lk K mg):aR P w K mg base d4 4 L.wO L.wW ["band"] (Go L.aB):=by
 refine L.x9.F.dM (N:=["band","ends","place"]) (λhU A outer s H vs Q E nd hr h=>?_)
 let{x,g,U,ss,ls,rfl,B,X,Fl,k}:=h
 have hu:=fA hr
 refine{_,(a5 (ai (i:=1) dF)
  (a5 (forA (aS (gH (0) L.aK.cl L.oI (xA L))) (ay (i:=2)) (a9 (eI hu (1) (2) (ao (As L) L.ub (a7 (0) (aH (2)))) rfl)))
  (a9 (aw (1))))),?_}
 ac_rfl
 refine λn r=>?_;have R:a8 H (upd H n (.dK [])):=a8.upd r;have B0:=B.same R
 let{{dx,b,d,q,mv,h1,h2,h3,h4,h5,h6},pm,_,_}:=id B0
 refine{1,x,dx,1,h1,HD _ _ _ _ ∅ ∅ ∅ ∅,x,g,U,ss,ls,rfl,B0,λlp S G f1 I=>?_};have Y:lp≠n:=λz=>by rw[z,a6]at f1;cases f1
 have nd:=B.nd
 refine{lp,rfl,{_,aO.of I},di (K:=K) (a:=lp) (xs:=ss.map V.str) (λi σ T=>∃Z l,σ=[ρ (.ref x),ρ (.ref n),Z]/\T n=ρ (.dK (cN l))/\l.map (·.1)=ss.take i/\(∀m∈l,T m.2=ρ (.lst ((ik g U ss m.1).map V.str)))/\(∀m∈l,S m.2=τ)/\(∀c o,S c=ρ o->c≠n->T c=ρ o))
  {τ,[],rfl,G _ _ a6,rfl,λm t=>(nomatch t),λm t=>(nomatch t),λc o e _=>e} (λi σ T _ {_,_,_,_,_,_,_,D}=>aO.of (D _ _ I Y)) ?_ ?_}
 .rintro i y σ H5 hy ⟨Z,l,rfl,u,f,j,v,D⟩
  let{p,Q4,rfl,hi,E7,pM}:=i6 hy
  have We:a8 H H5:=λc o e=>D _ _ (G _ _ (R _ _ e)) (af e r);refine{2,x,p,g,U,ss,ls,rfl,B.same We,E7,X,λe H6 s6 C h6'=>?_};have d6:=s6 _ _ u;have J:p∉l.map (·.1):=by rw[f];exact iT nd Q4
  have Wf:l.9<=900:=by have:=congrArg γ f;rw[À,Ú]at this;lia
  refine{2,n,1,kA.k (k:=Å p) d6 (by unfold cN;rw[À];exact bB ()),?_};have M:e≠n:=λz=>by rw[z,u]at C;cases C
  have e1:S e=τ:=by
   cases q:S e with
   |none=>rfl
   |some o=>
    have:=D _ _ q M;rw[this]at C;cases C
  refine{_,l++[(p,e)],rfl,?_,?_,?_,?_,?_}
  .rw[a6,gb _ (oV J)];unfold cN;rw[Ü];rfl
  .rw[Ü,f,pM];rfl
  .intro m t;rcases ä.mp t with z |z
   .have nm:m.2≠n:=λq=>by
     have:=v m z;rw[q,G _ _ a6]at this;cases this
    rw[ae nm];exact s6 _ _ (j m z)
   .have:m=(p,e):=by simpa using z
    subst this;rw[ae M];exact h6'
  .intro m t;rcases ä.mp t with z |z
   .exact v m z
   .have:m=(p,e):=by simpa using z
    subst this;exact e1
  .intro c o hc O;rw[ae O];exact s6 _ _ (D c o hc O)
 .rintro σ H5 ⟨Z,l,rfl,u,f,j,v,D⟩;rw[À,ë]at f;exact{1,k n l H5 (λc o e=>D _ _ (G _ _ (R _ _ e)) (af e r)) r u f j λm t=>none_of R (none_of G (v m t))}
theorem md(L:Lk K mg):aR P w K mg base d4 5 L.mN L.n7 ["band","length"] (Mx L.aB):=by
 have T:=L.T;refine L.j0.F.dM (N:=["band","length","ends","counts","place","table","step","longer"]) (λhU A outer s H vs Q E nd hr h=>?_)
 let{x,n,g,G,ss,ls,rfl,B,Fo,Fl,hn0,hn1,k}:=h
 have hu:=fA hr
 refine{_,(a5 (ai (i:=2) (ao (C9 L) L.x9 (aH (0))))
  (a5 (ai (i:=3) dF)
  (a5 (forA (uV (2)) (ay (i:=4)) (a9 (eI hu (3) (4) aj rfl)))
  (a5 (ai (i:=5) (bI (aH (3))))
  (a5 (forA (cR rfl T.range (aH (1))) (ay (i:=6)) (a5 (ai (i:=7) dF)
  (a5 (forA (uV (2)) (ay (i:=4)) (a9 (eI hu (7) (4) (aF (my rfl) (by rfl) T.sum FV (aH (cK rfl (ax ["counts"] [3]) (aS (dC hu (2) (4) (λ_ _=>rfl))) (λ_ _ _ _ _ _=>bf) (λ_ _ _ _ _ _=>(dC hu (1) (0) (λ_ _=>rfl)))))) rfl)))
  (a5 (bc (ja ė ħ İ d8 (5) (aH (7))))
  (a9 (ai (i:=3) (7)))))))
  (a9 (aw (5)))))))),?_}
 ac_rfl
 have nd:=B.nd;have he:("":Str)∈ss:=B.pm.mem_iff.mpr (cx G);refine{1,x,g,G,ss,ls,rfl,B,Fo,Fl,λd u H1 s1 Wg h1 ek er ef=>?_};refine λl v=>?_;have Z:d≠l:=af h1 v;have I:((cN u).map λkv=>kV kv.1)=ss.map V.str:=by rw[iJ,ek]
 have evd:∀m∈u,m.2≠d:=λm q z=>by have:=er m q;rw[z,h1]at this;cases this
 refine{1,d,1,.inl {(a8.upd v) _ _ h1,λo=>?_}};have J:=jK d o (cN u);rw[I]at J;have S:(upd (upd H1 l (.dK [])) d (.frz o (.dK (cN u)))) l=ρ (.dK []):=by rw[ae (æ Z),a6]
 have U:(upd (upd H1 l (.dK [])) d _) d=ρ (.frz o (.dK (cN u))):=a6
 have sz:a8 H (upd (upd H1 l (.dK [])) d (.frz o (.dK (cN u)))):=λc r e=>by
  rw[ae (af e Wg)];exact a8.upd v _ _ (s1 _ _ e)
 have X:∀m∈u,(upd (upd H1 l (.dK [])) d (.frz o (.dK (cN u)))) m.2=ρ (.lst ((ik g G ss m.1).map V.str)):=λm q=>by
  rw[ae (evd m q)];exact a8.upd v _ _ (er m q)
 have f0:H l=τ:=none_of s1 v;generalize upd (upd H1 l _) d _=Hz at S U sz X;have Wh:∀m∈u,m.2≠l:=λm q z=>by have:=X m q;rw[z,S]at this;cases this
 refine mn J (λi σ H3=>∃v4,σ=[ρ (.ref x),ρ (.int n),ρ (.ref d),ρ (.ref l),v4,τ,τ,τ]/\H3 l=ρ (.dK (rL (λp=>.int (iD g G ss 0 p)) (ss.take i)))/\∀c r,Hz c=ρ r->c≠l->H3 c=ρ r) {τ,rfl,S,λc r e _=>e} (λi σ H3 _ {_,_,_,b}=>b _ _ U Z) ?_ ?_
 .rintro i y σ H3 hy ⟨v4,rfl,h3,b⟩
  let{p,Q4,rfl,hi,E7,pM}:=i6 hy
  refine{2,l,1,kA.k (k:=Å p) h3 (by rw[AU,Ú];exact bB ()),?_};refine{1,?_,λc r e hc=>by rw[ae hc];exact b c r e hc};rw[a6,gb _ (yG _ (iT nd Q4)),pM,yz];rfl
 rintro σ H3 ⟨v4,rfl,h3,b⟩;rw[À,ë]at h3;have s3:a8 H H3:=λc r e=>b _ _ (sz _ _ e) (af e f0);have Wi:=b _ _ U Z;have Ui:∀m∈u,H3 m.2=ρ (.lst ((ik g G ss m.1).map V.str)):=λm q=>b _ _ (X m q) (Wh m q);clear b S U sz X J v h1 er;refine{1,by show 1<=sizeLine;decide,λlt C=>?_};have flt:H lt=τ:=none_of s3 C
 refine{1,n,rfl,(),(),dE (lo:=0) (n:=n.toNat) (cuA g G ss u o x d lt n H)
  {[l],l,_,τ,τ,rfl,rfl,rfl,a6,?_,a8.upd C _ _ Wi,λm q=>a8.upd C _ _ (Ui m q),s3.trans (a8.upd C)} ?_ ?_}
 .intro j t R
  cases j with
  |zero=>
   obtain rfl:l=t:=Ò R;exact a8.upd C _ _ h3
  |succ j=>simp at R
 .rintro i σ H4 hi ⟨ts,dc,v4,v6,v7,rfl,M,Yd,Wj,Y,D,NX,s4⟩;refine λdl KA=>?_;have sd:a8 H4 (upd H4 dl (.dK [])):=a8.upd KA;have hcd:=Y i dc Yd;have J:=jK d o (cN u);rw[I]at J;have nle:d≠dl:=af D KA;refine{1,d,1,.inr {o,sd _ _ D,?_}};refine mn J (λj σ H5=>∃v4,σ=[ρ (.ref x),ρ (.int n),ρ (.ref d),ρ (.ref dc),v4,ρ (.ref lt),ρ (.int (0+(i:Int))),ρ (.ref dl)]/\H5 dl=ρ (.dK (rL (λp=>.int (iD g G ss (i+1) p)) (ss.take j)))/\∀c r,H4 c=ρ r->H5 c=ρ r) {1,a6,λc r e=>sd _ _ e} (λj σ H5 _ {_,_,_,b}=>b _ _ D) ?_ ?_
  .rintro j y σ H5 hy ⟨v4,rfl,h5,b⟩
   let{p,QC,rfl,hj,E7,pM}:=i6 hy
   let{a,ha,hv}:=iG (mv:=u) (k:=p) (by rw[ek];exact E7)
   have e1:=eN.f (k:=(Å p:Key)) (b _ _ D);rw[hv]at e1;have Ye:=b _ _ (NX _ ha);have Wk:=b _ _ hcd;have el:=DA g G ss p;refine{2,d,1,e1,a,rfl,{_,aO.of Ye},λlm hlm=>?_};refine comp_map (LN (iD g G ss i)) (aT K a ((ik g G ss p).map V.str)) hlm (by rw[À];exact ak ()) (λH' s'=>aO.of (s' _ _ Ye)) (λz H6 Q' hz s6 qq=>?_) (λH6 s6 h6=>?_)
   .let{t,R,rfl}:=Æ.mp hz
    have e2:=eN.k (k:=(Å t:Key)) (s6 _ _ Wk);rw[vy _ (DU he R)]at e2;exact{2,dc,1,e2,qq H6 (a8.refl _)}
   .rw[rM]at h6;refine{lm,1,aO.of h6,?_};have h65:=s6 _ _ h5;refine{2,dl,1,kA.k (k:=Å p) h65 (by rw[AU,Ú];exact bB ()),?_};refine{1,?_,λc r e=>by rw[ae (af e KA)];exact s6 _ _ (b c r e)};rw[a6,gb _ (yG _ (iT nd QC)),pM,yz];rfl
  rintro σ H5 ⟨v4',rfl,h5,b⟩;rw[À,ë]at h5;have O:=b _ _ Wj;refine{1,.inl {rfl,_,aO.of O},1,lt,_,1,rfl,O,by rw[À];exact ę (m:=200000) () (by rw[Ē];decide),?_};have nlt:∀t,H5 t=ρ (.dK (Pj g G ss (i+1)))->t≠lt:=λt e z=>by rw[z,O]at e;cases e
  refine{1,ts++[dl],dl,_,_,1,by rw[É,M];rfl,by rw[ü (),M,Ď];rfl,by rw[a6,Ü];rfl,?_,?_,?_,?_}
  .intro j t R
   by_cases hj:j<ts.9
   .rw[ā hj]at R;have e:=b _ _ (Y j t R);rw[ae (λz=>by rw[z,O]at e;cases e)];exact e
   .have hj2:j=i+1:=by
     have:=(Ñ.mp R).1;rw[É,Ζ]at this
     lia
    subst hj2;rw[ü (),M,Ď]at R;obtain rfl:dl=t:=Ò R;rw[ae (nlt _ h5)];exact h5
  .have e:=b _ _ D;rw[ae (λz=>by rw[z,O]at e;cases e)];exact e
  .intro m q;have e:=b _ _ (NX m q)
   by_cases z:m.2=lt
   .exfalso;have f:=Ui m q;rw[z,C]at f;cases f
   .rw[ae z];exact e
  .exact λc r e=>by rw[ae (af e flt)];exact b _ _ (s4 _ _ e)
 .rintro σ H4 ⟨ts,dc,v4,v6,v7,rfl,M,Yd,Wj,Y,D,NX,s4⟩;exact{_,rfl,k lt ts H4 s4 flt Wj M Y}
theorem y2(L:Lk K mg):aR P w K mg base d4 6 L.qm L.qI ["band","place","length"] (JI L.aB):=by
 refine L.qX.F.dM (N:=["band","place","length"]) (λy A outer s H T Q E nd C h=>?_)
 let{x,p,n,g,r,ss,ls,rfl,B,u,e,f,i,j,k}:=h
 have D:=fA C
 refine{_,(a5 (bc (Fn (0) L.aK.cl L.fJ (iB L) (aH (1))))
  (a9 (aw (dC D (bp bM (ao (md L) L.j0 (a7 (0) (aH (2)))) (Nu Iy aj) (λ_ _=>rfl)) (1) (λ_ _=>rfl))))),?_}
 ac_rfl
 let{{G,b,d,q,U,I,X,Y,Z,h5,h6},_,_,_}:=id B
 refine{1,x,G,1,I,HD _ _ _ _ ∅ ∅ ∅ ∅,1,x,p,g,r,ss,ls,rfl,B,u,?_};refine{2,x,n,g,r,ss,ls,rfl,B,e,f,i,j,λl m J M f1 hl a O=>?_};obtain⟨c,t,rfl⟩:∃l t,m=l++[t]:={m.dropLast,m.getLast (by intro z;rw[z]at a;simp at a),(wdE _).symm};have R:zv ((c++[t]).map V.ref) (-1)=ρ (.ref t):=by rw[Ü];exact HQ _ _
 have o:c.9=n.toNat:=by rw[É,Ζ]at a;lia
 have S:=O n.toNat t (by rw[ü (),o,Ď];rfl);have v:=eN.k (k:=(Å p:Key)) S;rw[vy _ u]at v;exact{1,l,_,-1,1,rfl,aO.of hl,R,1,t,1,v,k J M}
theorem KJ(L:Lk K mg):aR P w K mg base d4 7 L.F9 L.Fb ["band","length"] (My L.aB):=by
 refine L.Fd.F.dM (N:=["band","length"]) (λf A outer s H j Q E nd l h=>?_)
 let{x,n,g,e,ss,ls,rfl,B,a,b,c,d,k}:=h
 refine{_,(a9 (aw (ao (y2 L) L.qX (a7 (0) (a7 cI (aH (1))))))),?_}
 ac_rfl
 have i:("":Str)∈ss:=B.pm.mem_iff.mpr (cx e);exact{2,x,"",n,g,e,ss,ls,rfl,B,i,a,b,c,d,k}
theorem Hr(L:Lk K mg):aR P w K mg base d4 6 L.BU L.BX ["band","many","wide","most"] (Gr L.aB):=by
 have T:=L.T;refine L.C3.F.dM (N:=["band","many","wide","most","table","rows_of_data","length"]) (λhU A outer s H vs Q E nd hr h=>?_)
 let{x,many,wide,most,g,m,ss,ls,rfl,B,q,D,r,Yg,hm1,Z}:=h
 have k1:∀k:Nat,1<=k->(k:Int)<=most->iD g m ss (k*wide.toNat) "" < many^k->(∀j:Nat,1<=j->j<k->¬iD g m ss (j*wide.toNat) "" < many^j)->∀f,a8 H f->Q (.int (k:Nat)) f:=λk a b c d f G=>Z _ f G (.some k a b c d);have k2:(∀j:Nat,1<=j->(j:Int)<=most->¬iD g m ss (j*wide.toNat) "" < many^j)->∀f,a8 H f->Q .non f:=λa f G=>Z _ f G (.none a);have hu:=fA hr
 refine{_,(a5 (bc (ao (hO L) L.gy (a7 (0) (a7 (1) (aH (2))))))
  (a5 (ai (i:=4) (ao (md L) L.j0 (a7 (0) (aH (aA fo (3) (2))))))
  (a5 (ai (i:=5) aj)
  (a5 (forA (rN rfl T.range (a7 aj (aH (aA bZ (3) aj)))) (ay (i:=6)) (a5 (vn (i:=5) nd rfl (ğ rfl) (1) IA)
  (a9 (b7 (cC lC (dC hu (bp bM (4) (aA fo (6) (2)) (λ_ _=>rfl)) cI (λ_ _=>rfl)) (5)) (a9 (aw (6))) aJ))))
  (a9 (aw eO)))))),?_}
 ac_rfl
 have he:("":Str)∈ss:=B.pm.mem_iff.mpr (cx m)
 let{ha,hb,hc,hd,_}:=id r
 obtain⟨e,t⟩:∃w:Nat,wide=(w:Int):={wide.toNat,()};obtain⟨u,I⟩:∃w:Nat,most=(w:Int):={most.toNat,()};have o:most*wide=((u*e:Nat):Int):=by rw[t,I,ą]
 have bmw:u*e<=600:=by
  have p:u<=100:=();have h2:e<=6:=();exact Í (Ĕ p h2) ⋯
 have ew:wide.toNat=e:=();rw[ew]at k1 k2;refine{3,x,many,wide,g,m,ss,ls,rfl,B,q,r,?_};refine{3,_,1,rfl,.inl {(),()},x,most*wide,g,m,ss,ls,rfl,B,q,D,by rw[o];lia,by rw[o];lia,λl J M s1 f1 hl O ht=>?_};rw[o,ç]at O;refine⟨_,rfl,_,_,rfl,rfl,1,most+1,rfl,{(),(),(),()},dE (lo:=1) (n:=(most+1-1).toNat) (λi σ R=>R=M/\(∃v6,σ=[ρ (.ref x),ρ (.int many),ρ (.int wide),ρ (.int most),ρ (.ref l),ρ (.int (many^i)),v6])/\∀j:Nat,1<=j->j<=i->¬iD g m ss (j*e) "" < many^j) {rfl,{τ,by rw[Int.pow_zero];rfl},λj p h2=>()} ?_ ?_⟩
 .rintro i σ R hi ⟨S,⟨v6,rfl⟩,lo⟩;rw[S];have U:i+1<=u:=();have Yh:(i+1)*e<=u*e:=weZ _ U;have v:(i+1)*e<J.9:=();have e1:(J.map V.ref)[(i+1)*e]?=ρ (.ref J[(i+1)*e]):=by rw[Ç,Ã v];rfl
  have y:=bL e1;have ei:((((i+1)*e:Nat)):Int)=(1+(i:Int))*wide:=by rw[t,ą,Ō,Int.add_comm];rfl
  rw[ei]at y;have X:=ht _ _ (Ã v);have e3:=eN.k (k:=(Å "":Key)) X;rw[vy _ he]at e3;refine{2,_,1,rfl,.inr {(),()},?_};refine{3,_,1,rfl,.inr {(),()},l,_,_,1,rfl,aO.of hl,y,_,1,e3,1,_,1,rfl,1,?_};refine uo (λp=>?_) (λp=>{rfl,{_,by rw[wg1];rfl},λj C q2=>?_})
  .have Y:=of_decide_eq_true p;have:=k1 (i+1) () () (by rw[wg1];exact Y) (λj C q2=>lo j C ()) M s1;rw[show (((i+1:Nat):Nat):Int)=1+(i:Int) by lia]at this;exact{_,rfl,this}
  .by_cases hj:j<=i
   .exact lo j C hj
   .obtain rfl:j=i+1:=();rw[wg1];exact λz=>p (decide_eq_true z)
 .rintro σ R ⟨S,⟨v6,rfl⟩,lo⟩;rw[S];exact k2 (λj C q2=>lo j C ()) M s1
theorem xC(L:Lk K mg):aR P w K mg base d4 3 L.oi L.oz ["band","rows"] (JG L.aB):=by
 refine L.oH.F.dM (N:=["band","rows","longer","word","place","sign","end"]) (λhU A outer s H vs Q E nd hr h=>?_)
 let{x,l,rs,m,g,n,ss,ls,rfl,B,R,hq,NW,Fo,k}:=h
 refine{_,(a5 (ai (i:=2) (bI fG))
  (a5 (forA (aS (1)) (eE rfl (aQ (ay (i:=3)) (aQ (ay (i:=4)) d1))) (a9 (forA (zS (az (0) rfl)) (ay (i:=5)) (a5 (ai (i:=6) (Fn (0) L.aK.cl L.pf (um L) (a7 (4) (aH (5)))))
  (a9 (b7 (cC zG (6) eO) (a9 (bc (ja ė ħ İ d8 (2) (aH (eD (a7 (aA cV (3) (5)) (aH (6)))))))) aJ))))))
  (a9 (aw (2))))),?_}
 ac_rfl
 refine{Û _,λu v=>?_};have s0:a8 H (upd H u (.lst [])):=a8.upd v;refine{1,l,rfl,{_,aO.of (s0 _ _ R.l)},di (K:=K) (a:=l) (xs:=rs.map V.ref) (λi σ J=>∃(v3 v4 z v6:Option V) (f:List Addr),σ=[ρ (.ref x),ρ (.ref l),ρ (.ref u),v3,v4,z,v6]/\a8 H J/\eQ J u f (gi g n ss (m.take i))) {τ,τ,τ,τ,[],rfl,s0,{a6,b8.nil _}} (λi σ J _ {_,_,_,_,_,_,C,_}=>aO.of (C _ _ R.l)) ?_ ?_}
 .rintro i y σ J D ⟨v3,v4,z,v6,f,rfl,C,R2⟩;rw[Ç]at D
  obtain⟨r,O,rfl⟩:∃r,rs[i]?=ρ r/\y=.ref r:=by
   cases q:rs[i]? with
   |none=>rw[q]at D;cases D
   |some r=>rw[q]at D;exact{r,rfl,(Ò D).symm}
  have S:i<m.9:=by have:=(Ñ.mp O).1;rw[R.len]at this;exact this
  have T:m[i]?=ρ m[i]:=Ã S
  let{U,X}:=hq m[i] (ñ S)
  have hT:=R.t.2 i r (mz m[i]) O (by rw[Ç,T];rfl);have pM:m.take (i+1)=m.take i++[m[i]]:=by rw[ý,T];rfl
  have G:gi g n ss (m.take (i+1))=gi g n ss (m.take i)++sq g n ss m[i]:=by
   delta gi;rw[pM,wf7];simp
  have NY:(gi g n ss (m.take i)).9<=1000:=by
   have h1:=tj g n ss (m.take i);have h2:(m.take i).9<=100:=by rw[Ú];lia
   exact Í h1 (Ĕ h2 Fo)
  generalize m[i]=q at U X hT G
  let{w,p}:=q
  generalize gi g n ss (m.take i)=M at R2 G NY;refine{r,1,gM.of (C _ _ hT),rfl,_,1,_,1,rfl,?_};have B2:=B.same C
  let{{dx,b,d,qq,mv,h1,h2,h3,h4,h5,h6},pm,_,_}:=id B2
  refine{1,x,L.aB,dx,_,1,h1,L.aK.cl,L.aK.q8,kJ g b d qq,g,rfl,mn (pH g) (λj σ Y=>∃(z v6:Option V) (f:List Addr),σ=[ρ (.ref x),ρ (.ref l),ρ (.ref u),ρ (.str w),ρ (.str p),z,v6]/\a8 H Y/\eQ Y u f (M++((ch g).take j).filterMap λc=>if bears n (p++{#[c]})=true then τ else ρ (w++{#[c]},lend ss (p++{#[c]})))) {_,_,f,rfl,C,by rw[Κ,List.filterMap_nil,û];exact R2} (λ_ _ _ _ _=>trivial) ?_ ?_}
  .rintro j y σ Y D ⟨z,v6,f,rfl,Z,R3⟩
   let{c,hci,rfl,hj,hcg,SX}:=Gn D
   have B3:=B.same Z
   let{{dx3,_,_,_,_,hx3,_},_}:=id B3
   refine{1,x,dx3,1,hx3,HD _ _ _ _ ∅ ∅ ∅ ∅,2,x,p,c,g,n,ss,ls,rfl,B3,U,hcg,?_}
   have Uj:(M++((ch g).take j).filterMap λc=>if bears n (p++{#[c]})=true then τ else ρ (w++({#[c]}:Str),lend ss (p++({#[c]}:Str)))).length<=1010:=by
    have:=wef (λc=>if bears n (p++{#[c]})=true then τ else ρ (w++({#[c]}:Str),lend ss (p++({#[c]}:Str)))) ((ch g).take j);rw[Ú,aP]at this;rw[É]
    lia
   refine{1,rfl,1,?_};rw[SX,wgM,<-ø];generalize (M++((ch g).take j).filterMap λc=>if bears n (p++{#[c]})=true then τ else ρ (w++({#[c]}:Str),lend ss (p++({#[c]}:Str))))=M2 at R3 Uj
   cases hb:bears n (p++⟨#[c]⟩) with
   |true=>
    have e:uR n ss p c=.non:=by unfold uR;rw[hb];rfl
    rw[e];refine bo {_,_,f,rfl,Z,?_}
    have e2:([c].filterMap λc=>if bears n (p++{#[c]})=true then τ else ρ (w++({#[c]}:Str),lend ss (p++({#[c]}:Str))))=[]:=by
     rw[Ĥ,hb];rfl
    rw[e2,û];exact R3
   |false=>
    have e:uR n ss p c=.str (lend ss (p++{#[c]})):=by unfold uR;rw[hb];rfl
    rw[e]
    have e2:([c].filterMap λc=>if bears n (p++{#[c]})=true then τ else ρ (w++({#[c]}:Str),lend ss (p++({#[c]}:Str))))=[(w++{#[c]},lend ss (p++{#[c]}))]:=by
     rw[Ĥ,hb];rfl
    rw[e2];have Am:=R3.len;have zbC:w.9<=100:=X;refine cU {1,.inl {rfl,_,aO.of R3.l},2,_,1,rfl,ak (by show w.9+1<=_;lia),1,by show 2<=sizeLine;decide,λr' I=>?_};refine{u,_,1,rfl,a8.upd I _ _ R3.l,by rw[À,Am];exact ę Uj (by rw[Ē];decide),?_};have key:=R3.push I (w++{#[c]},lend ss (p++{#[c]}))
    have sk:a8 H (upd (upd Y r' (.tup [.str (w++{#[c]}),.str (lend ss (p++{#[c]}))])) u (.lst (f.map V.ref++[.ref r']))):=λa o ea=>by
     rw[ae (af ea v)];exact a8.upd I _ _ (Z _ _ ea)
    unfold mz at key;generalize lend ss (p++{#[c]})=le at key sk ⊢;refine{ρ (.str {#[c]}),ρ (.str le),f++[r'],?_,?_,?_}
    .rfl
    .exact sk
    .exact key
  .rintro σ Y ⟨z,v6,f,rfl,Z,R3⟩;refine{_,_,_,_,f,rfl,Z,?_};have:(fm g).9=(ch g).9:=by unfold fm;rw[À]
   rw[this,ë]at R3;rw[G];exact R3
 .rintro σ J ⟨v3,v4,z,v6,f,rfl,C,R2⟩;rw[À,R.len,ë]at R2;exact{_,rfl,k u f J C v R2}
theorem nF(L:Lk K mg):aR P w K mg base d4 4 L.oj L.oA ["band","place","wide"] (JH L.aB):=by
 have T:=L.T;refine L.jB.F.dM (N:=["band","place","wide","rows","step","live"]) (λhU A outer s H vs Q E nd hr h=>?_)
 let{x,p,n,g,a,ss,ls,rfl,B,hp,j,hn,Fp,J,k}:=h
 refine{_,(a5 (bc (Fn (0) L.aK.cl L.jo (pw L) (aH (1))))
  (a5 (ai (i:=3) (bI (aH (eD (a7 cI (aH (1)))))))
  (a5 (forA (cR rfl T.range (aH (2))) (ay (i:=4)) (a9 (ai (i:=3) (ao (xC L) L.oH (a7 (0) (aH (3)))))))
  (a5 (ai (i:=5) (gH (0) L.aK.cl L.jq (lB L)))
  (a9 (aw (gp rfl (ax ["live"] [5]) (ax ["live"] [5]) ⋯ (aS (3)) (λ_ _ _ _ _ _=>hF (g7 (iO (K:=K) rfl) (1) (2) rfl)) (λ_ _ _ _ _ _=>(eD (a7 (0) (aH (1)))))))))))),?_}
 ac_rfl
 have he:("":Str)∈ss:=B.pm.mem_iff.mpr (cx a);have M:p∈ss:=B.lv.sub.subset hp
 let{{dx,b,d,q,mv,m,z,h3,h4,h5,h6},pm,_,_}:=id B
 refine{1,x,dx,1,m,HD _ _ _ _ ∅ ∅ ∅ ∅,1,x,p,g,a,ss,ls,rfl,B,hp,?_};refine{1,by show 2<=sizeLine;decide,λe O=>{by show 1<=sizeLine;decide,λC o=>?_}}
 have R0:eQ (upd (upd H e (.tup [.str "",.str p])) C (.lst [.ref e])) C [e] (wj g a ss p 0):=by
  refine{a6,rfl,λi r xs m z=>?_}
  match i,m,z with
  |0,m,z=>
   cases m;cases z;exact a8.upd o _ _ a6
 have s0:a8 H (upd (upd H e (.tup [.str "",.str p])) C (.lst [.ref e])):=(a8.upd O).trans (a8.upd o);refine{1,(n:Int),rfl,(),(),?_};rw[ç];refine dE (lo:=0) (n:=n) (λi σ D=>∃(l:Addr) (u:List Addr) (v4:Option V),σ=[ρ (.ref x),ρ (.str p),ρ (.int (n:Int)),ρ (.ref l),v4,τ]/\a8 H D/\eQ D l u (wj g a ss p i)) {C,[e],τ,rfl,s0,R0} ?_ ?_
 .rintro i σ D hi ⟨l,u,v4,rfl,f,R2⟩;have c:(wj g a ss p i).9<=100:=Í (pX g a ss p i) (Í (wgY () ()) j);refine{2,x,l,u,_,g,a,ss,ls,rfl,B.same f,R2,λr hr=>?_,c,J,λl' R H3 v f3 R3=>{l',R,_,rfl,f.trans v,R3}}
  let{a1,a2}:=wF he M i r hr
  exact{a1,()}
 .rintro σ D ⟨l,u,v4,rfl,f,R2⟩;have B2:=B.same f
  let{{S,_,_,_,_,U,_},_}:=id B2
  refine{1,x,S,1,U,HD _ _ _ _ ∅ ∅ ∅ ∅,x,g,a,ss,ls,rfl,B2,λlv H3 v f3 X=>?_};have R3:=R2.same v;have c:(wj g a ss p n).9<=100:=Í (pX g a ss p n) j;have Am:=R3.len;refine{1,l,rfl,{_,aO.of R3.l},λlr y=>?_};refine GQ (prs:=(wj g a ss p n).map pR) (λq=>pO q.2 (ls.map V.str)) jG (aT K l (u.map V.ref)) (by rw[EH];exact R3.t) y (ak ()) (λH' s'=>aO.of (s' _ _ R3.l)) (λqv G Q' hq I Y=>?_) (λqv G Q' hq _ I Y=>?_) (λys G I Z t4=>?_)
  .let{q',1}:=Æ.mp hq
   exact{2,lv,1,.inl (aO.of (I _ _ X)),rfl,fL _,1,Y G (a8.refl _)}
  .exact{2,by show 2<=sizeLine;decide,λr' Wl=>Y r' _ (a8.upd Wl) a6}
  .rw[Bb]at t4;exact k lr ys G ((f.trans v).trans I) (none_of (f.trans v) y) ⟨Z,t4⟩
theorem y3(L:Lk K mg):aR P w K mg base d4 5 L.qo L.qJ ["band","wide"] (BA L.aB):=by
 refine L.qY.F.dM (N:=["band","wide","ends","place"]) (λhU A outer s H vs Q E nd hr h=>?_)
 let{x,n,g,J,ss,ls,rfl,B,Le,hn,Fp,Fo,Fl,k}:=h
 have hu:=fA hr
 refine{_,(a5 (ai (i:=2) dF)
  (a5 (forA (aS (gH (0) L.aK.cl L.jq (lB L))) (ay (i:=3)) (a9 (eI hu (2) (3) (gp rfl (ax [] []) (ax [] []) ⋯ (aS (ao (nF L) L.jB (a7 (0) (a7 (3) (aH (1)))))) (λ_ _ _ _ _ _=>bf) (λ_ _ _ _ _ _=>(1))) rfl)))
  (a9 (aw (2))))),?_}
 ac_rfl
 refine λu v=>?_;have Y:a8 H (upd H u (.dK [])):=a8.upd v;have B0:=B.same Y
 let{{dx,b,d,q,mv,h1,h2,h3,h4,h5,h6},pm,_,_}:=id B0
 refine{1,x,dx,1,h1,HD _ _ _ _ ∅ ∅ ∅ ∅,x,g,J,ss,ls,rfl,B0,λlp Z R f1 S=>?_};have Uc:lp≠u:=λz=>by rw[z,a6]at f1;cases f1
 have nd:ls.Nodup:=B.nd.sublist B.lv.sub;have DT:ls.9<=900:=Í B.lv.sub.length_le Fl
 refine{lp,rfl,{_,aO.of S},di (K:=K) (a:=lp) (xs:=ls.map V.str) (λi σ H2=>∃v3 r,σ=[ρ (.ref x),ρ (.int (n:Int)),ρ (.ref u),v3]/\H2 u=ρ (.dK (cN r))/\r.map (·.1)=ls.take i/\(∀m∈r,H2 m.2=ρ (.lst (((aX g J ss ls n m.1).map (·.2)).map V.str)))/\(∀m∈r,Z m.2=τ)/\(∀c o,Z c=ρ o->c≠u->H2 c=ρ o))
  {τ,[],rfl,R _ _ a6,rfl,λm C=>(nomatch C),λm C=>(nomatch C),λc o e _=>e} (λi σ H2 _ {_,_,_,_,_,_,_,M}=>aO.of (M _ _ S Uc)) ?_ ?_}
 .rintro i y σ H5 hy ⟨v3,r,rfl,D,f,j,G,M⟩
  let{p,Q4,rfl,hi,E7,pM}:=i6 hy
  have We:a8 H H5:=λc o e=>M _ _ (R _ _ (Y _ _ e)) (af e v);refine{3,x,p,n,g,J,ss,ls,rfl,B.same We,E7,Le,hn,Fp,Fo,λlb rs H6 s6 f6 R6=>?_};have Ue:=gR g J ss ls n p;have Am:=R6.len;refine{lb,rfl,{_,aO.of R6.l},λe he=>?_};refine pd (prs:=(aX g J ss ls n p).map pR) (λ_=>true) (λq=>q.2) (aT K lb (rs.map V.ref)) (by rw[EH];exact R6.t) he (ak ()) (λH' s'=>aO.of (s' _ _ R6.l)) (λq H7 Q' _ _ qq=>qq H7 (a8.refl _)) (λq H7 Q' _ _ _ qq=>{1,qq H7 (a8.refl _)}) (λH7 s7 h7=>?_)
  have e7:(((aX g J ss ls n p).map pR).filter λ_=>true).map (λq=>q.2)=((aX g J ss ls n p).map (·.2)).map V.str:=by
   rw[ĝ.mpr (λ_ _=>rfl),Î,Î];rfl
  rw[e7]at h7;have O:=s6.trans s7;have d6:=O _ _ D;have I:H5 e=τ:=none_of s6 he;have T:p∉r.map (·.1):=by rw[f];exact iT nd Q4
  have Wf:r.9<=900:=by have:=congrArg γ f;rw[À,Ú]at this;lia
  refine{2,u,1,kA.k (k:=Å p) d6 (by unfold cN;rw[À];exact bB ()),?_};have U:e≠u:=λz=>by rw[z,D]at I;cases I
  have e1:Z e=τ:=by
   cases q:Z e with
   |none=>rfl
   |some o=>
    have:=M _ _ q U;rw[this]at I;cases I
  refine{_,r++[(p,e)],rfl,?_,?_,?_,?_,?_}
  .rw[a6,gb _ (oV T)];unfold cN;rw[Ü];rfl
  .rw[Ü,f,pM];rfl
  .intro m C;rcases ä.mp C with z |z
   .have nm:m.2≠u:=λq=>by
     have:=G m z;rw[q,R _ _ a6]at this;cases this
    rw[ae nm];exact O _ _ (j m z)
   .have:m=(p,e):=by simpa using z
    subst this;rw[ae U];exact h7
  .intro m C;rcases ä.mp C with z |z
   .exact G m z
   .have:m=(p,e):=by simpa using z
    subst this;exact e1
  .intro c o hc X;rw[ae X];exact O _ _ (M c o hc X)
 .rintro σ H5 ⟨v3,r,rfl,D,f,j,G,M⟩;rw[À,ë]at f;exact{1,k u r H5 (λc o e=>M _ _ (R _ _ (Y _ _ e)) (af e v)) v D f j λm C=>none_of Y (none_of R (G m C))}
theorem Ca(L:Lk K mg):aR P w K mg base d4 6 L.pe L.wX ["band","many","wide","most"] (Mz L.aB):=by
 refine L.xa.F.dM (N:=["band","many","wide","most","ends","weights","place","lower"]) (λhU A outer s H vs Q E nd hr h=>?_)
 let{x,many,n,most,g,v,ss,ls,rfl,B,Fp,U,X,Y,Yg,k}:=h
 have hu:=fA hr;have SJ:(A.deeper (wda "greatest" (aL (top 54)) s.heap.objs.size L.pe hU)).units<ò:=hr.vq
 refine{_,(a5 (bc (ao (hO L) L.gy (a7 (0) (a7 (1) (aH (2))))))
  (a5 (ai (i:=4) (ao (y3 L) L.qY (a7 (0) (aH (2)))))
  (a5 (ai (i:=5) dF)
  (a5 (forA (BQ (4)) (ay (i:=6)) (a9 (eI hu (5) (6) (3) rfl)))
  (a9 (jI wdr (bS dN) (a5 (ai (i:=7) (ao (E8 L) L.zp (a7 (4) (a7 (1) (aH (5))))))
  (a5 (b7 (cC (OH SJ) (7) (5)) (a9 (aw (5))) aJ)
  (a9 (ai (i:=5) (7))))))))))),?_}
 ac_rfl
 let{Z,rb,rc,rd,re}:=id Y
 have Le:g.length^n<=64:=by
  rw[ç]at re;have:((g.length^n:Nat):Int)<=64:=by rw[we0];exact re
  lia
 have nd:ls.Nodup:=B.nd.sublist B.lv.sub;have DT:ls.9<=900:=Í B.lv.sub.length_le X;refine{3,x,many,n,g,v,ss,ls,rfl,B,U,Y,?_};refine{2,x,n,g,v,ss,ls,rfl,B,(),(),Fp,U,X,λd G H1 s1 Wg h1 ek er ef=>?_};have hed:∀q∈G,q.2≠d:=λq hq z=>by have:=er q hq;rw[z,h1]at this;cases this
 refine λa b=>?_;have I:d≠a:=af h1 b;have Yi:(upd H1 a (.dK [])) d=ρ (.dK (cN G)):=a8.upd b _ _ h1;refine{1,d,1,.inl Yi,λo H2 h2 l=>?_};have M:H2 a=ρ (.dK []):=by rw[l a (æ I),a6]
 have s2:a8 H H2:=λc O e=>by
  rw[l c (af e Wg)];exact a8.upd b _ _ (s1 _ _ e)
 have R:∀m∈G,H2 m.2=ρ (.lst (((aX g v ss ls n m.1).map (·.2)).map V.str)):=λm r=>by
  rw[l _ (hed m r)];exact a8.upd b _ _ (er m r)
 have t:H a=τ:=none_of s1 b;have J:=jK d o (cN G);rw[iJ,ek]at J;refine mn J (λj σ u=>∃(v6:Option V),σ=[ρ (.ref x),ρ (.int many),ρ (.int (n:Int)),ρ (.int most),ρ (.ref d),ρ (.ref a),v6,τ]/\u a=ρ (.dK (bK (cF (λ_=>most) (ls.take j))))/\∀c O,H2 c=ρ O->c≠a->u c=ρ O) {τ,rfl,M,λc O e _=>e} (λj σ u _ {_,_,_,C}=>C _ _ h2 I) ?_ ?_
 .rintro j y σ u hy ⟨v6,rfl,h3,C⟩
  let{p,QC,rfl,hj,E7,pM}:=i6 hy
  have KC:p∉(cF (λ_=>most) (ls.take j)).map (·.1):=by rw[rZ];exact iT nd QC
  refine{3,a,1,kA.k (k:=Å p) h3 (by rw[jL];delta cF;rw[À,Ú];exact bB ()),?_};refine{1,?_,λc O e hc=>by rw[ae hc];exact C c O e hc};rw[a6,rT KC,pM];delta cF;rw[Ü];rfl
 rintro σ u ⟨v6,rfl,h3,C⟩;rw[À,ë]at h3;have Wi:=C _ _ h2 I;have s3:a8 H u:=λc O e=>C _ _ (s2 _ _ e) (af e t);have Q6:∀m∈G,m.2≠a:=λm r z=>by have:=R m r;rw[z,M]at this;cases this
 have Ui:∀m∈G,u m.2=ρ (.lst (((aX g v ss ls n m.1).map (·.2)).map V.str)):=λm r=>C _ _ (R m r) (Q6 m r);clear C h2 M R er h1 l Yi J b
 refine{λq σ H4=>∃(a:Addr) (f:Str->Int) (v6 v7:Option V),q=(ls.map λp=>(f p).toNat).sum/\σ=[ρ (.ref x),ρ (.int many),ρ (.int (n:Int)),ρ (.int most),ρ (.ref d),ρ (.ref a),v6,v7]/\a8 u H4/\H a=τ/\H4 a=ρ (.dK (bK (cF f ls)))/\(∀p∈ls,0<=f p)/\(∀p∈ls,f p<=most)/\(∀h:Str->Int,(∀p∈ls,h p<=most)->HE g v ss ls many n h->∀p∈ls,h p<=f p),
  {_,a,λ_=>most,v6,τ,rfl,rfl,a8.refl _,t,h3,λ_ _=>Yg,λ_ _=>θ _,λh hh _ p hp=>hh p hp},?_}
 rintro q σ H4 ⟨a,f,v6,v7,rfl,rfl,s4,t,h4,S,Yj,Yk⟩;refine{true,rfl,cU ?_};refine{λσ' H'=>∃(dl:Addr) (v6 v7:Option V),σ'=[ρ (.ref x),ρ (.int many),ρ (.int (n:Int)),ρ (.int most),ρ (.ref d),ρ (.ref dl),v6,v7]/\a8 u H'/\H dl=τ/\H' dl=ρ (.dK (bK (cF (mG g v ss ls many n f) ls)))/\¬∀p∈ls,mG g v ss ls many n f p=f p,?_,?_}
 .rintro σ' H' ⟨dl,v6,v7,rfl,s',T,h',Dc⟩;exact{_,P0 Z S Dc,dl,_,_,1,rfl,s',T,h',Jn Z S,λp hp=>χ (Jm many n f p) (Yj p hp),λh hh D=>FZ Z D (Yk h hh D)}
 .refine{3,d,a,many,n,o,G,f,g,v,ss,ls,rfl,s4 _ _ Wi,ek,λm r=>s4 _ _ (Ui m r),(),nd,DT,Z,rb,.inl h4,λdl H5 s5 T h5=>?_};have Yl:=s5 _ _ h4;refine{2,dl,a,_,1,rfl,.inl h5,.inl Yl,vM _,vM _,1,?_};refine uo (λhe=>?_) (λhe=>?_)
  .have e:=NP.mp he;exact{1,k a f H5 ((s3.trans s4).trans s5) t Yl {S,Yj,Mi Z e,Yk}}
  .exact{1,dl,_,1,s4.trans s5,none_of s3 (none_of s4 T),h5,λe=>he (NP.mpr e)}
theorem nG(L:Lk K mg):aR P w K mg base d4 5 L.om L.oB ["band","many","wide","weights"] (MC K L.aB L.aD):=by
 refine L.jC.F.dM (N:=["band","many","wide","weights","homes","lines","place","blocks"]) (λhU A outer s H vs Q E nd hr h=>?_)
 let{x,d,many,n,m,f,g,u,ss,ls,rfl,B,Fp,Fo,Fl,KL,hd,hw,k}:=h
 have hu:=fA hr
 refine{_,(a5 (bc (ao (hO L) L.gy (a7 (0) (a7 (1) (aH (2))))))
  (a5 (ai (i:=4) (cK rfl (ax ["weights"] [3]) (aS (gH (0) L.aK.cl L.jq (lB L))) (λ_ _ _ _ _ _=>hF (cC nY (dC hu (1) (0) (λ_ _=>rfl)) aj)) (λ_ _ _ _ _ _=>(0))))
  (a5 (ai (i:=5) (bI fG))
  (a5 (forA (aS (4)) (ay (i:=6)) (a5 (ai (i:=7) (ao (nF L) L.jB (a7 (0) (a7 (6) (aH (2))))))
  (a9 (bc (ja ė ħ İ d8 (5) (aH (gp rfl (ax ["homes"] [4]) (ax ["homes"] [4]) ⋯ (aS (7)) (λ_ _ _ _ _ _=>hF (g7 (iO (K:=K) rfl) (1) (2) rfl)) (λ_ _ _ _ _ _=>(eD (a7 (0) (aH (Kf (K:=K) rfl ė wdf wg9 (Hn (K:=K) rfl) (2) (aH (1))))))))))))))
  (a9 (aw (nN L.xf (gE L) (hr.mono ⋯) rfl L.Aj L.fb.b .nil pJ (a7 (4) (a7 (cK rfl (ax ["weights"] [3]) (aS (4)) (λ_ _ _ _ _ _=>bf) (λ_ _ _ _ _ _=>(dC hu (1) (0) (λ_ _=>rfl)))) (aH (5))))))))))),?_}
 ac_rfl
 let{ra,rb,rc,rd,re}:=id KL
 have Le:g.length^n<=64:=by
  rw[ç]at re;have:((g.length^n:Nat):Int)<=64:=by rw[we0];exact re
  lia
 have DT:ls.9<=900:=Í B.lv.sub.length_le Fl;refine{3,x,many,n,g,u,ss,ls,rfl,B,Fo,KL,?_}
 let{{dx,b,d0,q,mv,h1,h2,h3,h4,h5,h6},pm,_,_}:=id B
 refine{1,x,dx,1,h1,HD _ _ _ _ ∅ ∅ ∅ ∅,x,g,u,ss,ls,rfl,B,λlv H1 s1 f1 hv=>?_};refine{lv,rfl,{_,aO.of hv},λS QD=>?_};refine et (λv=>match v with |.str p=>decide (0<f p) |_=>false) (λv=>v) (aT K lv (ls.map V.str)) QD (by rw[À];exact ak ()) (λH' s'=>aO.of (s' _ _ hv)) (λz J Q' hz s2 Y=>?_) (λz J Q' hz _ s2 Y=>{1,Y J (a8.refl _)}) (λJ s2 hh=>?_)
 .let{p,hp,rfl}:=Æ.mp hz
  have g3:=eN.rd (k:=(Å p:Key)) (hd.same (s1.trans s2));rw[eZ,hw p hp]at g3;have q2:Q' (decide (0<f p)) J:=Y J (a8.refl _);exact{2,d,1,g3,_,1,rfl,1,q2}
 have ehs:((ls.map V.str).filter (λv=>match v with |.str p=>decide (0<f p) |_=>false)).map (λv=>v)=(av ls f).map V.str:=by
  rw[Θ,wf2];rfl
 rw[ehs]at hh;have Ym:(av ls f).9<=900:=Í (Ħ _ _) DT;have SY:∀p∈av ls f,p∈ls:=λp hp=>(ß.mp hp).1;have QE:=s1.trans s2;refine{Û _,λC D=>?_};have sb:a8 J (upd J C (.lst [])):=a8.upd D;have Z:(upd J C _) C=ρ (.lst []):=a6;generalize upd J C _=Hb at sb Z;have nhl:S≠C:=af hh D
 refine{1,S,rfl,{_,aO.of (sb _ _ hh)},di (K:=K) (a:=S) (xs:=(av ls f).map V.str) (λj σ H3=>∃(v6 v7:Option V) (as:List V),σ=[ρ (.ref x),ρ (.int many),ρ (.int (n:Int)),ρ (.ref d),ρ (.ref S),ρ (.ref C),v6,v7]/\H3 C=ρ (.lst as)/\(∀c o,Hb c=ρ o->c≠C->H3 c=ρ o)/\bz K (aM Hb H3) (((av ls f).take j).map λp=>cj (gT g u ss ls n (av ls f) p)) as)
  {τ,τ,[],rfl,Z,λc o e _=>e,rfl} (λj σ H3 _ {_,_,_,_,_,kk,_}=>aO.of (kk _ _ (sb _ _ hh) nhl)) ?_ ?_}
 .rintro j y σ H3 hy ⟨v6,v7,as,rfl,Wm,kk,hR⟩
  let{p,QC,rfl,hj,E7,pM}:=i6 hy
  have M:a8 J H3:=λc o e=>kk _ _ (sb _ _ e) (af e D);have B3:=B.same (QE.trans M);refine{3,x,p,n,g,u,ss,ls,rfl,B3,SY p E7,(),(),Fp,Fo,λlb rb T G f4 R4=>?_};have I:=G _ _ Wm;have Ue:=gR g u ss ls n p
  have Yb:as.9=j:=by
   rw[hR.len,À,Ú]
   lia
  refine{1,.inl {rfl,_,aO.of I},1,lb,rfl,{_,aO.of R4.l},λlc Q7=>?_};have O:T S=ρ (.lst ((av ls f).map V.str)):=G _ _ (M _ _ hh);refine jW (prs:=(aX g u ss ls n p).map pR) (λq=>pO q.2 ((av ls f).map V.str)) (λq=>.tup [.at q.1,.at (.int (match q.2 with |.str e=>((av ls f).idxOf e:Nat) |_=>0))]) (aT K lb (rb.map V.ref)) (by rw[À,À,R4.len]) (λi q U=>?_) Q7 (by rw[À,R4.len];exact ak ()) (λH' s'=>aO.of (s' _ _ R4.l)) (λq R Q' U X Y=>?_) (λq R Q' U hp5 X Y=>?_) (λR X r5=>?_)
  .have hi:i<rb.9:=by have:=(Ñ.mp U).1;rw[À,<-R4.len]at this;exact this
   rw[Ç]at U
   cases e:(aX g u ss ls n p)[i]? with
   |none=>rw[e]at U;cases U
   |some z=>
    rw[e]at U;cases U;refine{rb[i],by rw[Ç,Ã hi];rfl,gM.of (R4.t.2 i rb[i] (mz z) (Ã hi) (by rw[Ç,e];rfl))}
  .let{z,hz,rfl}:=Æ.mp U
   exact{2,S,1,.inl (aO.of (X _ _ O)),rfl,fL _,1,Y R (a8.refl _)}
  .let{z,hz,rfl}:=Æ.mp U
   have hm:z.2∈av ls f:=by
    have:pO (.str z.2) ((av ls f).map V.str)=true:=hp5;rw[jJ]at this;exact of_decide_eq_true this
   let{i1,i2}:=nR hm
   refine{2,.inl {rfl,_,aO.of (X _ _ O)},1,S,av ls f,z.2,(av ls f).idxOf z.2,rfl,rfl,aO.of (X _ _ O),(),i1,i2,by show 2<=sizeLine;decide,λr hr=>?_};exact Y _ _ (a8.upd hr) (mH hr (z.1,(av ls f).idxOf z.2))
  have el:((((aX g u ss ls n p).map pR).filter λq=>pO q.2 ((av ls f).map V.str)).map λq=>kj.tup [.at q.1,.at (.int (match q.2 with |.str e=>((av ls f).idxOf e:Nat) |_=>0))])=(gT g u ss ls n (av ls f) p).map lH:=by
   delta gT;rw[wf2,Î,Î]
   have ep:((λq:V×V=>pO q.2 ((av ls f).map V.str)) ∘ pR)=λq:Str×Str=>decide (q.2∈av ls f):=by
    funext q;exact jJ q.2 _
   rw[ep];rfl
  rw[el]at r5;refine{C,_,1,rfl,X _ _ I,by rw[Yb];exact ę (show j<=900 by lia) (by rw[Ē];decide),?_};have SZ:=G.trans X;have Yn:=X _ _ I;have kp:∀c o,R c=ρ o->c≠C->(upd R C (.lst (as++[.ref lc]))) c=ρ o:=λc o e hc=>by rw[ae hc];exact e
  refine{_,_,as++[.ref lc],rfl,a6,λc o e hc=>kp _ _ (SZ _ _ (kk c o e hc)) hc,?_};rw[pM,Ü];refine iF (bz.same ((iQ SZ).trans (bV Z kp)) _ _ hR) ?_
  have old:a8 (aM T R) (aM Hb R):=λc o e=>by
   unfold aM at e ⊢
   cases q:Hb c with
   |none=>
    cases q2:T c with
    |none=>rw[q2]at e;exact e
    |some z=>rw[q2]at e;cases e
   |some z=>
    by_cases hc:c=C
    .rw[hc,I]at e;cases e
    .rw[G _ _ (kk _ _ q hc)]at e;cases e
  exact bN.same (old.trans (bV Z kp)) _ _ r5
 .rintro σ H3 ⟨v6,v7,as,rfl,Wm,kk,hR⟩;rw[À,ë]at hR;have M:a8 J H3:=λc o e=>kk _ _ (sb _ _ e) (af e D);have Au:=QE.trans M;have Wn:=M _ _ hh;refine{2,S,rfl,{_,aO.of Wn},λlw Q8=>?_};refine comp_map (LN f) (aT K S ((av ls f).map V.str)) Q8 (by rw[À];exact ak ()) (λH' s'=>aO.of (s' _ _ Wn)) (λz T Q' hz G Y=>?_) (λT G T1=>?_)
  .let{p,hp,rfl}:=Æ.mp hz
   have g3:=eN.rd (k:=(Å p:Key)) (hd.same (Au.trans G));rw[eZ,hw p (SY p hp)]at g3;exact{2,d,1,g3,Y T (a8.refl _)}
  rw[rM]at T1;have I:=G _ _ Wm;have h4h:=G _ _ Wn;refine{1,λy dy ny Wo ney=>?_};have sm:a8 T (upd (upd T dy (.own y)) y (.ins L.aD dy [])):=fP ny Wo;refine{y,dy,.ref S,.ref lw,.ref C,av ls f,(av ls f).map f,bF g u ss ls n (av ls f),rfl,a6,qa (sm _ _ h4h),jS (sm _ _ T1),?_,(),by rw[À];lia,by unfold bF;rw[À];lia,?_,λa' b' c' R Wq r1 r2 r3 kp5=>{rfl,?_}}
  .have hR4:bz K T ((av ls f).map λp=>cj (gT g u ss ls n (av ls f) p)) as:=bz.same ((ck _ _).trans G) _ _ hR;refine{C,as,rfl,.inl (sm _ _ I),?_}
   have e:(bF g u ss ls n (av ls f)).map cj=(av ls f).map λp=>cj (gT g u ss ls n (av ls f) p):=by
    unfold bF;rw[Î];rfl
   rw[e];exact bz.same sm _ _ hR4
  .intro l hl
   let{p,1}:=Æ.mp hl
   have:=Dx g u ss ls n (av ls f) p
   lia
  .have X:a8 T R:=λc o e=>kp5 _ _ (sm _ _ e) (af e ny);refine k y R (Au.trans (G.trans X)) ?_;have Ws:H y=τ:=none_of (Au.trans G) ny;have nw:=λ(d:kj) (v:V) (r:bN K (aM _ R) d v)=>bN.same (f9 ((Au.trans G).trans sm)) d v r;exact{dy,a',b',c',cg Ws Wq,nw _ _ r1,nw _ _ r2,nw _ _ r3}
theorem sI(L:Lk K mg):aR P w K mg base d4 2 L.lJ L.lO ["writer"] (Hi K L.aq L.aB L.aW):=by
 have T:=L.T;refine L.lV.F.dM (N:=["writer","steps","desk","word","end"]) (λhU A outer s H vs Q E nd m h=>?_)
 let{x,R,rfl,I,k}:=h
 refine{_,(a5 (ai (i:=1) dF)
  (a5 (forA (cR rfl T.range (aH (gH (0) L.ag.cl L.gA (iw L)))) (ay (i:=2)) (a9 (forA (aS (Fn (0) L.ag.cl L.j3 (mc L) (aH (2)))) (eE rfl (aQ (ay (i:=3)) (aQ (ay (i:=4)) d1))) (a9 (bc (ja ė ħ İ d8 (DY (1) (3) (bI fG) ⟨rfl,rfl,rfl,rfl⟩) (aH (eD (a7 (2) (aH (4)))))))))))
  (a9 (aw (1))))),?_}
 ac_rfl
 refine λa ha=>?_;have s0:a8 H (upd H a (.dK [])):=a8.upd ha
 let{{dx,p,xb,aa,ll,dp,wa,wb,wc,wz,ys,hx,_},ok}:=id I
 have KM:=ok.l1;have m8:=ok.m8;refine{1,x,dx,1,s0 _ _ hx,qg _ _ _ _ _ _ _ _ ∅,x,R,rfl,I.same s0,?_};refine{(R.wl.9:Int),rfl,(),(),?_};rw[ç];refine dE (lo:=0) (n:=R.wl.9) (λi σ d=>i<=R.wl.9/\eK H d a (dX R.wl i)/\∃J f v4,σ=[ρ (.ref x),ρ (.ref a),J,f,v4]) {Û _,eK.start ha,τ,τ,τ,rfl} ?_ ?_
 .rintro i σ d hi ⟨_,M,J,f,v4,rfl⟩;show bR 2 (V.int (0+(i:Int))) _ _ _;rw[ŀ];refine{1,x,dx,1,M.s _ _ hx,qg _ _ _ _ _ _ _ _ ∅,1,x,R,i,rfl,I.same M.s,hi,λy t s3 r3=>?_}
  let{yb,o,rfl,hS,O}:=ez r3
  have S:=ok.w.ln _ (Ð (d9 hi));have U:=sH ok i ();have u:o.9=(R.wl.getD i []).9:=by rw[O.1,À,À]
  have MB:=M.over s3;have X:a8 (aM d t) (mC H d t):=JD;have sO:a8 H (mC H d t):=JC M.s;have c:=wm R.wl i;generalize mC H d t=B at MB X sO;generalize R.wl.getD i []=b at O S u c;refine{yb,rfl,{_,(ck _ _).seq hS},di (K:=K) (a:=yb) (xs:=o.map V.ref) (λj σ G=>eK B G a (dX R.wl i++(b.take j).map λq=>(i,q.1,q.2))/\∃f v4,σ=[ρ (.ref x),ρ (.ref a),ρ (.int (i:Int)),f,v4]) {by rw[Κ,Β,û];exact MB,f,v4,rfl} (λj σ G _ q=>(X.trans q.1.s).seq hS) ?_ ?_}
  .rintro j y σ G Y ⟨g,f,v4,rfl⟩;have hj:j<o.9:=by have:=(Ñ.mp Y).1;rwa[À]at this
   have z:j<b.9:=();rw[Ç,Ã hj]at Y;cases Y;have C:(aM d t) o[j]=ρ (.tup [.str b[j].1,.int (b[j].2:Int)]):=O.2 j o[j] (jG (eR b[j])) (Ã hj) (by rw[Ç,Ç,Ã z];rfl);have e:dX R.wl i++(b.take (j+1)).map (λq=>(i,q.1,q.2))=(dX R.wl i++(b.take j).map λq=>(i,q.1,q.2))++[(i,b[j].1,b[j].2)]:=by rw[ý,Ã z,Ü,ø];rfl
   have Z:(dX R.wl i++(b.take j).map λq=>(i,q.1,q.2)).9<=400:=by rw[É,À,Ú];lia
   generalize b[j]=q at C e;generalize dX R.wl i++(b.take j).map (λq=>(i,q.1,q.2))=done at g e Z;refine{o[j],1,gM.of (X.trans g.s _ _ C),rfl,_,1,_,1,rfl,?_}
   let{_,_,kv0,T3,_}:=id g
   refine{1,a,rfl,.inl {_,.inl T3},1,Û _,λl0 NY=>?_}
   let{D,k1,k2,k3,k4}:=g.step NY q.1 i q.2
   refine{D,Å q.1,k1,rfl,?_,λv hv=>?_,λhn=>?_}
   .have:=hZ D (Å q.1:Key) (.ref l0);exact ak ()
   .let{l,U8,rfl,a1,a2,a3}:=k3 v hv
    refine{.inl {rfl,_,aO.of a1},2,by show 2<=sizeLine;decide,λr m=>{l,_,1,rfl,a8.upd m _ _ a1,by rw[À];exact bB (),?_}};rw[e];exact{a3 r m,_,1}
   .let{a1,a3}:=k4 hn
    refine{.inl {rfl,_,aO.of a1},2,by show 2<=sizeLine;decide,λr m=>{l0,_,1,rfl,a8.upd m _ _ a1,by show 0<sizeLine;decide,?_}};rw[e];exact{a3 r m,_,1}
  .rintro σ G ⟨g,f,v4,rfl⟩;rw[À,u,ë,<-c]at g;exact{hi,g.back sO,_,_,1}
 .rintro σ d ⟨_,M,J,f,v4,rfl⟩;have U:=sH ok _ (Ä _);exact{1,k a d M.s (M.done ())}
theorem pA(L:Lk K mg):aR P w K mg base d4 3 L.gq L.jg ["self","writer"] (Hj K L.aq L.aB L.aW L.aE):=by
 refine L.jn.F.dM (N:=["self","writer"]) (λj A outer s H n Q E nd p h=>?_)
 let{z,b,x,R,rfl,l,g,k}:=h
 refine{_,(a5 (dq (0) (1) rfl)
  (a9 (dq (0) (ao (sI L) L.lV (aH (1))) rfl))),?_}
 ac_rfl
 refine{2,z,L.aE,b,[],rfl,l,L.au.cl,L.au.bu,(show 0<1000 by decide),?_};rw[Nr];have g2:(upd H z _) z=ρ (.ins L.aE b (Ep x)):=a6;have d:∀c o,H c=ρ o->c≠z->(upd H z (.ins L.aE b (Ep x))) c=ρ o:=λc o e hc=>by rw[ae hc];exact e
 generalize upd H z _=q at g2 d;refine{1,x,R,rfl,g.same (fE d),λa m f P3=>?_};refine{1,z,L.aE,b,1,f _ _ g2,L.au.cl,L.au.EZ,(show 1<1000 by decide),?_};rw[HX];have i:∀c o,H c=ρ o->c≠z->(upd m z (.ins L.aE b (Fz x a))) c=ρ o:=λc o e hc=>by rw[ae hc];exact f _ _ (d c o e hc)
 exact k _ i {b,x,a,a6,P3.put (f _ _ g2) _,g.same (fE i)}
theorem jE(L:Lk K mg):aR P w K mg base d4 2 L.fR L.fT ["self","row"] (Hk K L.aq L.aB L.aW L.aE):=by
 have T:=L.T;refine L.fV.F.dM (N:=["self","row","wide","blocks","desks","block"]) (λhU A outer s H vs Q E nd hr h=>?_)
 let{z,R,b,rfl,{dz,x,a,hz,hP,Wv},O,ul,k}:=h
 have hu:=fA hr
 refine{_,(a5 (ai (i:=2) (az (az (0) rfl) rfl))
  (a5 (dS (i:=3) rfl (ax ["row","wide"] [1,2]) nd rfl rfl (Hq rfl T.range (a7 aj (a7 (xH T.len (1)) (aH (2))))) (λ_ _ _ _ _ _=>bf) (λ_ _ _ _ _ _=>(bq fq (1) (b9 (0)) (b9 (aA bZ (0) (2))))))
  (a5 (ai (i:=4) (bx (vB rfl) (by rfl) T.list iz (aH (bx sV (by rfl) T.range A2 (aH (gH (az (0) rfl) L.ag.cl L.gA (iw L)))))))
  (a5 (forA (PR (by rfl) T.reversed (aH (3))) (ay (i:=5)) (a9 (ai (i:=4) (ao (xW L) L.qS (a7 (IQ hu (az (0) rfl) (5) (bI fG) ⟨rfl,rfl,rfl,rfl⟩) (aH (4)))))))
  (a9 (aw (4))))))),?_}
 ac_rfl
 let{{dx,p,xb,aa,ll,dp,wa,wb,wc,wz,ys,hx,_},ok}:=id Wv
 have n1:=ok.n1;have uj:=ok.uj;have l1:=ok.l1;have yC:(cat b).9=R.n*b.9:=fD O;have Q0:R.n*b.9<=10*2000:=Ĕ uj ul;refine{1,z,L.aE,dz,_,1,hz,L.au.cl,L.au.bu,aN x a,x,L.aq,dx,_,1,hx,L.ag.cl,L.ag.kZ,eT ..,?_};refine{1,cat b,rfl,ak 1.0,?_};rw[yC,ą];refine{1,(R.n:Int),b.9,rfl,1.0,1.0,by rw[<-ą];omega,1.0,λlb hlb=>?_};refine comp_map (λv=>match v with |.int i=>.str (î (cat b) (ρ i) (ρ (i+(R.n:Int)))) |_=>.non) (AH 0 (R.n:Int) b.9) hlb (by rw[À,ì];exact ak 1.0) (λ_ _=>trivial) (λv D Q' hv S q=>?_) (λD S G=>?_)
 .let{i,hi,rfl}:=Æ.mp hv
  exact{5,_,1,rfl,1,cat b,rfl,ak 1.0,q D (a8.refl _)}
 have em:((Ö b.9).map λ(i:Nat)=>V.int (0+(i:Int)*(R.n:Int))).map (λv=>match v with |.int i=>V.str (î (cat b) (ρ i) (ρ (i+(R.n:Int)))) |_=>.non)=b.map V.str:=by
  rw[Î];refine wfW (by rw[À,À,ì]) λi h1 G=>?_;rw[À]at G;rw[Ρ,Ρ,wfi];show V.str (î (cat b) (ρ (0+(i:Int)*(R.n:Int))) (ρ (0+(i:Int)*(R.n:Int)+(R.n:Int))))=_;rw[show (0:Int)+(i:Int)*(R.n:Int)=((R.n*i:Nat):Int) by rw[ŀ,ą,Œ],show ((R.n*i:Nat):Int)+(R.n:Int)=((R.n*(i+1):Nat):Int) by rw[ĩ];omega,Ah O (Ġ i) G];rw[show (b.take (i+1)).drop i=[b[i]] by rw[ý,Ã G,wcP (by rw[Ú];omega),Ş (by rw[Ú];omega)];rfl,EY]
 rw[em]at G;refine{1,z,L.aE,dz,_,1,S _ _ hz,L.au.cl,L.au.bu,aN x a,x,dx,1,S _ _ hx,eU,x,R,rfl,Wv.same S,?_};refine{1,λpg hpg=>{pg,R.wl.9,rfl,a6,ak 1.0,λU NY=>?_}};have s3:a8 D (upd (upd D pg (.rng 0 (R.wl.9:Int))) U (.lst ((Ö R.wl.9).map λi=>V.int (i:Nat)))):=(a8.upd hpg).trans (a8.upd NY);have h3:(upd (upd D pg (.rng 0 (R.wl.9:Int))) U (.lst ((Ö R.wl.9).map λi=>V.int (i:Nat)))) U=ρ (.lst ((nI (Ö R.wl.9)).map V.int)):=by rw[a6,vW]
 generalize upd (upd D pg _) U _=H3 at s3 h3;have X:=S.trans s3;have Y:=s3 _ _ G;refine{1,lb,1,aO.of Y,mn (Jv K lb (b.map V.str)) (λi σ f=>i<=b.9/\a8 H3 f/\∃l j v5,σ=[ρ (.ref z),ρ (.str (cat b)),ρ (.int (R.n:Int)),ρ (.ref lb),ρ (.ref l),v5]/\f l=ρ (.lst ((nI j).map V.int))/\(∀e:Nat,e∈j↔e<R.wl.9/\jO R.wl e (b.drop (b.9-i)))/\j.9<=1000) {Û _,a8.refl _,U,_,τ,rfl,h3,λe=>?_,by rw[ì];omega} (λi σ f _ q=>aO.of (q.2.1 _ _ Y)) ?_ ?_}
 .rw[Ą,Nat.sub_zero,wi7];exact{λh=>⟨h,trivial⟩,λh=>h.1}
 .rintro i y σ f hy ⟨_,Z,l,j,v5,rfl,h4,hd,dl⟩;have hi:i<b.9:=by have:=(Ñ.mp hy).1;rwa[ξ,À]at this
  rw[wgI (by rw[À];exact hi),À,Ç,Ã (show b.9-1-i<b.length by omega)]at hy;cases hy
  have B:b.drop (b.9-(i+1))=b[b.9-1-i]::b.drop (b.9-i):=by
   refine(congrArg (b.drop ·) (show b.9-(i+1)=b.9-1-i by omega)).trans ?_;rw[wfJ (show b.9-1-i<b.length by omega),show b.9-1-i+1=b.9-i by omega]
  generalize b[b.9-1-i]'1.0=w at B;generalize b.drop (b.9-i)=rest at hd B;have C:=X.trans Z
  let{kvs,p1,p2}:=id hP
  have fin:∀(lp:Addr) (I:List Addr) (ps:List (Nat×Nat)) (m:Hp),a8 f m->m lp=ρ (.lst (I.map V.ref))->b8 m I (ps.map jP)->ps.9<=1000->(∀i e:Nat,(i,e)∈ps↔(w,e)∈R.wl.getD i [])->∀(y:Addr) (c:List Nat) (H':Hp),a8 m H'->(∀i:Nat,i∈c↔∃e∈j,(i,e)∈ps)->∀e:Nat,e∈c↔e<R.wl.9/\jO R.wl e (b.drop (b.9-(i+1))):=by
   intro lp I ps m _ _ _ _ J y c H' _ Lf e;rw[Lf,B];constructor
   .rintro⟨e',r,t⟩;have M:=(J _ _).mp t;refine{wcE λq=>?_,e',M,((hd _).mp r).2};rw[Ë,Χ 1.0]at M;cases M
   .rintro⟨_,e',r,t⟩;exact{e',(hd _).mpr {ok.rd.e _ _ r,t},(J _ _).mpr r}
  refine{1,z,L.aE,dz,_,1,C _ _ hz,L.au.cl,L.au.EZ,BR x a,a,rfl,.inl {_,.inl (C _ _ p1)},1,Û _,λle hle=>?_};have u:=a8.upd (H:=f) (o:=.lst []) hle;have h5:(upd f le (.lst [])) le=ρ (.lst (([]:List Addr).map V.ref)):=a6;generalize upd f le _=m at u h5;have d:=C.trans u;have g:=eN.k (k:=(Å w:Key)) (d _ _ p1);rcases p2 w with⟨r,t⟩ |⟨lp,I,ps,r,t,M,q4,q5⟩
  .rw[r]at g;refine{τ,g,1,le,l,[],[],j,rfl,aO.of h5,b8.nil _,aO.of (u _ _ h4),Û _,dl,λy c H6 s6 h6 J hl=>?_};exact{hi,Z.trans (u.trans s6),y,c,1,h6,fin le [] [] m u h5 (b8.nil _) (Û _) (λi e=>{(λh=>nomatch h),λh=>absurd h (t i e)}) y c H6 s6 J,Í hl (Û _)}
  .rw[r]at g;refine{ρ (.ref lp),g,1,lp,l,I,ps,j,rfl,aO.of (d _ _ t),M.same d,aO.of (u _ _ h4),q4,dl,λy c H6 s6 h6 J hl=>?_};exact{hi,Z.trans (u.trans s6),y,c,1,h6,fin lp I ps m u (d _ _ t) (M.same d) q4 q5 y c H6 s6 J,Í hl q4}
 .rintro σ f ⟨_,Z,l,j,v5,rfl,h4,hd,dl⟩;rw[ξ,À,Ď,wfc]at hd;exact{1,k l j f (X.trans Z) h4 hd}
end
end K54
namespace _L
open PySem.Spec PyProof.Rows PySem.Calls
section
variable{X:Cx}
theorem Hs(hc:X.calm=true):dO X (.builtin "sum") (λxs H Q=>∃v d kvs ns,xs=[.ref v]/\H v=ρ (pF v d)/\H d=ρ (.dK kvs)/\kvs.map (·.2)=Ķ V.int ns/\Q (.int ns.sum) H):=by
 intro m s σ H xs U Q I r h
 let{v,d,kvs,ns,rfl,D,hd,hn,q}:=h
 let{u,rfl,E}:=vals1 r
 cases E
 let{Y,lo,c,rel,G}:=sT I.b6 hd
 let{ep,f}:=G.dictAt
 let{a,_}:=(show bP X.prog X.w H s.heap v (pF v d) from I.b6 v _ D)
 have J:=I.ok.hd hc
 have g:c.9=ns.9:=by
  have:=congrArg γ hn;rw[À,À]at this;rw[<-rel.9];exact this
 have L:∀{kvs:List (Key×V)} {c:List (Key×Value)} {ns:List Int},KV kvs c->kvs.map (·.2)=ns.map V.int->∀(i:Nat) (k:Key) (x:Value),c[i]?=ρ (k,x)->∃t,x=.int (ns.getD i 0) t:=by
  intro kvs c ns r
  induction r generalizing ns with
  |nil=>intro _ i k x e;simp at e
  |@cons p q ps Z h t M=>
   intro e i k x j
   cases ns with
   |nil=>cases e
   |cons n ns=>
    rw[Ó,Ó]at e;injection e with N O
    cases i with
    |zero=>
     simp at j;have y:=h.2;rw[N,j]at y;exact y
    |succ i=>exact M O i k x (by simpa using j)
 have z:=whv (prog:=X.prog) (w:=X.w) (r:=v) (d:=d) (knd:=bA X.prog X.w) (kvs:=c) (ep:=ep);refine call_sum_walkAnyS ?_
 let{R,St,hit,S,st}:=z.iter X.A.in1 s J ⟨a,f⟩
 refine hit _ _ {s.8,_,_,_,c.9,_,_,λi=>ns.getD i 0,rfl,S.toS,st,λb l=>?_,λi x ⟨k,e⟩=>L rel hn i k x e,λB t' C=>?_}
 .show b<(s.heap.push R).objs.size;rw[size_push'];rcases à.mp l with e |l
  .rw[e];exact ň _
  .rw[Þ.mp l];exact wep (z.there _ ⟨a,f⟩).2
 .have hk:∀b o,s.heap.get? b=ρ o->B.heap.get? b=ρ o:=λb o e=>
   C.heap b o (λT=>absurd (Ì e) (by rw[Þ.mp T];exact ă _)) (Õ _ e)
  rw[Moved.eq_with C];refine{.int ns.sum,H,I.kept (t':=B.toks) hk,{t',?_},q};rw[g,tE]
theorem Ht(l:Addr)(items:Array Value)(n:Nat)(j:Option Addr)(sl:Array (Option Value))(t:Tok) :
 Meets (ķ.«enumerate.__new__» {[.type "enumerate",.ref l],NU t}) (λ_ R s=>s.heap.get? l=ρ {cls:=.type "list",dict:=j,data:=.seq items n,slots:=sl} /\
  R (.ok (.ret (.ref (s.8+1)))) {s with heap:=(s.heap.push {cls:=.type "list_iterator",data:=.fields #[.ref l,.int 0 0]}).push {cls:=.type "enumerate",data:=.fields #[.none,.bool false,.ref s.8,rawInt 1,.none,.none]}}):=
 .of_wp λprog w A R s h=>by
  let{a,g,d,i,os}:=s
  let{hl,h}:=h
  have b:(a.push {cls:=.type "list_iterator",data:=.fields #[.ref l,.int 0 0]}).7=a.7+1:=Ĳ ..;have e:=sub_enumerate;have f:Heap.IsList (Shared.heap ⟨a,g,d,i,os⟩) l items:={_,hl,rfl,n,rfl}
  wp_walk using we1 hl
  refine wpAny_stack_any λst=>Ï ?_;split
  .rename_i c _ _ _ _ _;cases(c==weL "enumerate")<;>(wp_walk using we1 hl,υ f;exact{1,by rw[b];exact h})
  .wp_walk using we1 hl,υ f
   exact{1,by rw[b];exact h}
theorem Ec{P:Ê}{w:World}{K:Á}{r:List Expr}{k:Nat}{pos:Pos}(a e it:Addr)(g:e≠it)(J:a≠it):Turn P w K (.Tuple r k pos) (JY K a) [e,it] e (λi h=>(∃old,IsEnum h e it ((i+1:Nat):Int) old)/\h.IsListIter it a i) where
 mem:=by simp
 obj:=λi h st b n=>by
  let{{old,c},o,l,hc,hd}:=st
  rcases à.mp n with z |n
  .exact{_,z ▸ c,λv q=>by
    have q':Υ _=wgg v:=q
    cases q'}
  .exact{o,Þ.mp n ▸ l,λv q=>by rw[hd]at q;cases q}
 keep:=λi h V st k=>{st.1.imp λold c=>k e (by simp) _ c,st.2.at λo q=>k it (by simp) o q}
 item:=by
  intro X G hw L hc i t s σ H E I M st N;subst G hw L
  let{xs,x,D,O}:=N
  let{d,Q,p,hz}:=I.list D
  let{u,Y,ru}:=Q.get O
  let{{old,c},hit}:=st
  have R:e≠a:=λz=>by
   let{o,l,S,_}:=p.isList
   have f:=c;rw[z]at f;rw[f]at l;cases l;have q:weL "enumerate"=.type "list":=S;injection q with q
   exact absurd q ⋯
  have hil:i<d.9:=(Ñ.mp Y).1;refine wg8 (i:=i+1) (DR (Draws.list (A:=X.A.in1) (I.ok.hd hc) it a J d.6)) c ⟨i,rfl,hit,p.isList⟩ (by rw[å];lia) g (by simp[g,R]) λy V tk m l T hT hsz hk=>?_
  let{Z,e1,m}:=m
  let{i2,e2,B,zbO}:=T
  have e1:Z=i:=();have e2:i2=i+1:=();subst e1 e2
  have ey:y=u:=by
   rw[List.getElem?_toArray,Y]at m;exact(Ò m).symm
  subst ey;refine{1,wdR l λXQ f j=>?_}
  let{_,U,_}:=id hit
  have C:e<s.8:=Ì c
  let{fr,I1,hn}:=vx (y:=.int ((Z+1:Nat):Int)) (tk+1) I M (λb o h q=>(j.2 b (zz h).1).trans (hk b o (zz h).1 (zz h).2 q)) ((j.2 _ (ı C)).trans hT) {_,rfl} ru (Of C (Ì U))
  exact{.ref s.8,_,I1,rfl,{s.8,x,fr,rfl,rfl,λys m=>by rw[I.pL m D];exact O},{{y,by simpa using f},B.at λo q=>(j.2 it (æ g)).trans q},hn}
 done:=by
   intro X G hw L hc i t s σ H E I M st N;subst G hw L
   let{xs,D,O}:=N
   let{d,Q,p,hz}:=I.list D
   have hl:=Q.9
   let{{old,c},hit}:=st
   let{g0,g1,g2,g3,g4,g5}:=M it (by simp)
   exact wgx (GC (A:=X.A.in1) (I.ok.hd hc) it a d.toArray i (wgs (by simp;lia))) c ⟨rfl,hit,p.isList⟩ λV eb=>{rfl,I.turned (t':=s.toks) (λb o n e=>eb b o n e) g0 g1 g3 g4 g5}
 self:=λ_ _ _ _ _ st h=>let ⟨⟨_,c⟩,_⟩:=st;Γ c h
end
section
variable{prog:Ê}{w:World}{A:Around}{E:Value->Shared->Prop}{s:Shared}{X:Cx}
theorem Ed{Q:Value->Shared->Prop}(C:s.heap.IsList l items)
 (h:∀h',IsEnum h' (s.8+1) s.heap.objs.size 1 .none->h'.IsListIter s.heap.objs.size l 0->(∀b o,s.heap.get? b=ρ o->h'.get? b=ρ o)->Q (.ref (s.8+1)) {s with heap:=h'}) :
 wpAny (model prog w) A (call (.type "enumerate") [.ref l] (NU t)) Q E s:=by
 let{{c,f,x,sl},hl,hc,n,hd}:=C
 have y:c=.type "list":=hc;have z:x=.seq items n:=hd;subst y z;have B:(s.heap.push {cls:=.type "list_iterator",data:=.fields #[.ref l,.int 0 0]}).7=s.8+1:=Ĳ ..;have a:=wfj
 let{c,J,k}:=a.mro
 have g:=a.made;have m:=a.sub;have L:=a.notType;have M:=a.canCreate;have D:=JW l t;refine ě (wgj (show wpAny _ _ (callAny (.type "enumerate") _) _ _ _ from Ï {wee _ ∅,Ĺ wgU ?_}));rw[whz (wgF "enumerate" [.ref l] (NU t)) (units_type_call_type "enumerate" [.ref l] (NU t))]
 repeat (any_goals (first |assumption |wp_step))
 have p:((s.heap.push {cls:=.type "list_iterator",data:=.fields #[.ref l,.int 0 0]}).push {cls:=.type "enumerate",data:=.fields #[.none,.bool false,.ref s.8,rawInt 1,.none,.none]}).get? (s.8+1)=ρ {cls:=.type "enumerate",data:=.fields #[.none,.bool false,.ref s.8,rawInt 1,.none,.none]}:=by
  rw[<-B];exact è _ rfl
 refine Ī (ż a.plain F.entry_enumerate_new (whX (JX l t) ((Ht l items n f sl t) prog w A.in1 (wants (λv i=>v=.ref (s.8+1)/\i={s with heap:=(s.heap.push {cls:=.type "list_iterator",data:=.fields #[.ref l,.int 0 0]}).push {cls:=.type "enumerate",data:=.fields #[.none,.bool false,.ref s.8,rawInt 1,.none,.none]}}) E) s ⟨hl,rfl,rfl⟩))) λr q j=>?_
 cases r with
 |error e=>exact j
 |ok fl=>
  cases fl with
  |ret obj=>
   let{rfl,rfl}:=j
   have u:wiq {s with heap:=(s.heap.push {cls:=.type "list_iterator",data:=.fields #[.ref l,.int 0 0]}).push {cls:=.type "enumerate",data:=.fields #[.none,.bool false,.ref s.8,rawInt 1,.none,.none]}} (.ref (s.8+1)) "enumerate":={_,p,rfl};have G:=a.init.lookup;have H:=a.init.bind (.ref (s.8+1));have N:=h _ p {_,Õ _ (è _ rfl),rfl,rfl} λb o e=>Õ _ (Õ _ e)
   repeat (any_goals (first |assumption |wp_step))
   refine Ī (ż a.init.plain F.entry_object_init (a.init.check _ _ _ _ _ _ _ _ u (DP _ l t) ((DQ (s.8+1) l t) prog w A.in1 (wants (λv i=>v=.none/\i={s with heap:=(s.heap.push {cls:=.type "list_iterator",data:=.fields #[.ref l,.int 0 0]}).push {cls:=.type "enumerate",data:=.fields #[.none,.bool false,.ref s.8,rawInt 1,.none,.none]}}) E) _ ⟨u,rfl,rfl⟩))) λI O d=>?_
   cases I with
   |error e=>exact d
   |ok Qw=>
    cases Qw with
    |ret r=>
     let{rfl,rfl}:=d
     repeat (any_goals (first |assumption |wp_step))
    |_=>exact d.elim
  |_=>exact j.elim
theorem KN{g:List Expr}{k j:Nat}{r:Pos}{l:Expr}{C:TA}{p J kp pos:Pos}(T:Gl X "enumerate")(U:X.mg "enumerate"=τ)(ha:PA X [l] C)(hs:starEach [l] X.5=[(false,eval l X.5)]:=by rfl) :
 PI X (.Tuple g k r) (.Call (.Name "enumerate" p) [l] [{ρ "start",.Constant (.int 1) j J,kp}] pos) (Px X.K C):=by
 refine{?_};intro c s σ H R I h;refine Ń (gN I T U ic ?_ ⋯ ⋯);refine Ae (by rw[hs];rfl) rfl ?_
 have w:backTo pos (starEach [l] X.5)=(false,(backTo pos (starEach [l] X.5)).head (by rw[hs];exact λz=>nomatch z) |>.2)::[]:=by
  simp only[hs];rfl
 rw[w];refine evalArgs_kwB rfl ?_;rw[<-w];refine bQ (ha pos c s σ H _ I h) λus E ⟨vs,A,G,L,M⟩=>?_;refine weK (bQ (aj (X:=X) (i:=1) c E σ A (λx m=>x=.int 1/\m=A) G ⟨rfl,rfl⟩) λv d ⟨y,m,n,N,O,Q⟩=>wf3 ?_);subst O Q
 let{t,rfl}:=N
 let{a,xs,e,S,q}:=M
 subst e
 let{u,rfl,V}:=vals1 L
 cases V
 let{Y,rv,pl,hz}:=n.list S
 refine Ed pl.isList λZ B hit kp=>Γ B ?_;have I3:Inv X c σ m {d with heap:=Z}:=n.kept (t':=d.toks) kp;have o:a<d.8:=let ⟨_,ho,_⟩:=pl.isList;Ì ho
 refine{d.8+1,[d.8+1,d.8],_,_,m,rfl,I3,Ec a _ _ (ı (ň _)) (Ù o),{{_,B},hit},λb D=>?_,q}
 have f:d.8<=b:=by
  rcases à.mp D with rfl |D
  .grind
  .grind
 exact n.zI f (n.b6.fresh f)
end
section
variable{prog:Ê}{w:World}{A:Around}{E:Value->Shared->Prop}{s:Shared}{l:Addr}{vs:List Value}{Q:Value->Shared->Prop}
theorem N4(kf:Nat->Int)(hh:A.handled=τ)(hl:s.heap.IsList l vs.6)(Dc:0<vs.9)
 (turn:∀(i:Nat) (v:Value),vs[i]?=ρ v->∃p items,v=.ref p/\s.heap.IsList p items/\(items.size:Int)=kf i/\(items.size:Int)<2^63)
 (hQ:∀(v:Value) (h':Heap) (DS:Nat),v∈vs->(∀b o,s.heap.get? b=ρ o->h'.get? b=ρ o)->Q v {s with heap:=h',toks:=DS}) :
 wpAny (model prog w) A (call (.builtin "min") [.ref l] [(ĸ "key",.builtin "len")]) Q E s:=by
 have BJ:(toString "min"++toString ".loop":String)="min.loop":=⋯;have DT:l<s.8:=let ⟨o,ho,_⟩:=hl;Ì ho
 refine wio PySem.F.kind_min PySem.F.plain_min PySem.F.entry_min (kmk_min_key _ _) ?_;show wpAny _ A.in1 (wcY "min" ["key","default"] 0 {[],[(ĸ "key",.builtin "len")]} >>= _) _ _ s;refine Â (whX (show wcY "min" ["key","default"] 0 {[],[(ĸ "key",.builtin "len")]}=pure [ρ (.builtin "len"),τ] from rfl) ?_);refine Â (Ï ?_);refine Â (υ hl ?_);refine Â (wpAny_newList ?_ (Û _));rw[BJ];have hS:(s.heap.push {cls:=.type "list_iterator",data:=.fields #[.ref l,.int 0 0]}).7=s.8+1:=size_push' ..;have SD:l≠s.8:=Ù DT;have Py:(s.heap.push {cls:=.type "list_iterator",data:=.fields #[.ref l,.int 0 0]}).objs.size≠s.8:=by rw[hS];exact ı (ň _)
 refine Ï {Ŏ Ż _,?_}
 have gI:((s.heap.push {cls:=.type "list_iterator",data:=.fields #[.ref l,.int 0 0]}).push (seqObj "list" #[] 0)).get? s.8=ρ {cls:=.type "list_iterator",data:=.fields #[.ref l,.int 0 0]}:=
  Õ _ (è _ rfl)
 have gS:((s.heap.push {cls:=.type "list_iterator",data:=.fields #[.ref l,.int 0 0]}).push (seqObj "list" #[] 0)).get? (s.heap.push {cls:=.type "list_iterator",data:=.fields #[.ref l,.int 0 0]}).7=ρ (seqObj "list" #[] 0):=è _ rfl;have NZ:∀b o,s.heap.get? b=ρ o->((s.heap.push {cls:=.type "list_iterator",data:=.fields #[.ref l,.int 0 0]}).push (seqObj "list" #[] 0)).get? b=ρ o:=λb o e=>Õ _ (Õ _ e)
 have old:∀{b:Addr} {o:Obj},s.heap.get? b=ρ o->b≠s.8+1/\b≠s.8:=λ{b o} e=>by
  have hb:b<s.8:=Ì e;exact{Ù (wep hb),Ù hb}
 have W:=wfF (prog:=prog) (w:=w) (A:=A.in1) hh s.heap.objs.size l SD vs.6;have hsz:vs.toArray.size=vs.9:=å ..;refine Ĺ wew ?_;rw[Ŕ Ż _];show wpAny _ A.in1 (ε (.ref _) >>= _) _ _ _;refine Â (Ž gS rfl ?_);show wpAny _ A.in1 (tryCatch (pyNext (.ref s.8)) _ >>= _) _ _ _;refine Â (Į (W.item 0 _ _ _ (by rw[hsz];exact Dc) {{_,gI,rfl,rfl},i7 hl NZ} λv h' DS hP MO Lb=>?_));have hv:vs[0]?=ρ v:=by simpa using hP
 have z7:∀b o,s.heap.get? b=ρ o->h'.get? b=ρ o:=λb o e=>Lb b o (by simpa using(old e).2) (NZ b o e);have Qz:=Lb _ _ (by simpa using Py) gS
 let{p,items,rfl,hp,VE,GF}:=turn 0 v hv
 show wpAny _ A.in1 (tryCatch (holding [È p] (call (.builtin "len") [.ref p])) _ >>= _) _ _ _;refine Â (Į (þ (wf5 (i7 hp z7) GF ?_)));rw[VE];have s1:=wf8 h' (s.heap.push {cls:=.type "list_iterator",data:=.fields #[.ref l,.int 0 0]}).objs.size (ņ λ_=>#[È p,.int (kf 0) (DS+1)]);obtain⟨c2,VF⟩:∃c2,(h'.update (s.heap.push {cls:=.type "list_iterator",data:=.fields #[.ref l,.int 0 0]}).objs.size (ņ λ_=>#[È p,.int (kf 0) (DS+1)])).get? (s.heap.push {cls:=.type "list_iterator",data:=.fields #[.ref l,.int 0 0]}).7=ρ (seqObj "list" #[È p,.int (kf 0) (DS+1)] c2):={_,get?_update_seq Qz λ_=>#[È p,.int (kf 0) (DS+1)]};show wpAny _ A.in1 (whB (s.heap.push {cls:=.type "list_iterator",data:=.fields #[.ref l,.int 0 0]}).objs.size (λ_=>#[È p,.int (kf 0) (DS+1)]) >>= _) _ _ _;refine Â ?_;refine Ο Qz rfl ?_;rw[BJ]
 let{VG,PB,VH}:=id MO.1
 refine Ï {Ŏ Ż _,Af kf hh hl rfl Py (by rw[hS];exact Ġ _) turn hQ _ 0 0 _ _ _ _ c2 rfl Dc (λb o e=>(s1.2 b (by rw[hS];exact(old e).1)).trans (z7 b o e)) VF {VG,(s1.2 _ Py.symm).trans PB,VH} hv}
end
section
variable{X:Cx}{e:Expr}{t:TA}{p p2 kp pos:Pos}
theorem N5(hc:X.calm=true)(J:Gl X "min")(T:X.mg "min"=τ)(l:Gl X "len")(C:X.mg "len"=τ)(ha:PA X [e] t)(hs:starEach [e] X.5=[(false,eval e X.5)]:=by rfl):PE X (.Call (.Name "min" p) [e] [{ρ "key",.Name "len" p2,kp}] pos) (SA X.K t):=by
 refine{?_};intro f s σ H Q I h;refine Ń (gN I J T (show ð "min"=ρ (.builtin "min") from _S.M9) ?_ ⋯ ⋯);refine wg4 (bQ (ha pos f s σ H _ I h) λO z ⟨R,A,g,B,D⟩=>?_) (by rw[hs];rfl) (by rw[hs];rfl);refine weK (gN g l C (show ð "len"=ρ (.builtin "len") from wel) (wf3 ?_) ⋯ ⋯)
 let{a,ps,rfl,E,m,n,q}:=D
 let{u,rfl,G}:=vals1 B
 cases G
 let{b,k,pl,w}:=g.list E
 have hl:b.9=ps.9:=by have:=k.9;rw[À]at this;exact this.symm
 have j:∀{ps:List Addr} {b:List Value},Vals (ps.map V.ref) b->b=ps.map È:=by
  intro ps
  induction ps with
  |nil=>intro b r;cases r;rfl
  |cons x ps L=>
   intro b r
   cases r with
   |cons h t=>rw[L t];cases h;rfl
 have e:=j k;subst e
 have sz:∀q∈ps,∃b:List Value,z.heap.IsList q b.6/\b.9<=sizeLine:=λq c=>by
  let{S,M}:=n q c
  let{b,k,pl,w}:=g.list M
  exact{b,pl.isList,by rw[<-k.9];exact w}
 have hn:=oN;refine N4 (kf:=λi=>match ps[i]? with |some q=>if c:q∈ps then((wi8 (sz q c)).9:Int) else 0 |none=>0) (g.ok.hd hc) pl.isList (by rw[À];cases ps with |nil=>exact absurd rfl m |cons _ _=>exact Nat.succ_pos _) (λi v d=>?_) λv U o d hk=>?_
 .rw[Ç]at d
  cases e:ps[i]? with
  |none=>rw[e]at d;cases d
  |some q=>
   rw[e]at d;cases d;have c:q∈ps:=Ð e
   let{N,Y}:=Classical.choose_spec (sz q c)
   refine{q,1,N,?_,?_}
   .show _=if c:q∈ps then _ else _
    rw[dif_pos c,å]
   .rw[å]
    lia
 .let{y,c,rfl}:=Æ.mp d
  exact{.ref y,A,g.kept (t':=o) hk,rfl,q y c}
end
end _L
namespace PySem
section
variable{P:Ê}{W0:World}{B:Around}{R:ī->Shared->Prop}{I:Addr}{fp wr:List Addr}{n:Nat}{Pr:Nat->Value->Prop}{St:Nat->Heap->Prop}
theorem y4(W:Walks P W0 B.in1 I fp wr n Pr St)(bt:Nat->Nat->Bool)(cmp:CmpOf P W0 B.in1 .Gt Pr bt)(S:Addr)(nS:S∉fp)(kw:List (Str×Value)) :
 ∀(k j:Nat) (z:Shared) (best:Value) (c:Nat),n-(j+1)=k->j+1<=n->St (j+1) z.heap->Pr (argBest bt j) best->z.heap.get? S=ρ {cls:=.type "list",dict:=τ,data:=.seq #[best,best] c,slots:=#[]} ->
 (∀v h' tk,Pr (argBest bt (n-1)) v->(∀b o,b∉wr->b≠S->z.heap.get? b=ρ o->h'.get? b=ρ o)->R (.ok (.ret v)) {z with heap:=h',toks:=tk}) ->
 codeAny (model P W0) B (.builtin "max.loop" {[.ref I,.none,.ref S],kw}) R z:=by
 have Uk:S∉wr:=λh=>nS (W.sub _ h);have nm:(toString "max"++toString ".loop":String)="max.loop":=⋯;intro k
 induction k with
 |zero=>
  intro j z best c hk hj st pb gS fin;have last:j+1=n:=1.0;refine Ĺ weE ?_;rw[Ŕ ŝ _];show wpAny _ B.in1 (ε (.ref S) >>= _) _ _ z;refine Â (Ž gS rfl ?_);show wpAny _ B.in1 (tryCatch (pyNext (.ref I)) _ >>= _) _ _ z;refine Â (Į (W.done z _ _ (last ▸ st) λh' tk kp=>?_));have O0:=kp S _ Uk gS;show wpAny _ B.in1 (whB S (λ_=>#[]) >>= _) _ _ _;refine Â (Ο O0 rfl (Â (ũ (Ï ?_))));exact fin best _ tk (by rw[<-last];exact pb) λb o h1 h2 e=>(đ _ _ (æ h2)).trans (kp b o h1 e)
 |succ k ih=>
  intro j z best c hk hj st pb gS fin;have more:j+1<n:=1.0;refine Ĺ weE ?_;rw[Ŕ ŝ _];show wpAny _ B.in1 (ε (.ref S) >>= _) _ _ z;refine Â (Ž gS rfl ?_);show wpAny _ B.in1 (tryCatch (pyNext (.ref I)) _ >>= _) _ _ z;refine Â (Į (W.item (j+1) z _ _ more st λv h' tk hP Ul kp=>?_));have O0:=kp S _ Uk gS;show wpAny _ B.in1 (tryCatch (holding [v,v] (richCompare .Gt v best >>= _)) _ >>= _) _ _ _;refine Â (Į (þ (Â (cmp (j+1) (argBest bt j) v best _ _ _ hP pb ?_))));refine Â (þ (ř (Â (ũ (Ï ?_)))))
  cases hb:bt (j+1) (argBest bt j) with
  |true=>
   simp only[if_true];refine Â (Ο O0 rfl (Â (ũ ?_)));rw[nm];refine Ï {Ŏ ŝ _,ih (j+1) _ v _ 1.0 more (W.frame _ _ _ Ul λb Wt o e=>?_) (by simp only[argBest,hb,if_true];exact hP) (Ū _ O0 rfl) λv' h2 T4 T5 T6=>?_}
   .exact(đ _ _ (λh:S=b=>nS (by rw[h];exact Wt))).trans e
   .exact fin v' h2 T4 T5 λb o h1 h3 e=>T6 b o h1 h3 ((đ _ _ (æ h3)).trans (kp b o h1 e))
  |false=>
   simp only[Ŗ,if_false];refine Â (ũ ?_);rw[nm];refine Ï {Ŏ ŝ _,ih (j+1) _ best c 1.0 more Ul (by simp only[argBest,hb,Ŗ,if_false];exact pb) O0 λv' h2 T4 T5 T6=>?_};exact fin v' h2 T4 T5 λb o h1 h3 e=>T6 b o h1 h3 (kp b o h1 e)
theorem xD(W:Walks P W0 B.in1 I fp wr n Pr St)(bt:Nat->Nat->Bool)(cmp:CmpOf P W0 B.in1 .Gt Pr bt)(S:Addr)(nS:S∉fp)(kw:List (Str×Value))(pos:0<n)(st:St 0 z.heap)(gS:z.heap.get? S=ρ {cls:=.type "list",dict:=τ,data:=.seq #[] c,slots:=#[]})
 (fin:∀v h' tk,Pr (argBest bt (n-1)) v->(∀b o,b∉wr->b≠S->z.heap.get? b=ρ o->h'.get? b=ρ o)->R (.ok (.ret v)) {z with heap:=h',toks:=tk}):codeAny (model P W0) B (.builtin "max.loop" {[.ref I,.none,.ref S],kw}) R z:=by
 have Uk:S∉wr:=λh=>nS (W.sub _ h);have nm:(toString "max"++toString ".loop":String)="max.loop":=⋯;refine Ĺ weE ?_;rw[Ŕ ŝ _];show wpAny _ B.in1 (ε (.ref S) >>= _) _ _ z;refine Â (Ž gS rfl ?_);show wpAny _ B.in1 (tryCatch (pyNext (.ref I)) _ >>= _) _ _ z;refine Â (Į (W.item 0 z _ _ pos st λv h' tk hP Ul kp=>?_));have O0:=kp S _ Uk gS;show wpAny _ B.in1 (whB S (λ_=>#[v,v]) >>= _) _ _ _;refine Â (Ο O0 rfl ?_);rw[nm];refine Ï {Ŏ ŝ _,y4 W bt cmp S nS kw _ 0 _ v _ rfl pos (W.frame _ _ _ Ul λb Wt o e=>?_) hP (Ū _ O0 rfl) λv' h2 T4 T5 T6=>?_}
 .exact(đ _ _ (λh:S=b=>nS (by rw[h];exact Wt))).trans e
 .exact fin v' h2 T4 T5 λb o h1 h3 e=>T6 b o h1 h3 ((đ _ _ (æ h3)).trans (kp b o h1 e))
theorem y6(W:Walks P W0 B.in1 I fp wr n Pr St)(S:Addr)(nS:S∉fp)(dv:Value)(T7:n=0)(st:St 0 z.heap)(gS:z.heap.get? S=ρ {cls:=.type "list",dict:=τ,data:=.seq #[] c,slots:=#[]})
 (fin:∀h' tk,(∀b o,b∉wr->b≠S->z.heap.get? b=ρ o->h'.get? b=ρ o)->R (.ok (.ret dv)) {z with heap:=h',toks:=tk}):codeAny (model P W0) B (.builtin "max.loop" {[.ref I,.none,.ref S],[(ĸ "default",dv)]}) R z:=by
 refine Ĺ weE ?_;rw[Ŕ ŝ _];show wpAny _ B.in1 (ε (.ref S) >>= _) _ _ z;refine Â (Ž gS rfl ?_);show wpAny _ B.in1 (tryCatch (pyNext (.ref I)) _ >>= _) _ _ z;refine Â (Į (W.done z _ _ (T7 ▸ st) λh' tk kp=>?_));have done:=fin h' tk λb o h1 _ e=>kp b o h1 e
 wp_walk
 exact done
theorem y7(a v:Value):argsOk "max" {[a],[(ĸ "default",v)]}:=by unfold argsOk;kernel_rfl
end
section
variable{P:Ê}{W0:World}{B:Around}{E:Value->Shared->Prop}{z:Shared}
theorem y8{Q:Value->Shared->Prop}(hh:B.handled=τ)(il:z.heap.IsList l (intItems xs))
 (he:xs.size=0->∀h' tk,(∀b o,z.heap.get? b=ρ o->h'.get? b=ρ o)->Q dv {z with heap:=h',toks:=tk})
 (hn:0<xs.size->∀v h' tk,(intItems xs)[argBest (λi j=>decide (numAt xs i>numAt xs j)) (xs.size-1)]?=ρ v->(∀b o,z.heap.get? b=ρ o->h'.get? b=ρ o)->Q v {z with heap:=h',toks:=tk}) :
 wpAny (model P W0) B (call (.builtin "max") [.ref l] [(ĸ "default",dv)]) Q E z:=by
 have nm:(toString "max"++toString ".loop":String)="max.loop":=⋯;refine wio F.kind_max F.plain_max F.entry_max (y7 _ _) ?_;show wpAny _ B.in1 (wcY "max" ["key","default"] 0 {[],[(ĸ "default",dv)]} >>= _) _ _ z;refine Â (whX (show wcY "max" ["key","default"] 0 {[],[(ĸ "default",dv)]}=pure [τ,ρ dv] from rfl) ?_);refine Â (Ï (Â (iter_intList il λs₂ e st hfp SD=>?_)));subst e;refine Â (wfw ?_);rw[nm];have W:=wfF (prog:=P) (w:=W0) (A:=B.in1) hh z.heap.objs.size l SD (intItems xs);have nS:(z.heap.push {cls:=.type "list_iterator",data:=.fields #[.ref l,.int 0 0]}).objs.size∉[z.8,l]:=λhm=>ă _ (hfp _ hm)
 have keep:∀{h':Heap},(∀b o,b∉[z.8]->b≠(z.heap.push {cls:=.type "list_iterator",data:=.fields #[.ref l,.int 0 0]}).7->((z.heap.push {cls:=.type "list_iterator",data:=.fields #[.ref l,.int 0 0]}).push {cls:=.type "list",data:=.seq #[]}).get? b=ρ o->h'.get? b=ρ o)->∀b o,z.heap.get? b=ρ o->h'.get? b=ρ o:=λ{h'} hk b o e=>by
  have lt:=Ì e;refine hk b o (λhm=>?_) (λh=>?_) (Õ _ (Õ _ e))
  .rw[Þ.mp hm]at lt;exact ă _ lt
  .rw[Ĳ]at h;rw[h]at lt;exact absurd (show z.8+1<z.heap.objs.size from lt) ()
 by_cases h0:xs.size=0
 .refine Ï {Ŏ ŝ _,y6 W _ nS dv (by simp[intItems,h0]) (W.frame _ _ _ st λb _ o e=>Õ _ e) (è _ rfl) λh' tk hk=>?_};exact he h0 h' tk (keep hk)
 .refine Ï {Ŏ ŝ _,xD W _ (CmpOf.ints_gt (numAt xs) (λ_ _=>whU)) _ nS _ (by simp[intItems];lia) (W.frame _ _ _ st λb _ o e=>Õ _ e) (è _ rfl) λv h' tk hP hk=>?_};exact hn () v h' tk (by simpa [intItems] using hP) (keep hk)
end
end PySem
namespace _S
inductive Hu(K:Á)(C:Addr)(vs:List V)(H:Hp)(Q:VK)(eF:XK):Prop
 |mk (x:Addr) (d:Nat) (hs:List Str) (ws:List Int) (lns:List (List (Str×Nat))) (_:vs=[.ref x,.int (d:Int)]) (_:cp K C H x hs ws lns) (_:d<lns.9) (_:(∀l∈lns,∀q∈l,q.2<lns.9)) (_:lns.getD d []≠[]) (_:lns.9<=1000) (_:∀(l:Addr) (rs:List Nat) (H':Hp),a8 H H'->H l=τ->H' l=ρ (.lst ((nI rs).map V.int))->Reach lns rs->Q (.ref l) H')
inductive KO(K:Á)(C CP CS CX CO:Addr)(vs:List V)(H:Hp)(Q:VK)(E:XK):Prop
 |mk (x:Addr) (many:Int) (n:Nat) (g:Str) (bw ss ls:List Str) (_:vs=[.ref x,.int many,.int (n:Int)]) (_:b4 C H x g bw ss ls) (_:(∀w∈bw,1<=w.9)) (_:(ch g).Nodup) (_:2<=g.9) (_:g.9<=10) (_:ss.9<=900) (_:gO g.length many n) (_:(Gg g bw ss many n->∀(y:Addr) (f0 f:Str->Int) (rB:List zX) (ks:List Nat) (hs:List Str) (ws:List Int) (lns:List (List (Str×Nat))) (H':Hp),a8 H H'->p6 K CP CS (aM H H') y (cF f ls) rB ks hs ws lns->uT g bw ss ls many n f0->(∀p∈ls,f p<=f0 p)->iu g bw ss ls many n f rB ks hs ws lns->Q (.ref y) H')) (_:VC CX g bw ss many n H E) (_:(Gg g bw ss many n->Ab g bw ss ls many n->∀H',a8 H H'->E (.ref CO) τ H'))
inductive KP(K:Á)(vs:List V)(H:Hp)(Q:VK)(eF:XK):Prop
 |mk (v:V) (d:Nat) (a:Addr) (many:Int) (n:Nat) (wl:List (List (Str×Nat))) (ts:List Nat) (_:vs=[v,.int (d:Int),.ref a]) (_:bN K H (kR wl) v) (_:aO K H a ((nI ts).map V.int)) (_:HG many n wl) (_:d<wl.9) (_:(∀t∈ts,(t:Int)<many)) (_:ts.9<=100000) (_:n<=10) (_:∀p H',a8 H H'->H' p=ρ (.tup [.str (cP wl d ts).1,.int ((cP wl d ts).2:Int)])->Q (.ref p) H')
inductive Hv(K:Á)(C CB CP CS CX CO:Addr)(vs:List V)(H:Hp)(Q:VK)(E:XK):Prop
 |mk (x dx xb:Addr) (many:Int) (n:Nat) (g:Str) (bw ss ls:List Str) (_:vs=[.ref x,.ref xb,.int many,.int (n:Int)]) (_:H x=ρ (.ins C dx [])) (_:b4 CB H xb g bw ss ls) (_:(∀w∈bw,1<=w.9/\w.9<=900)) (_:bw.9<=1000) (_:("":Str)∈ss) (_:(ch g).Nodup) (_:2<=g.9) (_:g.9<=10) (_:ss.9<=900) (_:gO g.length many n) (_:(Gg g bw ss many n->∀(p a l:Addr) (f0 f:Str->Int) (rB:List zX) (ks:List Nat) (hs:List Str) (ws:List Int) (lns:List (List (Str×Nat))) (b:Nat) (H':Hp),(∀c o,H c=ρ o->c≠x->H' c=ρ o)->H' x=ρ (.ins C dx (nW p xb many (n:Int) a l (cP (fH lns ks many.toNat) 0 (Ý b 0)).1 ((cP (fH lns ks many.toNat) 0 (Ý b 0)).2:Int)))->p6 K CP CS (aM H H') p (cF f ls) rB ks hs ws lns->bN K (aM H H') (tq (ks.map λd=>hs.getD d "")) (.ref a)->bN K (aM H H') (kR (fH lns ks many.toNat)) (.ref l)->uT g bw ss ls many n f0->(∀p∈ls,f p<=f0 p)->iu g bw ss ls many n f rB ks hs ws lns->HG many n (fH lns ks many.toNat)->lF bw n b->Q .non H')) (_:VC CX g bw ss many n H E) (_:(Gg g bw ss many n->Ab g bw ss ls many n->∀H',a8 H H'->E (.ref CO) τ H'))
inductive N6(K:Á)(C CB CP CS:Addr)(vs:List V)(H:Hp)(Q:VK)(eF:XK):Prop
 |mk (g:Str) (a:Addr) (many:Int) (n:Nat) (bw:List Str) (_:vs=[.str g,.ref a,.int many,.int (n:Int)]) (_:aO K H a (bw.map V.str)) (_:yS g) (_:bw.9<=6) (_:(∀w∈bw,A3 g w)) (_:gO g.length many n) (_:∀(v:V) (H':Hp),a8 H H'->(v=.non\/∃x,v=.ref x/\PZ K C CB CP CS H' x g bw many n)->Q v H')
end _S
namespace K54
section
variable{P:Ê}{w:World}{K:Á}{mg:Str->Option Value}{base:Heap}
theorem uD(L:Lk K mg):aR P w K mg base d4 1 L.mR L.ng ["sheet","desk"] (Hu K L.aD):=by
 have T:=L.T;refine L.nA.F.dM (N:=["sheet","desk","reached","waiting","line","word","end"]) (λhU A outer s H vs Q E nd n h=>?_)
 let{x,d,hs,ws,c,rfl,S,hd,he,Dc,hn,k}:=h
 have hu:=fA n
 refine{_,(a5 (ai (i:=2) dF)
  (a5 (ai (i:=3) (bI (aH (1))))
  (a5 (jI wdr (cC nY (K6 T.len (3)) aj) (a5 (ai (i:=4) (bp bM (az (0) rfl) (IK ė why PySem.F.type_list_pop OJ (3)) (λ_ _=>rfl)))
  (a9 (forA (aS (4)) (eE rfl (aQ (ay (i:=5)) (aQ (ay (i:=6)) d1))) (a9 (b7 (zD (yF hu (6) (2))) (a5 (eI hu (2) (6) dN rfl)
  (a9 (bc (ja ė ħ İ d8 (3) (aH (6)))))) aJ))))))
  (a9 (aw (bx (kC rfl) (by rfl) T.list iz (aH (2)))))))),?_}
 ac_rfl
 let{dx,ah,bw,cl,hx,rh,Lc,rl}:=id S
 let{SK,xs,ec,hc,yC}:=id rl
 cases ec;have xl:xs.9=c.9:=by rw[yC.len,À]
 refine λrd Wu=>?_;refine{1,by show 1<=sizeLine;decide,λwl xQ=>?_};have J:rd≠wl:=af a6 xQ;have s0:a8 H (upd (upd H rd (.dK [])) wl (.lst [.int (d:Int)])):=(a8.upd Wu).trans (a8.upd xQ);have Yo:(upd (upd H rd (.dK [])) wl (.lst [.int (d:Int)])) rd=ρ (.dK (dB [])):=by rw[ae J,a6];rfl
 have Yp:(upd (upd H rd (.dK [])) wl (.lst [.int (d:Int)])) wl=ρ (.lst ((nI [d]).map V.int)):=a6;have Yq:H wl=τ:=none_of (a8.upd Wu) xQ;generalize upd (upd H rd _) wl _=H0 at s0 Yo Yp
 refine{λq σ Y=>∃(f Z:List Nat) (v4 M v6:Option V),q=2*(c.9-f.9)+Z.9/\σ=[ρ (.ref x),ρ (.int (d:Int)),ρ (.ref rd),ρ (.ref wl),v4,M,v6]/\a8 H Y/\Y rd=ρ (.dK (dB f))/\Y wl=ρ (.lst ((nI Z).map V.int))/\f.Nodup/\(∀r∈f,r<c.9)/\(∀w∈Z,w<c.9)/\(∀r∈f,r∉Z->∀q∈c.getD r [],q.2∈f)/\(d∉Z->∀q∈c.getD d [],q.2∈f)/\Z.9<=f.9+1,
  {_,[],[d],τ,τ,τ,rfl,rfl,s0,Yo,Yp,΢,λr h=>absurd h ŋ,λw h=>by rw[Þ.mp h];exact hd,λr h=>absurd h ŋ,λh=>absurd (Þ.mpr rfl) h,Ä _},?_}
 rintro q σ Y ⟨f,Z,v4,M,v6,rfl,rfl,s3,Ud,O,nd,Ww,Wx,T8,Ub,R⟩;have Am:=mI nd Ww
 by_cases Yr:Z=[]
 .subst Yr;refine{1,wl,1,.inl (aO.of O),_,1,rfl,false,rfl,bo ?_};refine{1,rd,1,Ud,λl hl=>?_};rw[EL];refine k l f _ (s3.trans (a8.upd hl)) (none_of s3 hl) a6 {λr n=>T8 r n ŋ,Ww,λz=>?_,nd}
  cases e:c.getD d [] with
  |nil=>exact Dc e
  |cons q qs=>
   have:=Ub ŋ q (by rw[e];exact Ø ..);rw[z]at this;cases this
 let{z,u,rfl,hz,KA}:=LZ Yr
 refine{1,wl,1,.inl (aO.of O),_,1,rfl,true,congrArg V.bl (decide_eq_true (by rw[À,cM,É];show (0:Int)<((_+1:Nat):Int);lia)),cU ?_};have hzl:z<c.9:=Wx z (ÿ _ (Þ.mpr rfl));have Ys:c[z]?=ρ (c.getD z []):=by rw[Ë,Ã hzl];rfl
 have VU:∀q∈c.getD z [],q.2<c.9:=he _ (Ð Ys)
 let{v,Q1,rdl}:=yC.at (i:=z) (d:=cj (c.getD z [])) (by rw[Ç,Ys];rfl)
 let{a,rr,rfl,hS,hT}:=ez rdl
 have Y7:rr.9=(c.getD z []).9:=by rw[hT.1,À,À]
 refine{λσ' H'=>∃(ad:List Nat) (M v6:Option V),σ'=[ρ (.ref x),ρ (.int (d:Int)),ρ (.ref rd),ρ (.ref wl),ρ (.ref a),M,v6]/\a8 H H'/\H' rd=ρ (.dK (dB (f++ad)))/\H' wl=ρ (.lst ((nI (u++ad)).map V.int))/\(f++ad).Nodup/\(∀r∈f++ad,r<c.9)/\(∀q∈c.getD z [],q.2∈f++ad),?_,?_}
 .rintro σ' H' ⟨ad,M,v6,rfl,s',Wl,hw',Yt,JZ,j⟩;have T9:=mI Yt JZ;rw[É]at T9;refine{_,?_,f++ad,u++ad,_,M,v6,rfl,rfl,s',Wl,hw',Yt,JZ,λw hw=>?_,λr n U q I=>?_,λU q I=>?_,?_}
  .rw[É,É,É];show _<2*(c.9-f.9)+(u.9+1)
   lia
  .rcases ä.mp hw with hw |hw
   .exact Wx w (ď _ hw)
   .exact JZ w (ÿ _ hw)
  .rcases ä.mp n with n |n
   .by_cases B:r=z
    .rw[B]at I;exact j q I
    .refine ď _ (T8 r n (λm=>?_) q I);rcases ä.mp m with m |m
     .exact U (ď _ m)
     .exact B (Þ.mp m)
   .exact absurd (ÿ _ n) U
  .by_cases B:d=z
   .rw[B]at I;exact j q I
   .refine ď _ (Ub (λm=>?_) q I);rcases ä.mp m with m |m
    .exact U (ď _ m)
    .exact B (Þ.mp m)
  .rw[É]at R;rw[É,É];have:u.9+1<=f.9+1:=R
   lia
 refine{1,x,L.aD,dx,_,1,s3 _ _ hx,L.aC.cl,L.aC.d2,bX ah bw cl,1,.inl {rfl,_,aO.of O},wl,_,1,rfl,O,hz,?_};rw[KA];have s4:a8 H (upd Y wl (.lst ((nI u).map V.int))):=λb o e=>by rw[ae (af e Yq)];exact s3 _ _ e
 have NX:(upd Y wl (.lst ((nI u).map V.int))) rd=ρ (.dK (dB f)):=by rw[ae J];exact Ud
 have T1:(upd Y wl _) wl=ρ (.lst ((nI u).map V.int)):=a6;generalize upd Y wl _=H4 at s4 NX T1;refine{cl,xs,_,1,rfl,s4.seq (.inl hc),bL Q1,?_};refine{1,a,rfl,{_,s4.seq hS},di (K:=K) (a:=a) (xs:=rr.map V.ref) (Vx c f u x rd wl a d z H) {[],_,1,s4,by rw[û];exact NX,by rw[û];exact T1,by rw[û];exact nd,by rw[û];exact Ww,λq I=>by rw[Κ]at I;cases I} (λi σ H5 _ q=>q.s.seq hS) ?_ ?_}
 .rintro i y σ H5 hy ⟨ad,M,v6,rfl,s5,C,X,D,G,j⟩;have hi:i<rr.9:=by have:=(Ñ.mp hy).1;rwa[À]at this
  have Wy:i<(c.getD z []).9:=();rw[Ç,Ã hi]at hy;cases hy;have SN:H rr[i]=ρ (.tup [.str (c.getD z [])[i].1,.int ((c.getD z [])[i].2:Int)]):=hT.2 i rr[i] (jG (eR (c.getD z [])[i])) (Ã hi) (by rw[Ç,Ç,Ã Wy];rfl);have SX:(c.getD z []).take (i+1)=(c.getD z []).take i++[(c.getD z [])[i]]:=by rw[ý,Ã Wy];rfl
  have NW:=VU _ (ñ Wy);generalize (c.getD z [])[i]=q at SN SX NW;have Wz:=mI D G;refine{rr[i],1,gM.of (s5 _ _ SN),rfl,_,1,_,1,rfl,?_};have g:=eN.k (k:=(á (q.2:Int):Key)) C;rw[zV]at g
  by_cases m:q.2∈f++ad
  .rw[if_pos m]at g;refine{_,rfl,1,rd,1,g,false,rfl,bo ?_};refine{ad,_,1,s5,C,X,D,G,λp t=>?_};rw[SX]at t;rcases ä.mp t with t |t
   .exact j p t
   .rw[Þ.mp t];exact m
  .rw[if_neg m]at g;refine{_,rfl,1,rd,1,g,true,rfl,cU ?_};refine{2,rd,1,kA.k (k:=á (q.2:Int)) C (bB (by delta dB;rw[À];lia)),?_};rw[J0 m];have Yu:(upd H5 rd (.dK (dB (f++ad++[q.2])))) wl=ρ (.lst ((nI (u++ad)).map V.int)):=by rw[ae J.symm];exact X
   refine{1,.inl {rfl,_,aO.of Yu},1,wl,_,1,rfl,Yu,?_,?_}
   .rw[É]at R Wz;rw[À,cM,É];have:u.9+1<=f.9+1:=R;exact bB ()
   refine{ad++[q.2],_,1,λb o e=>by rw[ae (af e Yq),ae (af e Wu)];exact s5 _ _ e,by rw[ae J,a6,ø],by rw[a6,<-ø,rW (u++ad),Ü];rfl,?_,λr n=>?_,λp t=>?_}
   .rw[<-ø];refine wfz.mpr {D,by simp,λa ha b hb e=>?_};rw[Þ.mp hb]at e;rw[e]at ha;exact m ha
   .rw[<-ø]at n;rcases ä.mp n with n |n
    .exact G r n
    .rw[Þ.mp n];exact NW
   .rw[<-ø];rw[SX]at t;rcases ä.mp t with t |t
    .exact ď _ (j p t)
    .rw[Þ.mp t];exact ÿ _ (Þ.mpr rfl)
 .rintro σ H5 ⟨ad,M,v6,rfl,s5,C,X,D,G,j⟩;rw[À,Y7,ë]at j;exact⟨ad,M,v6,rfl,s5,C,X,D,G,j⟩
theorem zr(L:Lk K mg):aR P w K mg base d4 1 L.BW L.C0 ["lines","desk","data"] (KP K):=by
 refine L.xc.F.dM (N:=["lines","desk","data","row","thing","step"]) (λX A outer s H vs Q E nd hr h=>?_)
 let{v,d,a,many,n,wl,ts,rfl,Y,T,z,hd,m,Z,hn,k}:=h
 refine{_,(a5 (ai (i:=3) cI)
  (a5 (forA (aS (2)) (ay (i:=4)) (a5 (ai (i:=5) (bp bM (bp bM (0) (1) (λ_ _=>rfl)) (4) (λ_ _=>rfl)))
  (a5 (vn (i:=3) nd rfl (ğ rfl) (bp g9 (5) aj (λ_ _=>rfl)) LO)
  (a9 (ai (i:=1) (bp g9 (5) aj (λ_ _=>rfl)))))))
  (a9 (aw (eD (a7 (3) (aH (1)))))))),?_}
 ac_rfl
 let{cl,xs,rfl,hc,B}:=id Y
 refine{1,a,rfl,{_,T},di (K:=K) (a:=a) (xs:=(nI ts).map V.int) (λi σ u=>∃(v4 C:Option V),σ=[ρ (.ref cl),ρ (.int ((cP wl d (ts.take i)).2:Int)),ρ (.ref a),ρ (.str (cP wl d (ts.take i)).1),v4,C]/\a8 H u) {τ,τ,rfl,a8.refl _} (λi σ u _ {_,_,_,c}=>c.seq T) ?_ ?_}
 .rintro i y σ u D ⟨v4,C,rfl,c⟩;have hi:i<ts.9:=by have:=(Ñ.mp D).1;rwa[À,cM]at this
  have g:ts[i]?=ρ ts[i]:=Ã hi;rw[zU g]at D;cases D;have G:=m _ (ñ hi);have pM:ts.take (i+1)=ts.take i++[ts[i]]:=by rw[ý,g];rfl
  generalize ts[i]=t at g G pM
  let{w1,w2}:=ro z hd (ts:=ts.take i) λx hx=>m x ((Ĩ _ _).subset hx)
  have e:=yX wl d (ts.take i) t;rw[<-pM]at e;have I:=d9 w1;have NV:=z.ln _ (Ð I);have J:=z.wd _ (Ð I);have M:lI wl (cP wl d (ts.take i)) t=((cP wl d (ts.take i)).1++((wl.getD (cP wl d (ts.take i)).2 []).getD t ("",0)).1,((wl.getD (cP wl d (ts.take i)).2 []).getD t ("",0)).2):=rfl;rw[M]at e;generalize cP wl d (ts.take i)=O at *
  let{v,R,rd}:=B.at (i:=O.2) (d:=cj (wl.getD O.2 [])) (by rw[Ç,I];rfl)
  generalize wl.getD O.2 []=f at *
  let{b,j,rfl,hS,U}:=ez rd
  have Am:j.9=f.9:=by rw[U.1,À,À]
  have l:t<f.9:=();have o:t<j.9:=();have r:H j[t]=ρ (.tup [.str f[t].1,.int (f[t].2:Int)]):=U.2 t j[t] (jG (eR f[t])) (Ã o) (by rw[Ç,Ç,Ã l];rfl);have eq:f.getD t ("",0)=f[t]:=by rw[Ë,Ã l];rfl
  have S:=J _ (ñ l);rw[eq]at e;generalize f[t]=q at *;refine{2,cl,xs,_,1,rfl,c.seq (.inl hc),bL R,1,b,_,_,1,rfl,c.seq hS,bL (v:=.ref j[t]) (by rw[Ç,Ã o];rfl),?_};refine{2,j[t],_,_,1,rfl,gM.of (c _ _ r),rfl,_,1,rfl,ak ?_,?_}
  .rw[w2,S,Ú];have h1:n*min i ts.9<=10*99999:=Ĕ hn ()
   lia
  refine{1,j[t],_,_,1,rfl,gM.of (c _ _ r),rfl,?_};rw[e];exact{_,1,c}
 .rintro σ u ⟨v4,C,rfl,c⟩;rw[À,cM,ë];refine{2,by show 2<=sizeLine;decide,λp hp=>?_};exact k p _ (c.trans (a8.upd hp)) a6
theorem rp(L:Lk K mg):aR P w K mg base d4 6 L.k6 L.kg ["band","many","wide","weights"] (JM L.aB):=by
 have T:=L.T;refine L.kh.F.dM (N:=["band","many","wide","weights","sheet","lots","homes","closed","place"]) (λhU A outer s H vs Q E nd hr h=>?_)
 let{x,d,many,n,f,g,ws,ss,ls,rfl,B,Ld,Ta,Fp,Fo,Fl,KL,hd,D,Z,Yv,k}:=h
 have hu:=fA hr
 refine{_,(a5 (ai (i:=4) (ao (nG L) L.jC (a7 (0) (a7 (1) (a7 (2) (aH (3)))))))
  (a5 (dS (i:=5) rfl (ax ["sheet"] [4]) nd rfl rfl (cR rfl T.range (aH (K6 T.len (az (4) rfl)))) (λ_ _ _ _ _ _=>bf) (λ_ _ _ _ _ _=>(ao (uD L) L.nA (a7 (1) (aH (0))))))
  (a5 (dS (i:=6) rfl (ax ["sheet"] [4]) nd rfl rfl (aS (N5 rfl (by rfl) T.min (by rfl) T.len (aH (5)))) (λ_ _ _ _ _ _=>bf) (λ_ _ _ _ _ _=>(bp (hX (K:=K) rfl) (nO (K:=K) rfl (1) rfl) (0) (λ_ _=>rfl))))
  (a5 (ai (i:=7) dF)
  (a5 (forA (BQ (3)) (ay (i:=8)) (a9 (eI hu (7) (8) (AJ (g7 rK (8) (6) rfl) (dC hu (3) (8) (λ_ _=>rfl)) aj) rfl)))
  (a9 (aw (7)))))))),?_}
 ac_rfl
 have nd:ls.Nodup:=B.nd.sublist B.lv.sub;have DT:ls.9<=900:=Í B.lv.sub.length_le Fl;refine{4,x,d,many,n,cF f ls,f,g,ws,ss,ls,rfl,B,Fp,Fo,Fl,KL,.inl hd,kG f ls,λy H1 s1 S1=>?_};have S:=S1.same (ck _ _);have hB:=jc.first (g:=g) (ws:=ws) (ss:=ss) (n:=n) (many:=many) D Z;have Ym:(av ls f).9<=ls.9:=Ħ _ _;have I:=hB.l;have hmn:(1:Int)<=many:=by have:=KL.a;lia
 generalize Yw:av ls f=m at S hB Ym I;generalize WB:bF g ws ss ls n m=G at S hB I
 have WC:m≠[]:=λz=>by
  have h1:=yL D;rw[Yw,z]at h1;have:(0:Int)=(ls.map f).sum:=h1
  lia
 have NY:0<m.9:=Š.mpr WC
 have WD:∀i,i<G.9->G.getD i []≠[]:=λi hi z=>by
  have U:G[i]?=ρ (G.getD i []):=by rw[Ë,Ã hi];rfl
  have h1:=hB.b i _ U;rw[z]at h1;have h2:many*(m.map f).getD i 0<=0:=h1;have hw:=hB.w;have h3:=hB.p _ (jM (ws:=m.map f) (i:=i) ());have:=whT (show 0<many by lia) (show 0<(m.map f).getD i 0 by lia)
  lia
 let{dx,ah,bw,cl,hx,rh,Lc,rl}:=id S
 have hh:=uS rh;refine{1,y,L.aD,dx,_,1,hx,L.aC.cl,L.aC.gm,fN ah bw cl,ah,1,.inl (.inl hh),1,(),by rw[À];lia,λll WG=>?_};have en:(((m.map V.str).9:Nat):Int).toNat=m.9:=by rw[À,ç]
 rw[en];refine wJ (λi v H'=>∃q r,v=.ref q/\q≠ll/\H' q=ρ (.lst ((nI r).map V.int))/\Reach G r) (λi v Ha Hb ys h hl kp=>?_) (iK 0 m.9) WG (ak (by rw[À,ì];lia)) (λ_ _=>Ć) (λi v H3 ys Q' hv s3 FN qq=>?_) (λys H3 s3 h3 KQ hR=>?_)
 .let{q,r,rfl,U,hq2,X}:=h
  exact{q,r,rfl,U,kp _ _ hq2 U,X}
 .have hi:i<m.9:=by have:=(Ñ.mp hv).1;rwa[À,ì]at this
  rw[Ç,whk hi]at hv
  have hv:v=.int (i:Int):=by
   rw[<-Ò hv];show V.int (0+(i:Int))=_;rw[ŀ]
  subst hv;refine{2,y,i,m,_,G,rfl,S.same s3,(),λl hl q U=>by rw[I];exact hB.e l hl q U,WD i (),(),λl r H' s' fl T9 t=>?_};exact qq _ H' s' {l,r,rfl,(λz=>by rw[z,FN]at fl;cases fl),T9,t}
 let{ps,rfl,Um}:=M3 (ys:=ys) (R:=λq=>∃r,H3 q=ρ (.lst ((nI r).map V.int))/\Reach G r) λv hv=>by
  let{i,hi,e}:=Ŭ hv
  let{q,r,e1,_,e2,e3}:=hR i v (by rw[Ã hi,e])
  exact⟨q,e1,r,e2,e3⟩
 have hpl:ps≠[]:=λz=>by
  rw[À,À,ì,z]at KQ;have:0=m.9:=KQ
  lia
 refine{1,ll,ps,rfl,aO.of h3,hpl,λq U=>by let{r,e,_}:=Um q U;exact{_,aO.of e},λq U=>?_}
 let{r,X,t}:=Um q U
 have Am:=mI t.nd t.lt;refine{q,rfl,{_,aO.of X},λlh QD=>?_};refine et (λ_=>true) (λv=>match v with |.int d=>.str (m.getD d.toNat "") |_=>.non) (aT K q _) QD (ak (by rw[À,cM];lia)) (λH' s'=>aO.of (s' _ _ X)) (λv H8 Q' hy s8 qq=>qq H8 (a8.refl _)) (λv H4 Q' hy _ s4 qq=>?_) (λH4 s4 h4=>?_)
 .let{n',Cj,rfl}:=vV hy
  have Tb:n'<m.9:=by rw[<-I];exact t.lt n' Cj
  have Y:=s3.trans s4;exact{1,y,L.aD,dx,_,1,Y _ _ hx,L.aC.cl,L.aC.gm,fN ah bw cl,1,ah,_,_,1,rfl,Y.seq (.inl hh),bL (v:=.str (m.getD n' "")) (by rw[Ç,Ã Tb,Ë,Ã Tb];rfl),qq H4 (a8.refl _)}
 have e4:(((nI r).map V.int).filter λ_=>true).map (λv=>match v with |.int d=>V.str (m.getD d.toNat "") |_=>.non)=(r.map λd=>m.getD d "").map V.str:=by
  rw[ĝ.mpr (λ_ _=>rfl)];unfold nI;rw[Î,Î,Î];rfl
 rw[e4]at h4;have Y:=s3.trans s4;refine λdl C=>?_;have M:=s1.trans Y;have QB:d≠dl:=af (M _ _ hd) C;have Lf:(upd H4 dl (.dK [])) d=ρ (.dK (bK (cF f ls))):=a8.upd C _ _ (M _ _ hd);refine{1,d,1,.inl Lf,λo H5 h5 Q9=>?_};have Yn:H5 dl=ρ (.dK []):=by rw[Q9 dl (æ QB),a6]
 have nlh:lh≠d:=λz=>by rw[z]at h4;rw[M _ _ hd]at h4;cases h4
 have h5h:H5 lh=ρ (.lst ((r.map λd=>m.getD d "").map V.str)):=by rw[Q9 lh nlh];exact a8.upd C _ _ h4
 have k5:∀c O,H c=ρ O->c≠d->H5 c=ρ O:=λc O e hc=>by rw[Q9 c hc];exact a8.upd C _ _ (M _ _ e)
 have WH:H dl=τ:=none_of M C;have WK:dl≠lh:=λz=>by rw[z]at C;rw[h4]at C;cases C
 have J:=jK d o (bK (cF f ls));rw[show ((bK (cF f ls)).map λkv=>kV kv.1)=ls.map V.str by delta bK cF;rw[Î,Î];rfl]at J;refine mn J (λj σ H6=>∃(v8:Option V),σ=[ρ (.ref x),ρ (.int many),ρ (.int (n:Int)),ρ (.ref d),ρ (.ref y),ρ (.ref ll),ρ (.ref lh),ρ (.ref dl),v8]/\H6 dl=ρ (.dK (bK (cF (du (r.map λd=>m.getD d "") f) (ls.take j))))/\∀c O,H5 c=ρ O->c≠dl->H6 c=ρ O) {τ,rfl,Yn,λc O e _=>e} (λj σ H6 _ {_,_,_,kk}=>kk _ _ h5 QB) ?_ ?_
 .rintro j v σ H6 hy ⟨v8,rfl,h6,kk⟩
  let{p,QC,rfl,hj,E7,pM}:=i6 hy
  have KC:p∉(cF (du (r.map λd=>m.getD d "") f) (ls.take j)).map (·.1):=by rw[rZ];exact iT nd QC
  have put:∀u,u=du (r.map λd=>m.getD d "") f p->putK (bK (cF (du (r.map λd=>m.getD d "") f) (ls.take j))) (Å p:Key) (.int u)=bK (cF (du (r.map λd=>m.getD d "") f) (ls.take (j+1))):=λu hu'=>by
   rw[rT KC,pM,hu'];delta cF;rw[Ü];rfl
  have hlen:(bK (cF (du (r.map λd=>m.getD d "") f) (ls.take j))).9<sizeLine:=by rw[jL];delta cF;rw[À,Ú];exact bB ()
  have g6:=eN.f (k:=(Å p:Key)) (kk _ _ h5 QB);rw[eZ,kG f ls p E7]at g6;refine{2,lh,1,.inl (aO.of (kk _ _ h5h (æ WK))),rfl,fL _,decide (p∈r.map λd=>m.getD d ""),congrArg V.bl (jJ p _),?_}
  by_cases hp:p∈r.map λd=>m.getD d ""
  .rw[decide_eq_true hp];refine cU {2,d,1,g6,2,dl,1,kA.k (k:=Å p) h6 hlen,?_};exact{1,by rw[a6,put (f p) (by delta du;rw[if_pos hp])],λc O e hc=>by rw[ae hc];exact kk c O e hc}
  .rw[decide_eq_false hp];refine bo {2,dl,1,kA.k (k:=Å p) h6 hlen,?_};exact{1,by rw[a6,put 0 (by delta du;rw[if_neg hp])],λc O e hc=>by rw[ae hc];exact kk c O e hc}
 rintro σ H6 ⟨v8,rfl,h6,kk⟩;rw[À,ë]at h6;subst Yw;subst WB;exact{1,k dl _ H6 (λc o e hc=>kk _ _ (k5 c o e hc) (af e WH)) WH h6 (wu D) (Hg D Z t) (Gf D (λd hd=>by rw[<-I];exact t.lt d hd) t.ne) (Bv D) (Ge D)}
theorem uE(L:Lk K mg):aR P w K mg base d4 3 L.mW L.nk ["self","data"] (Q2 K L.aq L.aB L.aW):=by
 refine L.nD.F.dM (N:=["self","data","found"]) (λhU A outer s H vs Q E nd hr h=>?_)
 let{x,a,R,ts,rfl,D,ha,e,htl,k}:=h
 refine{_,(a5 (bc (ao (xV L) L.ri (a7 (1) (aH (az (0) rfl)))))
  (a5 (ai (i:=2) (ao (zr L) L.xc (a7 (az (0) rfl) (a7 (az (0) rfl) (aH (aA oU (1) (aA IG (bI (aH aj)) (gH (0) L.ag.cl L.cX (dg L)))))))))
  (a9 (aw (aA cV (az (0) rfl) (bp g9 (2) aj (λ_ _=>rfl))))))),?_}
 ac_rfl
 let{{f,p,xb,aa,ll,dp,wa,wb,wc,wz,ys,r,_,_,_,rl,_},ok}:=id D
 have m1:=ok.m1;have hb:=ok.b1;have Fl:=ok.c1;have u:=ro ok.w (Š.mpr ok.w.ne) (ts:=Ý R.b 0) λt v=>by rw[(η.mp v).2];lia
 rw[č]at u;refine{2,x,L.aq,f,_,1,r,L.ag.cl,L.ag.K8,DN ..,a,ts,R.many,rfl,ha,e,λG I=>?_};have J:=I _ _ r;refine{1,x,L.aq,f,_,1,J,L.ag.cl,L.ag.d2,tD ..,1,x,L.aq,f,_,1,J,L.ag.cl,L.ag.F7,BI ..,1,by show 1<=sizeLine;decide,λM y=>?_}
 let{O,z}:=dk (H:=G) (o:=.lst [V.int 0]) y
 generalize upd G M _=S at O z;have d:=I.trans O;refine{1,x,f,1,d _ _ r,qg _ _ _ _ _ _ _ _ ∅,x,R,rfl,D.same d,?_};refine{M,(R.c:Int),[V.int 0],rfl,rfl,z,(),(),ak (by show 1*((R.c:Int)).toNat<=_;lia),λT B=>?_};rw[ç,w9]
 let{U,X}:=dk (H:=S) (o:=.lst ((nI (Ý R.c 0)).map V.int)) B
 generalize upd S T _=Y at U X;have g:=d.trans U;refine{a,T,_,1,rfl,g _ _ ha,X,ak ?_,λZ C=>?_}
 .rw[À,À,cM,cM,č]
  lia
 rw[<-Ü,<-rW]
 let{s4,h4}:=dk (H:=Y) (o:=.lst ((nI (ts++Ý R.c 0)).map V.int)) C
 generalize upd Y Z _=H4 at s4 h4;have j:=g.trans s4;have l:∀t:Nat,t∈ts++Ý R.c 0->(t:Int)<R.many:=λt v=>sx m1 e R.b R.c t (ÿ _ v);have w1:=ro ok.w u.1 l;rw[É,č]at w1;refine{.ref ll,_,Z,R.many,R.n,R.wl,ts++Ý R.c 0,rfl,bN.same j _ _ rl,aO.of h4,ok.w,u.1,l,by rw[É,č];lia,ok.uj,λq H5 s5 hq=>?_};have m:=j.trans s5;refine{1,x,L.aq,f,_,1,m _ _ r,L.ag.cl,L.ag.sy,o9 ..,1,q,_,_,1,rfl,gM.of hq,rfl,_,1,rfl,ak ?_,k H5 m};show R.o.1.9+_<=_;delta Wr.o;rw[u.2,w1.2];have h1:R.n*R.b<=10*1000:=Ĕ ok.uj hb;have z:R.n*(ts.9+R.c)<=10*11000:=Ĕ ok.uj ()
 lia
end
end K54
namespace Yx
open PyProof.Rows PySem.W PySem.Calls
theorem uF:∀(ns:List Int) (vs:List Value),WellAll P h vs (ns.map WData.int)->IntsAre vs ns:=by
 intro ns
 induction ns with
 |nil=>
  intro vs w;rw[Β]at w;cases w;exact .nil
 |cons n ns c=>
  intro vs w;rw[Ó]at w
  cases w with
  |cons a b=>
   cases a;exact .cons _ _ (c _ b)
theorem Hw{l:Μ}{n:Nat}(hn:l.most=ρ n){P:Params}{h:Heap}{args:List WData}{g:List Value}
 (j:l.row.toRowW.claim.pre args=true) (p:WellAll P h g args) :
 ∃a vs ns,g=[È a]/\args=[WData.list (ns.map WData.int)]/\h.get? a=ρ {cls:=.type "list",data:=.seq vs.6}/\IntsAre vs ns/\ns.9<=n:=by
 have i:WShape.hasAll [] args [.list .int]=true:=(pre_splitW j).1;have hc:l.pre.holds [] {args:=args}=true:=(pre_splitW j).2
 let{d,r,rfl,k,m}:=hasAllW_cons i
 obtain rfl:=hasAllW_nil m
 let{w,rfl,o}:=hasW_list k
 let{ns,rfl}:=items_int o
 have b:ns.9<=n:=by
  unfold OpenLaw.pre at hc
  have e:(WTm.not (.lt (.lit (.int (n:Int))) (.len (.arg 0)))).holds [] {args:=[.list (ns.map .int)]}=true:=by
   have e:=(holds_andW hc).1;rw[hn]at e;exact e
  have f:=condW_of e (w_not (w_lt w_lit (w_len_list (w_arg rfl))));rw[À]at f;refine wfZ λq=>?_;have s:(n:Int)<((ns.9:Nat):Int):=1.0
  first
   |(rw[decide_eq_true s]at f;exact absurd f ⋯)
   |(simp at f;omega)
 cases p with
 |cons t u=>
  cases u
  cases t with
  |list v c=>exact{_,_,ns,rfl,rfl,v,uF ns _ c,b}
theorem Hx(l:Μ)(args:List WData):l.row.toRowW.claim.post args (.bool true) args=true:=
 postW_of (r:=l.row.toRowW) (X:=(true==true))
  (show WShape.has [] (.bool true) .bool=true by first |rfl |decide |simp[WShape.has,WShape.arms,WShape.armsAll])
  (show (WTm.eq .res (.lit (.bool true))).value [] {args:=args,res:=ρ (.bool true),after:=args}=ρ (.bool (true==true)) from w_eq_bool (w_res rfl) w_lit) rfl
theorem Cb{l:Μ}{n:Nat}{q:Ê}{loose:List Str}{XP:(Str->Option Value)->Heap->Prop}{YP:World->Heap->Prop}{d:DefRec}
 (hn:l.most=ρ n) (p:d.params.defaults=[])
 (call:∀(w:World) (s₀ g:Shared) (mg t:Str->Option Value) (fa:Addr) (o:Obj) (pm cd j:Value) (a:Addr) (vs:List Value) (ns:List Int),
   Ground q loose [] XP w s₀ mg t g.heap->YP w g.heap ->
   g.heap.get? fa=ρ o->o.data=.func (docDef d.name d.params d.body d.scope pm cd j)->g.heap.CodeRec cd d.name->mg d.name=ρ (.ref fa) ->
   g.heap.get? a=ρ {cls:=.type "list",data:=.seq vs.6}->IntsAre vs ns->ns.9<=n->g.gens=#[] ->
   codeAny (model l.prog w) callerA (.call (.ref fa) {[.ref a],[]}) (λr s'=>r=.ok (.ret (.bool true))/\OldK g.heap s'.heap/\s'.os=g.os/\AllBare s'.gens) g) :
 wic q loose XP YP l.row.toRowW d [] (λf vs=>wim f vs):=by
 intro w s₀ g mg t G Y fa o pm cd j x kV y hd i s k z args u as c v A m B;obtain rfl:x=.none:=Dflts.none s p;obtain rfl:kV=.none:=Dflts.noKw s
 let{a,vs,ns,rfl,rfl,e,b,h}:=Hw hn c m
 refine enter_call (Ī (call w s₀ g mg t fa o pm cd j a vs ns G Y y (fd_plain hd) i k e b h z) λr s' C=>?_)
 let{rfl,D,E,H}:=C
 exact{.inl {.bool true,.bool true,[],rfl,λ_=>rfl,.bool true,Hx l _,λ_=>{List.Pairwise.nil,λ_ I=>(nomatch I)}},D,E,H}
end Yx
namespace PySem.SeqAt
open MeetsSeq
theorem y9{M:Model}{A:Around}{E:Value->Shared->Prop}{s:Shared}{Q:Bool->Shared->Prop}{id:String}{l:Addr}{ep:Nat}{dd:Option Addr}{sl:Array (Option Value)}(j:(l==Ė)=false)
 (hl:s.heap.get? l=ρ {cls:=.type "dict",dict:=dd,data:=.dict #[] ep,slots:=sl}) (h:Q true s):wpAny M A (wgz id l l) Q E s:=by
 let{a,g,d,b,os}:=s
 unfold wgz;simp only[whl]
 wp_walk using we1 hl,wpAny_load hl
 exact h
theorem ya(l:Addr)(ep:Nat)(dd:Option Addr)(sl:Array (Option Value))(j:(l==Ė)=false) :
 Meets (ķ.«dict.__eq__» {[.ref l,.ref l],[]}) (λ_ R s=>s.heap.get? l=ρ {cls:=.type "dict",dict:=dd,data:=.dict #[] ep,slots:=sl}/\R (.ok (.ret (.bool true))) s):=
 .of_wp λprog w A R s h=>by let{a,g,d,b,os}:=s;let{hl,h}:=h;have f1:=F.sub_dict_dict;wp_walk using y9 j hl,we1 hl,wpAny_load hl;exact{_,rfl,h}
section
variable{A:Around}{s:Shared}
theorem RcAt.Hy(g:s.heap.get? l=ρ o)(p:o.cls=.type "dict")(hd:o.data=.dict #[] ep)(j:(l==Ė)=false)(r:A.units<ò):RcAt A s (.ref l) (.ref l) true:=λprog w E Q h=>by
 let{cls,a,data,sl}:=o
 simp only at p hd;subst p hd
 exact richCompare_meets_room (op:=.Eq) {_,g,rfl} {_,g,rfl} F.slot_dict_eq F.entry_dict_eq (F.args_dict_eq_2 _ _) (ya l ep a sl j)
  {g,show wfD true≠Value.notImplemented/\Q (.bool true) s from {(λx=>nomatch x),h}} r
end
end PySem.SeqAt
namespace _L
open PySem.Spec PyProof.Rows
section
variable{X:Cx}
theorem N7{l:Μ}{n k:Nat}{q:Ê}{loose:List Str}{XP:(Str->Option Value)->Heap->Prop}{YP:World->Heap->Prop}{d:DefRec}{K:Params->Á}{CX:World->Fx}{sp:World->Sp}{x:Str}
 (hn:l.most=ρ n) (p:n<=sizeLine) (r:d.params.defaults=[]) (I:dJ k callerA)
 (J:∀(w:World) (h:Heap),YP w h->(K w.params).In h)
 (F:∀(w:World) (mg:Str->Option Value) (fa:Addr) (h:Heap),(K w.params).In h->h.Ns ó mg->mg d.name=ρ (.ref fa) ->
   ∃fd:ï,(∀(s:Shared) (u:Value),BindsTo s fd {[u],[]} [(x,u)]) /\
    ∀base:Heap,(K w.params).In base->base.Ns ó mg->aR l.prog w (K w.params) mg base (CX w) k fa fd [x] (sp w))
 (t:∀(w:World) (H:Hp) (a:Addr) (ns:List Int),ns.9<=n->Only H->aO (K w.params) H a (ns.map V.int)->sp w [.ref a] H (λv _=>v=.bl true) λ_ _ _=>False)
 (C:∀(w:World) (H:Hp) (s:Shared) (e:Value) (s':Shared),CX w [] H s (λ_ _ _=>False) e s'->False) :
 wic q loose XP YP l.row.toRowW d [] (λf vs=>wim f vs):=by
 refine Yx.Cb hn r λw z j mg Q fa o pm R B a vs ns G Y S hd D y m i c E=>?_;have A:=J w _ Y
 let{fd,L,M}:=F w mg fa _ A G.T.g y
 exact Iq A G.T.g G.T.b G.T.builtins G.T.nolimit E m i (Í c p) I M L (λH N O=>t w H a ns c N O) λH e s'=>C w H j e s'
theorem KR(l:X.A.units<ò):me X (ô .Eq) (λx y H Q=>x=y/\Thing H x/\Q (.bl true) H):=by
 intro i s σ H x y v u Q I d g h
 let{rfl,m,q}:=h
 have fin:EP X i σ Q (.bool true) s:={.bl true,H,I,rfl,q}
 cases m with
 |flat f=>
  cases x with
  |non=>cases d;cases g;exact SeqAt.RcAt.none_none _ _ _ _ fin
  |bl b=>cases d;cases g;exact SeqAt.RcAt.bool_bool b b _ _ _ _ (by simpa using fin)
  |int b=>let{t,rfl}:=d;let{k,rfl}:=g;exact SeqAt.RcAt.int_int b t b k _ _ _ _ (by simpa using fin)
  |str b=>let{t,rfl}:=d;let{k,rfl}:=g;exact SeqAt.RcAt.str_str b t b k _ _ _ _ (by simpa using fin)
  |_=>exact absurd (show false=true from f) ã
 |@lst a n ha f=>
  cases d;cases g
  let{c,r,pl,p}:=I.list (aO.of (K:=X.K) ha)
  exact wif (e:=λ_=>true) pl.isList pl.isList rfl l (λj _ _=>wgf _) (by rw[show ((Ö c.toArray.size).all λ_=>true)=true from õ.mpr λ_ _=>rfl];exact fin)
 |@tup a n ha f=>
  cases d;cases g
  let{c,r,pl,p}:=I.tuple (gM.of (K:=X.K) ha)
  exact SeqAt.eq_tupleAt (e:=λ_=>true) pl pl l (λj _ _=>wgf _) (by rw[show ((Ö (min c.toArray.size c.toArray.size)).all λ_=>true)=true from õ.mpr λ_ _=>rfl,beq_self_eq_true];exact fin)
 |@dic a ha=>
  cases d;cases g
  let{o,D,w,z,B,C}:=Q3 I ha
  exact SeqAt.RcAt.Hy w z B C l _ _ _ _ fin
theorem HA(hc:X.calm=true)(I:Inv X g σ H s)(l:RelV (.int d) v)(C:aO X.K H a (Ķ V.int ns))(h0:ns=[]->Q (.int d) H)(J:∀M,M∈ns->(∀a∈ns,a<=M)->Q (.int M) H) :
 wpAny (model X.prog X.w) X.A (call (.builtin "max") [.ref a] [(ĸ "default",v)]) (EP X g σ Q) X.xe s:=by
 let{f,r,pl,q}:=I.list C
 let{c,e,rfl}:=kn r
 have hl:s.heap.IsList a (intItems c.6):=by
  have:intItems c.6=f.6:=by rw[e];unfold intItems;simp
  rw[this];exact pl.isList
 refine y8 (I.ok.hd hc) hl (λh i k hk=>?_) (λh u i k m hk=>?_)
 .have:c=[]:=by
   rw[å]at h;exact Ŵ h
  subst this;exact{.int d,H,I.kept hk,l,h0 rfl}
 .let{t,rfl}:=whU m
  let{x,n}:=argBest_gt (numAt c.6) (c.toArray.size-1)
  refine{.int _,H,I.kept hk,⟨t,rfl⟩,J _ ?_ λb o=>?_}
  .rw[numAt_eq];exact getD_mem (by rw[À];simp only[å]at *;omega)
  .let{j,p,rfl}:=mem_getD o
   rw[À]at p;have:=n j (by simp only[å]at *;omega);rw[numAt_eq]at this;exact this
end
section
variable{X:Cx}{e e2:Expr}{t:TA}{t2:TE}{p kp pos:Pos}
theorem N8(hc:X.calm=true)(g:Gl X "max")(j:X.mg "max"=τ)(ha:PA X [e] t)(hd:PE X e2 t2)(hs:starEach [e] X.5=[(false,eval e X.5)]:=by rfl):PE X (.Call (.Name "max" p) [e] [{ρ "default",e2,kp}] pos) (Rn X.K t t2):=by
 refine{?_};intro b s σ H Q I h;refine Ń (gN I g j (show ð "max"=ρ (.builtin "max") from yR) ?_ ⋯ ⋯);refine wg4 (bQ (ha pos b s σ H _ I h) λx c ⟨z,f,i,k,l⟩=>?_) (by rw[hs];rfl) (by rw[hs];rfl);refine weK (bQ (hd b c σ f _ i l) λv A ⟨y,B,m,n,o⟩=>wf3 ?_)
 let{a,ns,d,rfl,rfl,q,h0,r}:=o
 let{u,rfl,w}:=vals1 k
 cases w;exact HA hc m n q h0 r
end
end _L
namespace K54
section
variable{P:Ê}{w:World}{K:Á}{mg:Str->Option Value}{base:Heap}
theorem uG(L:Lk K mg):aR P w K mg base d4 1 L.mM L.n0 ["self"] (MI L.aB):=by
 have T:=L.T;refine L.nC.F.dM (N:=["self"]) (λo A outer s H R Q E nd S h=>?_)
 let{x,g,bw,ss,ls,rfl,B,p,e,k}:=h
 refine{_,(a9 (aw (N8 rfl (by rfl) T.max (aH (cK rfl (ax [] []) (aS (az (0) rfl)) (λ_ _ _ _ _ _=>bf) (λ_ _ _ _ _ _=>(xH T.len (0))))) aj))),?_}
 ac_rfl
 let{r,b,d,q,U,t,l,f,X,Y,Z}:=id B.ex
 refine{1,x,L.aB,r,_,1,t,L.aK.cl,L.aK.wo,t9 g b d q,b,rfl,{_,aO.of l},λu i=>?_};refine et (λ_=>true) (λv=>match v with |.str z=>.int (z.9:Int) |_=>.non) (aT K b _) i (ak (by rw[À];lia)) (λH' C=>aO.of (C _ _ l)) (λy a D m c j=>j a (a8.refl _)) (λy a D m _ c j=>?_) (λa c f=>?_)
 .let{w,hw,rfl}:=Æ.mp m
  exact{1,w,rfl,ak (by have:=e w hw;lia),j a (a8.refl _)}
 have G:((bw.map V.str).filter λ_=>true).map (λv=>match v with |.str z=>V.int (z.9:Int) |_=>.non)=(bw.map λw=>(w.9:Int)).map V.int:=by
  rw[ĝ.mpr (λ_ _=>rfl),Î,Î];rfl
 rw[G]at f;refine⟨u,_,0,rfl,rfl,aO.of f,λhn=>?_,λM I J=>?_⟩
 .have n:bw=[]:=whi.mp hn;exact k 0 a c {(λw hw=>by rw[n]at hw;cases hw),.inl ⟨rfl,n⟩}
 .let{w,hw,rfl}:=Æ.mp I
  exact k _ a c {λz O=>J _ (Æ.mpr ⟨z,O,rfl⟩),.inr ⟨w,hw,rfl⟩}
theorem sJ(L:Lk K mg):aR P w K mg base d4 2 L.lM L.lT ["band","wide"] (JO L.aB):=by
 have T:=L.T;refine L.lX.F.dM (N:=["band","wide","signs"]) (λj A outer s H v Q E nd y h=>?_)
 let{x,n,g,bw,ss,ls,rfl,B,n1,uj,c,e,k}:=h
 refine{_,(a5 (ai (i:=2) (aF (nM rfl) (by rfl) T.max yR (a7 (aA gf (gH (0) L.aK.cl L.nC (uG L)) aj) (aH aj))))
  (a9 (aw (aA j9 (aA gf (aA bZ (2) (1)) aj) (1))))),?_}
 ac_rfl
 let{l,b,d,q,z,m,C,D,G,I,J}:=id B.ex
 refine{1,x,l,1,m,HD g b d q ∅ ∅ ∅ ∅,x,g,bw,ss,ls,rfl,B,e,(λw hw=>by have:=c w hw;omega),λM o p f=>?_};refine{_,1,rfl,_,1,?_}
 have r:0<=M/\M<=900:=by
  rcases f.a with⟨h,_⟩ |⟨w,hw,h⟩
  .omega
  .have:=c w hw;omega
 have t:0<=((if 0>M-1 then 0 else M-1)+(n:Int)-1)/(n:Int):=wik (by split<;>omega) 1.0
 have u:((if 0>M-1 then 0 else M-1)+(n:Int)-1)/(n:Int)<=1000:=by
  refine χ (Int.ediv_le_self _ (by split<;>omega)) (by split<;>omega)
 refine{2,_,1,rfl,_,1,rfl,1,_,1,rfl,{1.0,1.0},?_};have:=k (((if 0>M-1 then 0 else M-1)+(n:Int)-1)/(n:Int)).toNat o p {1.0,M,f,1.0};rwa[show ((((if 0>M-1 then 0 else M-1)+(n:Int)-1)/(n:Int)).toNat:Int)=((if 0>M-1 then 0 else M-1)+(n:Int)-1)/(n:Int) by omega]at this
theorem cS(L:Lk K mg):aR P w K mg base d4 3 L.lN L.lU ["self"] (JP L.aq L.aB):=by
 refine L.cD.F.dM (N:=["self"]) (λe A outer s H l Q E nd m h=>?_)
 let{x,f,c,fs,n,g,bw,ss,ls,rfl,d,i,j,B,n1,uj,a,b,k}:=h
 refine{_,(a9 (aw (ao (sJ L) L.lX (a7 (az (0) rfl) (aH (az (0) rfl)))))),?_}
 ac_rfl
 exact{1,x,L.aq,c,_,1,d,L.ag.cl,L.ag.p9,i,1,x,L.aq,c,_,1,d,L.ag.cl,L.ag.kZ,j,f,n,g,bw,ss,ls,rfl,B,n1,uj,a,b,k}
theorem eW(L:Lk K mg):aR P w K mg base d4 4 L.fj L.fk ["self"] (N1 K L.aq L.aB L.aW L.aE (λR=>.int ((R.b:Int)+1+(R.c:Int)))):=by
 refine L.d7.F.dM (N:=["self"]) (λl A outer s H n Q E nd o h=>?_)
 let{z,R,rfl,{f,x,a,g,q,e},k}:=h
 refine{_,(a9 (aw (aA bZ (aA bZ (gH (az (0) rfl) L.ag.cl L.cD (cS L)) aj) (gH (az (0) rfl) L.ag.cl L.cX (dg L))))),?_}
 ac_rfl
 let{{i,p,r,t,u,dp,v,y,B,C,D,j,_},ok}:=id e
 refine{1,z,L.aE,f,_,1,g,L.au.cl,L.au.bu,aN x a,x,i,1,j,eU,Aq e λm d=>?_};exact{_,1,rfl,1,z,L.aE,f,_,1,d _ _ g,L.au.cl,L.au.bu,aN x a,x,i,1,d _ _ j,eU,x,R,rfl,e.same d,_,1,rfl,k m d}
theorem cE(L:Lk K mg):aR P w K mg base d4 1 L.iW L.nq ["_law_caught_here","_law_sort","_law_due"] (MX K L.cf L.aU L.cY L.aI):=by
 have T:=L.T;refine L.cy.F.dM (N:=["_law_caught_here","_law_sort","_law_due","_law_sorts"]) (λO A outer s H vs Q E nd hr h=>?_)
 let{e,C,J,od,c,HF,rfl,{l,hD,U,Y},hk,k}:=h
 have j:(A.deeper (wda "_law_refused" (aL (top 93)) s.heap.objs.size L.iW O)).units<ò:=hr.vq
 refine{_,(a5 (b7 (PW.pt (iy (cC Cz (0) eO) (jx (cH (bS (aF bO (by rfl) T.tF i5 (a7 (0) (aH (gZ (v:=.ty "ValueError") (by rfl) T.ValueError bVE rfl))))))))) (a9 (aw dN)) aJ)
  (a5 (ai (i:=3) (bI (a7 (aF bO (by rfl) T.tF i5 (a7 (0) (aH (cA (v:=.ref L.cf) (by rfl) L.Fe rfl)))) (a7 (aF bO (by rfl) T.tF i5 (a7 (0) (aH (cA (v:=.ref L.aU) (by rfl) L.ph rfl)))) (aH (aF bO (by rfl) T.tF i5 (a7 (0) (aH (cA (v:=.ref L.cY) (by rfl) L.xi rfl)))))))))
  (a5 (ai (i:=3) (aA oU (3) (bI (a7 (aF bO (by rfl) T.tF i5 (a7 (0) (aH (cA (v:=.ref L.xo) (by rfl) L.Ku rfl)))) (a7 (aF bO (by rfl) T.tF i5 (a7 (0) (aH (cA (v:=.ref L.cz) (by rfl) L.xm rfl)))) (aH (aF bO (by rfl) T.tF i5 (a7 (0) (aH (cA (v:=.ref L.nE) (by rfl) L.Ak rfl))))))))))
  (a5 (ai (i:=3) (aA oU (3) (bI (a7 (aF bO (by rfl) T.tF i5 (a7 (0) (aH (cA (v:=.ref L.sA) (by rfl) L.GW rfl)))) (a7 (aF bO (by rfl) T.tF i5 (a7 (0) (aH (cA (v:=.ref L.sC) (by rfl) L.GY rfl)))) (aH (aF bO (by rfl) T.tF i5 (a7 (0) (aH (cA (v:=.ref L.xg) (by rfl) L.Km rfl))))))))))
  (a5 (ai (i:=3) (aA oU (3) (bI (a7 (aF bO (by rfl) T.tF i5 (a7 (0) (aH (cA (v:=.ref L.xh) (by rfl) L.Kq rfl)))) (a7 (aF bO (by rfl) T.tF i5 (a7 (0) (aH (cA (v:=.ref L.sD) (by rfl) L.Hc rfl)))) (aH (aF bO (by rfl) T.tF i5 (a7 (0) (aH (cA (v:=.ref L.xj) (by rfl) L.Ks rfl))))))))))
  (a5 (ai (i:=3) (aA oU (3) (bI (a7 (aF bO (by rfl) T.tF i5 (a7 (0) (aH (cA (v:=.ref L.fh) (by rfl) L.iH rfl)))) (a7 (aF bO (by rfl) T.tF i5 (a7 (0) (aH (cA (v:=.ref L.xq) (by rfl) L.Kw rfl)))) (aH (aF bO (by rfl) T.tF i5 (a7 (0) (aH (cA (v:=.ref L.xr) (by rfl) L.Ky rfl))))))))))
  (a5 (b7 (cC (PQ j) (aA oU (3) (bI (aH (aF bO (by rfl) T.tF i5 (a7 (0) (aH (cA (v:=.ref L.pq) (by rfl) L.E1 rfl))))))) (cK rfl (ax ["_law_sort"] [1]) (cR rfl T.range (aH aj)) (λ_ _ _ _ _ _=>bf) (λ_ _ _ _ _ _=>(fZ iM (0) (1) (kr _))))) (a9 (aw dN)) aJ)
  (a5 (b7 (cC iM (1) aj) (a9 (aw (vG (fZ (KR j) (uU (0) rfl) (2) (kr _)) (vg (zF (aF dj (by rfl) T.tF i5 (a7 (uU (0) rfl) (aH (gZ (v:=.ty "bool") (by rfl) T.bool J7 rfl))))))))) aJ)
  (a5 (b7 (cC iM (1) aj) (a9 (aw (vG (fZ (KR j) (uU (0) rfl) (2) (kr _)) (vg (zF (aF dj (by rfl) T.tF i5 (a7 (uU (0) rfl) (aH (gZ (v:=.ty "bool") (by rfl) T.bool J7 rfl))))))))) aJ)
  (a9 (aw dN))))))))))),?_}
 ac_rfl
 have a:∀{m:Hp},a8 H m->∀{D:Addr} {b:Bool},ω K (.ref C) (.ref D)=ρ b->GO K m (.ref e) (.ref D) b:=@λm R D b n=>.exc (R _ _ l) (λd hd=>let ⟨fs,h⟩:=hD d hd;{fs,R _ _ h}) U Y n
 have S:J="NoRow"\/J="NoLength"\/J="NoNumber":=by
  rcases hk with⟨_,_,h⟩ |⟨_,_,h⟩ |⟨_,_,h⟩
  .exact .inl h
  .exact .inr (.inl h)
  .exact .inr (.inr h)
 have ne:∀x∈[("NoData":Str),"Scarce","Open","NoSigns","TooMany","NoWord","Barred","NoPlace","NoRate","NoSplit","NoForm","NoBand","NoWriter"],¬J=x:=by rcases S with rfl |rfl |rfl<;>decide+kernel
 obtain⟨k0,k1,k2⟩:ω K (.ref C) (.ref L.cf)=ρ (decide (c=0))/\ω K (.ref C) (.ref L.aU)=ρ (decide (c=1))/\ω K (.ref C) (.ref L.cY)=ρ (decide (c=2)):=by
  rcases hk with⟨rfl,rfl,rfl⟩ |⟨rfl,rfl,rfl⟩ |⟨rfl,rfl,rfl⟩
  .exact{wI,gn U L.bW L.XT ∅ ∅,gn U L.j5 L.XT ∅ ∅}
  .exact{gn U L.gB L.XT ∅ ∅,wI,gn U L.j5 L.XT ∅ ∅}
  .exact{gn U L.gB L.XT ∅ ∅,gn U L.bW L.XT ∅ ∅,wI}
 refine{_,rfl,rfl,false,rfl,bo ?_};refine{1,_,_,true,rfl,.val l hD U Y (GN U),true,rfl,bo ?_};refine{1,_,_,1,a (a8.refl _) k0,1,_,_,1,a (a8.refl _) k1,1,_,_,1,a (a8.refl _) k2,by show 3<=sizeLine;decide,λl1 X=>?_}
 let{p,g1}:=dk (H:=H) (o:=.lst (B3 c)) X
 show bR 3 (V.ref l1) _ _ _;generalize upd H l1 _=G1 at p g1;refine{2,_,_,false,rfl,a p (eC U L.Kv L.XT ∅ (ne _ ∅)),1,_,_,false,rfl,a p (gn U L.ia L.XT ∅ (ne _ ∅)),1,_,_,false,rfl,a p (gn U L.xn L.XT ∅ (ne _ ∅)),by show 3<=sizeLine;decide,λm1 Z=>?_}
 let{u1,w1}:=dk (H:=G1) (o:=.lst F3) Z
 generalize upd G1 m1 _=K1 at u1 w1;refine{l1,m1,_,1,rfl,u1 _ _ g1,w1,by show 6<=sizeLine;decide,λr N9=>?_};have t:=p.trans (u1.trans (a8.upd (H:=K1) (o:=.lst (B3 c++F3)) N9));have g2:(upd K1 r _) r=ρ (.lst (B3 c++F3)):=a6;show bR 3 (V.ref r) _ _ _;generalize upd K1 r _=G2 at t g2;refine{2,_,_,false,rfl,a t (eC U L.GX L.XT ∅ (ne _ ∅)),1,_,_,false,rfl,a t (eC U L.GZ L.XT ∅ (ne _ ∅)),1,_,_,false,rfl,a t (eC U L.Kn L.XT ∅ (ne _ ∅)),by show 3<=sizeLine;decide,λm2 Yc=>?_}
 let{u2,w2}:=dk (H:=G2) (o:=.lst F3) Yc
 generalize upd G2 m2 _=K2 at u2 w2;refine{r,m2,_,1,rfl,u2 _ _ g2,w2,by show 9<=sizeLine;decide,λu FN=>?_};have y:=t.trans (u2.trans (a8.upd (H:=K2) (o:=.lst ((B3 c++F3)++F3)) FN));have g3:(upd K2 u _) u=ρ (.lst ((B3 c++F3)++F3)):=a6;show bR 3 (V.ref u) _ _ _;generalize upd K2 u _=G3 at y g3;refine{2,_,_,false,rfl,a y (eC U L.Kr L.XT ∅ (ne _ ∅)),1,_,_,false,rfl,a y (eC U L.Hd L.XT ∅ (ne _ ∅)),1,_,_,false,rfl,a y (eC U L.Kt L.XT ∅ (ne _ ∅)),by show 3<=sizeLine;decide,λm3 hm3=>?_}
 let{u3,w3}:=dk (H:=G3) (o:=.lst F3) hm3
 generalize upd G3 m3 _=K3 at u3 w3;refine{u,m3,_,1,rfl,u3 _ _ g3,w3,by show 12<=sizeLine;decide,λz hl4=>?_};have B:=y.trans (u3.trans (a8.upd (H:=K3) (o:=.lst (((B3 c++F3)++F3)++F3)) hl4));have g4:(upd K3 z _) z=ρ (.lst (((B3 c++F3)++F3)++F3)):=a6;show bR 3 (V.ref z) _ _ _;generalize upd K3 z _=G4 at B g4;refine{2,_,_,false,rfl,a B (gn U L.iI L.XT ∅ (ne _ ∅)),1,_,_,false,rfl,a B (eC U L.Kx L.XT ∅ (ne _ ∅)),1,_,_,false,rfl,a B (eC U L.Kz L.XT ∅ (ne _ ∅)),by show 3<=sizeLine;decide,λm4 hm4=>?_}
 let{u4,w4}:=dk (H:=G4) (o:=.lst F3) hm4
 generalize upd G4 m4 _=K4 at u4 w4;refine{z,m4,_,1,rfl,u4 _ _ g4,w4,by show 15<=sizeLine;decide,λG Wz=>?_};have t5:=B.trans (u4.trans (a8.upd (H:=K4) (o:=.lst ((((B3 c++F3)++F3)++F3)++F3)) Wz));have g5:(upd K4 G _) G=ρ (.lst ((((B3 c++F3)++F3)++F3)++F3)):=a6;show bR 3 (V.ref G) _ _ _;generalize upd K4 G _=G5 at t5 g5;refine{2,_,_,false,rfl,a t5 (eC U L.E2 L.XT ∅ (ne _ ∅)),by show 1<=sizeLine;decide,λm5 Qa=>?_}
 let{u5,w5}:=dk (H:=G5) (o:=.lst [V.bl false]) Qa
 generalize upd G5 m5 _=K5 at u5 w5;refine{G,m5,_,1,rfl,u5 _ _ g5,w5,by show 16<=sizeLine;decide,λM hl6=>?_};have t6:=t5.trans (u5.trans (a8.upd (H:=K5) (o:=.lst (((((B3 c++F3)++F3)++F3)++F3)++[V.bl false])) hl6));have g6:(upd K5 M _) M=ρ (.lst (((((B3 c++F3)++F3)++F3)++F3)++[V.bl false])):=a6;generalize upd K5 M _=G6 at t6 g6;refine⟨16,rfl,⋯,⋯,λl7 QF=>?_⟩;refine comp_map (λv=>.bl (decide (v=.int (c:Int)))) (iK 0 16) QF (by rw[À,ì];exact ak ⋯) (λ_ _=>trivial) (λv m Q' hv R q=>?_) (λH7 s7 h7=>?_)
 .let{i,hi,rfl}:=Æ.mp hv
  exact{2,rfl,q m (a8.refl _)}
 have g:=t6.trans s7;refine{M,l7,_,1,rfl,aO.of (s7 _ _ g6),aO.of h7,rfl,rfl,false,?_,bo ?_}
 .rcases hk with⟨rfl,_⟩ |⟨rfl,_⟩ |⟨rfl,_⟩<;>decide+kernel
 have n:=k H7 g;rcases hk with⟨rfl,rfl,rfl,I,i,rfl,f,rfl⟩ |⟨rfl,rfl,rfl,I,i,rfl,f,rfl⟩ |⟨rfl,rfl,rfl⟩
 .refine{_,rfl,rfl,true,rfl,cU ?_};refine{1,e,L.cf,L.aI,I,_,_,.int i,rfl,g _ _ l,g _ _ f,L.gB,L.j4,by simp,1,rfl,.flat rfl,true,rfl,cU ?_};exact{1,e,L.cf,L.aI,I,_,_,.int i,rfl,g _ _ l,g _ _ f,L.gB,L.j4,by simp,_,_,_,false,rfl,fz.int _,rfl,1,n}
 .refine{_,rfl,rfl,false,rfl,bo ?_};refine{_,rfl,rfl,true,rfl,cU ?_};refine{1,e,L.aU,L.aI,I,_,_,.int i,rfl,g _ _ l,g _ _ f,L.bW,L.gC,by simp,1,rfl,.flat rfl,true,rfl,cU ?_};exact{1,e,L.aU,L.aI,I,_,_,.int i,rfl,g _ _ l,g _ _ f,L.bW,L.gC,by simp,_,_,_,false,rfl,fz.int _,rfl,1,n}
 .exact{1,rfl,false,rfl,bo {_,rfl,rfl,false,rfl,bo n}}
end
end K54
namespace HT
open PyProof.Rows
noncomputable def Cd(n d:Nat):Option Int->Nat
 |none=>d
 |some v=>if v<0 then(v+(n:Int)).toNat else min v.toNat n
theorem Nb(n d k:Nat):Cd n d (ρ (k:Int))=min k n:=by
 show (if (k:Int)<0 then((k:Int)+(n:Int)).toNat else min (k:Int).toNat n)=min k n;rw[if_neg (),ç]
end HT
namespace _L
open PySem.Spec PyProof.Rows
section
variable{lo hi:Option Expr}
noncomputable def nH(xs:List V)(lo hi:Option Int):List V:=(xs.drop (HT.Cd xs.length 0 lo)).take (HT.Cd xs.length xs.length hi-HT.Cd xs.length 0 lo)
theorem Ce(xs:List V)(lo hi:Option Int):(nH xs lo hi).9<=xs.9:=by
 delta nH;rw[Ú,ē]
 lia
theorem Fq(xs:List V)(n:Nat):nH xs τ (ρ (n:Int))=xs.take n:=by simp_all [nH,HT.Cd,wfc,Nat.sub_zero,if_neg,wdZ,Nat.min_eq_right,ë,ŉ]
theorem Cg(xs:List V)(k:Nat):nH xs (ρ (k:Int)) τ=xs.drop k:=by
 unfold nH HT.Cd;simp only;split
 .lia
 .by_cases h:k<=xs.9
  .rw[show min ((k:Int)).toNat xs.9=k by lia];exact ŉ (by rw[ē];exact Ä _)
  .rw[show min ((k:Int)).toNat xs.9=xs.length by lia,Ď,Κ,Ş ()]
theorem Nc(xs:List V){i j:Nat}(h:i<=j):nH xs (ρ (i:Int)) (ρ (j:Int))=(xs.drop i).take (j-i):=by
 unfold nH HT.Cd;simp only;rw[if_neg (),if_neg ()]
 by_cases a:i<=xs.9
 .by_cases b:j<=xs.9
  .rw[show min ((i:Int)).toNat xs.9=i by lia,show min ((j:Int)).toNat xs.9=j by lia]
  .rw[show min ((i:Int)).toNat xs.9=i by lia,show min ((j:Int)).toNat xs.9=xs.length by lia];rw[ŉ (by rw[ē];exact Ä _),ŉ (by rw[ē];lia)]
 .rw[show min ((i:Int)).toNat xs.9=xs.length by lia,Ş (Ä _),Ş (),List.take_nil,List.take_nil]
end
section
variable{a:Expr}
theorem Av(lo hi:Option Int)(n:Nat):(whY lo hi τ n).1=((HT.Cd n 0 lo:Nat):Int)/\(whY lo hi τ n).2.1=((HT.Cd n n hi:Nat):Int)/\(whY lo hi τ n).2.2=1:=by
 have key:∀(i:Int) (d:Nat),max 0 (min (if i<0 then i+(n:Int) else i) (n:Int))=((HT.Cd n d (ρ i):Nat):Int):=by
  intro i d
  by_cases h:i<0<;>simp only[HT.Cd,h,if_true,if_false]<;>lia
 exact{by cases lo with |none=>rfl |some i=>exact key i 0,by cases hi with |none=>rfl |some i=>exact key i n,rfl}
theorem yc(g:List Value)(lo hi:Option Int):slicePick g.toArray lo hi τ=((g.drop (HT.Cd g.length 0 lo)).take (HT.Cd g.length g.length hi-HT.Cd g.length 0 lo)).6:=by
 let{a,b,c}:=Av lo hi g.toArray.size
 unfold slicePick;rw[a,b,c];simp only[sliceRange_one,pick_run,å]<;>rfl
inductive WL(K:Á)(x:V)(lo hi:Option Int)(H:Hp)(Q:VK):Prop
 |mk (a xs) (_:x=.ref a) (_:aO K H a xs) (_:∀p,H p=τ->Q (.ref p) (upd H p (.lst (nH xs lo hi))))
theorem Ch(ns:List Int)(lo hi:Option Int):∃g:List Int,nH (ns.map V.int) lo hi=g.map V.int/\g.9<=ns.9:=by
 refine{_,by delta nH;rw[<-wex,<-π],?_};rw[Ú,ē]
 lia
end
section
variable{X:Cx}
theorem jv:Vq X (WL X.K):=by
 intro e s σ H x v n p lo hi sl Q I g i pl j h
 let{a,c,rfl,k,q}:=h
 cases g
 let{l,r,f,m}:=I.list k
 have d:=r.9;refine{"list",_,slot_list_getitem.lookup,f.isList.typeIs,?_};refine wpAny_getItem_list_slice f.isList i pl j .none (by simp) ?_ (by grind);rw[yc,<-d];refine{.ref s.8,_,I.laid (t':=s.toks) (o:=.lst (nH c lo hi)) (λb ob q=>Õ _ q) (Ä _) ?_,rfl,q _ (I.b6.fresh (Ä _))};exact⟨Í (Ce c lo hi) m,_,0,(r.drop (HT.Cd c.length 0 lo)).take (HT.Cd c.length c.length hi-HT.Cd c.length 0 lo),è _ rfl⟩
end
end _L
namespace K54
section
variable{P:Ê}{w:World}{K:Á}{mg:Str->Option Value}{base:Heap}
theorem ki(L:Lk K mg):aR P w K mg base d4 2 L.gu L.gw ["line","kept","many"] (MH K):=by
 refine L.gz.F.dM (N:=["line","kept","many"]) (λX A outer s H vs Q E nd p h=>?_)
 let{v,b,many,c,f,rfl,Y,R,t,u,m0,k}:=h
 refine{_,(a9 (aw (gp rfl (ax ["kept"] [1]) (ax ["kept"] [1]) ⋯ (aS (bq jv (ao (oJ L) L.lz (a7 (0) (aH (1)))) dh (b9 (2)))) (λ_ _ _ _ _ _=>bf) (λ_ _ _ _ _ _=>(eD (a7 (0) (aH (Kf (K:=K) rfl ė wdf wg9 (Ho (K:=K) rfl) (2) (aH (1)))))))))),?_}
 ac_rfl
 have x:many=((many.toNat:Nat):Int):=1.0;refine{2,v,b,c,f,rfl,Y,R,u,λy S B Z=>?_}
 let{a,j,rfl,hS,T}:=ez (bN.same (ck _ _) _ _ Z)
 have Am:j.9=(d5 c f).9:=by rw[T.1,À,À]
 have hil:=IX c f;refine{1,((many.toNat:Nat):Int),congrArg V.int x,a,1,hS,λC D=>?_};rw[Fq,<-π]
 let{m,G}:=dk (H:=S) (o:=.lst ((j.take many.toNat).map V.ref)) D
 generalize upd S C _=H2 at m G;refine{C,rfl,{_,aO.of G},λl hl=>?_};refine jW (prs:=((d5 c f).take many.toNat).map eR) (λ_=>true) (λq=>match q.2 with |.int e=>.tup [.at q.1,.at (.int (c.idxOf e.toNat:Int))] |_=>.at .non) (aT K C _) (by grind) (λi q g=>?_) hl (ak (by grind)) (λU I=>aO.of (I _ _ G)) (λq J Q' _ _ M=>M J (a8.refl _)) (λq J Q' g _ s3 M=>?_) (λU I r=>?_)
 .rw[Ç]at g
  have hi:i<((d5 c f).take many.toNat).9:=by
   cases e:((d5 c f).take many.toNat)[i]? with
   |none=>rw[e]at g;cases g
   |some z=>exact(Ñ.mp e).1
  have d:i<many.toNat/\i<j.9:=by rw[Ú]at hi;omega
  rw[we9 d.1,Ã 1.0]at g;cases g;refine{j[i],by rw[Ç,we9 d.1,Ã d.2];rfl,gM.of (m _ _ ?_)};exact T.2 i j[i] (jG (eR (d5 c f)[i])) (Ã d.2) (by rw[Ç,Ç,Ã 1.0];rfl)
 .let{z,hz,rfl}:=Æ.mp g
  have O:=of_decide_eq_true (ß.mp ((Ĩ _ _).subset hz)).2;have n:aO K J b ((nI c).map V.int):=((B.trans m).trans s3).seq R
  let{i1,i2}:=Mu O
  refine{2,.inl {rfl,_,n},1,b,nI c,(z.2:Int),c.idxOf z.2,rfl,rfl,n,by rw[cM];exact t,i1,i2,by show 2<=sizeLine;decide,λr p=>?_};exact M _ _ (a8.upd p) (mH p (z.1,c.idxOf z.2))
 .rw[ĝ.mpr (λ_ _=>rfl),Î]at r;refine k _ U ((B.trans m).trans I) (bN.same (f9 (B.trans m)) _ _ ?_);unfold gg cj;rw[Î];exact r
theorem iE(L:Lk K mg):aR P w K mg base d4 1 L.tO L.tY ["_law_script","_law_place"] (Sl K):=by
 have T:=L.T;refine L.i9.F.dM (N:=["_law_script","_law_place"]) (λb A outer s H e Q E nd f h=>?_)
 let{a,ns,p,rfl,c,k}:=h
 refine{_,(a9 (aw (aF (my rfl) (by rfl) T.sum FV (aH (bq jv (0) (b9 (1)) (b9 (aA bZ (1) aj))))))),?_}
 ac_rfl
 refine{4,_,1,rfl,1,a,1,c,λl hl=>?_}
 let{d,em,_}:=Ch ns (ρ p) (ρ (p+1))
 rw[em];exact{l,d,rfl,aO.of a6,k _ _ (a8.upd hl)}
theorem nJ(L:Lk K mg):aR P w K mg base d4 1 L.oq L.oE ["_law_cell","_law_many"] Ja:=by
 have T:=L.T;refine L.jD.F.dM (N:=["_law_cell","_law_many","_law_found","_law_one","_law_turn","_law_two","_law_more"]) (λx A outer s H C Q E nd D h=>?_)
 let{c,m,rfl,G,k}:=h
 refine{_,(a5 (ai (i:=2) (bI fG))
  (a5 (ai (i:=3) (aA vA (0) aj))
  (a5 (b7 (cC iM (aA cJ (0) aj) aj) (a5 (forA (cR rfl T.range (aH (1))) (ay (i:=4)) (a5 (bc (ja ė ħ İ d8 (2) (aH (aA cJ (3) aj))))
  (a9 (ai (i:=3) (aA vA (3) aj)))))
  (a9 (aw (2)))) aJ)
  (a5 (ai (i:=5) (aA cJ (aA vA (3) aj) aj))
  (a5 (ai (i:=3) (aA cJ (3) aj))
  (a5 (forA (cR rfl T.range (aH (aA bZ (1) aj))) (ay (i:=4)) (a5 (ai (i:=6) (aA bZ (aA bZ (aA bZ (aA fo (3) aj) (aA fo (5) (5))) (aA fo aj (4))) aj))
  (a5 (ai (i:=3) (5))
  (a5 (ai (i:=5) (aA cJ (6) aj))
  (a9 (bc (ja ė ħ İ d8 (2) (aH (5)))))))))
  (a9 (aw (bq jv (2) (b9 aj) dh))))))))),?_}
 ac_rfl
 refine{Û _,λl hl=>?_};have t:a8 H (upd H l (.lst [])):=a8.upd hl;have app:∀{f:Hp} {d:List Int} {v:Int},a8 H f->f l=ρ (.lst (d.map V.int))->a8 H (upd f l (.lst (d.map V.int++[.int v])))/\(upd f l (.lst (d.map V.int++[.int v]))) l=ρ (.lst ((d++[v]).map V.int)):=λ{f d v} j g=>{λb I e=>by rw[ae (af e hl)];exact j _ _ e,by rw[a6,Ü];rfl};refine{1,_,1,rfl,{⋯,∅},?_};refine{1,_,1,rfl,(by show (0:Int)<2;decide),rfl,1,uo (λ_=>?_) (λ_=>?_)}
 .refine{1,(m:Int),rfl,(),(),?_};rw[ç];refine dE (lo:=0) (n:=m) (λi σ f=>∃(one:Int) (d:List Int) (v4:Option V),σ=[ρ (.int c),ρ (.int (m:Int)),ρ (.ref l),ρ (.int one),v4,τ,τ]/\a8 H f/\f l=ρ (.lst (d.map V.int))/\d.9=i) {_,[],τ,rfl,t,a6,rfl} ?_ ?_
  .rintro i σ f hi ⟨one,d,v4,rfl,j,g,o⟩;refine{1,.inl {rfl,_,aO.of g},1,_,1,rfl,(by show (0:Int)<1999999973;decide),l,_,1,rfl,g,by rw[À];exact bB (),?_};exact{1,_,1,rfl,{⋯,∅},_,d++[one%1999999973],1,(app j g).1,(app j g).2,by rw[É,o];rfl}
  .rintro σ f ⟨one,d,v4,rfl,j,g,o⟩;exact{_,rfl,k l d f j hl g o}
 .refine{1,_,1,rfl,{⋯,∅},_,1,rfl,(by show (0:Int)<1999999943;decide),?_};have q:=ċ (c/2/1999999973) (show (1999999943:Int)≠0 by decide);have u:=Ę (c/2/1999999973) (show (0:Int)<1999999943 by decide);refine{1,_,1,rfl,(by show (0:Int)<1999999973;decide),?_};refine{1,_,1,rfl,1,(),(),?_};rw[show ((m:Int)+2).toNat=m+2 by lia];refine dE (lo:=0) (n:=m+2) (λi σ f=>∃(one a:Int) (d:List Int) (v4 v6:Option V),σ=[ρ (.int c),ρ (.int (m:Int)),ρ (.ref l),ρ (.int one),v4,ρ (.int a),v6]/\0<=a/\a<2000000000/\a8 H f/\f l=ρ (.lst (d.map V.int))/\d.9=i) {c/2%1999999973,c/2/1999999973%1999999943,[],τ,τ,rfl,q,(),t,a6,rfl} ?_ ?_
  .rintro i σ f hi ⟨one,a,d,v4,v6,rfl,q,u,j,g,o⟩;refine{1,_,1,rfl,.inr {⋯,⋯},2,_,1,rfl,.inl {(),()},_,1,rfl,1,_,1,rfl,.inl {⋯,⋯},_,1,rfl,_,1,rfl,?_};refine{1,?_};refine{1,_,1,rfl,(by show (0:Int)<1999999973;decide),?_};have y:=ċ (one*1664525+a*a+97*(0+(i:Int))+40503) (show (1999999973:Int)≠0 by decide);have J:=Ę (one*1664525+a*a+97*(0+(i:Int))+40503) (show (0:Int)<1999999973 by decide);refine{1,.inl {rfl,_,aO.of g},1,l,_,1,rfl,g,by rw[À];exact ę (m:=2000) () (by rw[Ē];decide),?_};exact{_,_,d++[(one*1664525+a*a+97*(0+(i:Int))+40503)%1999999973],_,1,y,(),(app j g).1,(app j g).2,by rw[É,o];rfl}
  .rintro σ f ⟨one,a,d,v4,v6,rfl,q,u,j,g,o⟩;refine{2,l,1,aO.of g,λz p=>?_};have B:=Cg (d.map V.int) 2;have r:nH (d.map V.int) (ρ 2) τ=(d.drop 2).map V.int:=by rw[wex];exact B
   rw[r];exact k z (d.drop 2) _ (j.trans (a8.upd p)) (none_of j p) a6 (by rw[ē];lia)
theorem Aw(L:Lk K mg):aR P w K mg base d4 2 L.tP L.tZ ["_law_script"] (MA K):=by
 have T:=L.T;refine L.ue.F.dM (N:=["_law_script","_law_known","_law_xs","_law_size","_law_step","_law_signs","_law_words","_law_k","_law_ys","_law_long"]) (λhU A outer s H vs Q E nd hr h=>?_)
 let{a,ns,rfl,hS,k}:=h
 refine{_,(a5 (ai (i:=1) cI)
  (a5 (ai (i:=2) (ao (nJ L) L.jD (a7 (ao (iE L) L.i9 (a7 (0) (aH aj))) (aH aj))))
  (a5 (ai (i:=3) (bp bM (bI (pQ (is:=[2,2,2,3,2,4,2,3]) ∅)) (aA cJ (bp bM (2) aj (λ_ _=>rfl)) aj) (λ_ _=>rfl)))
  (a5 (ai (i:=4) (bp bM (bI (pQ (is:=[1,5,7,11,13,35]) ∅)) (aA cJ (bp bM (2) aj (λ_ _=>rfl)) aj) (λ_ _=>rfl)))
  (a5 (ai (i:=5) (ja wgA wgP wgQ Ey cI (aH (cK rfl (ax ["_law_known","_law_xs","_law_step"] [1,2,4]) (cR rfl T.range (aH (3))) (λ_ _ _ _ _ _=>bf) (λ_ _ _ _ _ _=>(bp CY (1) (aA cJ (aA bZ (bp (hX (K:=K) rfl) (2) aj (λ_ _=>rfl)) (aA fo (3) (0))) aj) (λ_ _=>rfl)))))))
  (a5 (ai (i:=6) (bI fG))
  (a5 (forA (cR rfl T.range (aH (bp bM (bI (pQ (is:=[0,1,2,3,1,2,3,6]) ∅)) (aA cJ (bp bM (2) aj (λ_ _=>rfl)) aj) (λ_ _=>rfl)))) (ay (i:=7)) (a5 (ai (i:=8) (bq jv (ao (nJ L) L.jD (a7 (ao (iE L) L.i9 (a7 (0) (aH (aA bZ aj (aA cJ (7) aj))))) (aH aj))) (b9 (aA fo (aA j9 (7) aj) aj)) dh))
  (a5 (ai (i:=9) (bp bM (bI (pQ (is:=[2,3,4,2,3,4,1,5]) ∅)) (aA cJ (bp bM (8) aj (λ_ _=>rfl)) aj) (λ_ _=>rfl)))
  (a9 (bc (ja ė ħ İ d8 (6) (aH (ja wgA wgP wgQ Ey cI (aH (cK rfl (ax ["_law_signs","_law_size"] [5,3]) (aS (bq jv (8) (b9 aj) (b9 (aA bZ aj (9))))) (λ_ _ _ _ _ _=>bf) (λ_ _ _ _ _ _=>(bp CY (1) (aA cJ (0) (2)) (λ_ _=>rfl)))))))))))))
  (a9 (aw (eD (a7 (5) (aH (6))))))))))))),?_}
 ac_rfl
 refine⟨_,rfl,a,ns,0,rfl,hS,λc1 H1 s1=>?_⟩;refine⟨c1,4,rfl,⋯,λlx xs H2 s2 fx h2 hx=>?_⟩
 let{x0,x1,x2,x3,rfl}:=Mp hx
 clear hx;have QE:=s1.trans s2
 let{n,hn,n1}:=P6 _ (ċ x0 (show (8:Int)≠0 by decide)) (Ę x0 (show (0:Int)<8 by decide))
 refine{⋯,λp hp=>?_};have G:=a8.upd (o:=.lst [.int 2,.int 2,.int 2,.int 3,.int 2,.int 4,.int 2,.int 3]) hp _ _ h2;have Au:=QE.trans (a8.upd (o:=.lst [.int 2,.int 2,.int 2,.int 3,.int 2,.int 4,.int 2,.int 3]) hp);refine⟨_,rfl,lx,_,0,_,rfl,rfl,aO.of G,rfl,_,_,rfl,rfl,(by show (0:Int)<8;decide),p,_,_,_,rfl,rfl,aO.of a6,hn,?_⟩;generalize upd H2 p _=H3 at G Au
 let{sp,Yv,Yy}:=P7 _ (ċ x2 (show (6:Int)≠0 by decide)) (Ę x2 (show (0:Int)<6 by decide))
 refine{⋯,λp2 Tc=>?_};have f:=a8.upd (o:=.lst [.int 1,.int 5,.int 7,.int 11,.int 13,.int 35]) Tc _ _ G;have Uo:=Au.trans (a8.upd (o:=.lst [.int 1,.int 5,.int 7,.int 11,.int 13,.int 35]) Tc);refine⟨_,rfl,lx,_,2,_,rfl,rfl,aO.of f,rfl,_,_,rfl,rfl,(by show (0:Int)<6;decide),p2,_,_,_,rfl,rfl,aO.of a6,Yv,?_⟩;generalize upd H3 p2 _=H4 at f Uo
 have Yz:sp<=35:=by
  simp only[à,ŋ,or_false]at Yy
  lia
 have hn4:n<=4:=by
  simp only[à,ŋ,or_false]at n1
  lia
 obtain⟨st,est⟩:∃st:Nat,x1%36=(st:Int):={(x1%36).toNat,()};have hst:st<36:=();refine{rfl,1,(n:Int),rfl,(),(),λl hl=>?_};rw[ç];refine comp_map (Mh st sp) (iK 0 n) hl (by rw[À,ì];exact ak ()) (λ_ _=>trivial) (λx H5 Q' hx s5 q=>?_) (λH5 s5 m=>?_)
 .let{i,hi,rfl}:=Æ.mp hx
  have hi':i<n:=Ą.mp hi;have hd:(st+i*sp)%36<(ch fQ).9:=by rw[aP,Bk];exact Nat.mod_lt _ ⋯
  have e1:(ch fQ)[(st+i*sp)%36]?=ρ ((ch fQ).getD ((st+i*sp)%36) 0):=by rw[Ë,Ã hd];rfl
  have e2:=bL e1
  have e3:(((st+i*sp)%36:Nat):Int)=(x1+(sp:Int)*(0+(i:Int)))%36:=by
   rw[ŀ,Œ (sp:Int),Int.natCast_emod,Ō,ą,<-est];show (x1%36+(i:Int)*(sp:Int))%36=_;rw[Int.emod_add_emod]
  rw[e3]at e2
  have e4:Mh st sp (.int (0+(i:Int)))=.str {#[(ch fQ).getD ((st+i*sp)%36) 0]}:=by
   rw[ŀ];rfl
  have q':=q H5 (a8.refl _);rw[e4]at q';exact⟨_,rfl,_,rfl,lx,_,1,_,rfl,rfl,aO.of (s5 _ _ f),rfl,_,rfl,_,rfl,_,_,rfl,rfl,.inl {(),()},_,_,rfl,rfl,_,_,rfl,rfl,(by show (0:Int)<36;decide),fQ,_,_,rfl,rfl,ak (by rw[Bk];decide),e2,q'⟩
 have YB:((Ö n).map λ(i:Nat)=>V.int (0+(i:Int))).map (Mh st sp)=((mF st sp n).map λc=>({#[c]}:Str)).map V.str:=by
  delta mF;rw[Î,Î,Î];refine ĕ λi _=>?_;show Mh st sp (.int (0+(i:Int)))=_;rw[ŀ];rfl
 have d:(mF st sp n).9=n:=by delta mF;rw[À,ì]
 rw[YB]at m;refine{_,l,1,rfl,aO.of m,?_,?_}
 .have u:∀r:List Nat,((r.map λc=>({#[c]}:Str)).map (·.9)).sum=r.9:=by
   intro r
   induction r with
   |nil=>rfl
   |cons c r ih=>rw[Ó,Ó,ú,ih,ê];show 1+r.9=_;lia
  rw[u,À,d];show n+n*0<=16777216
  lia
 have I:∀r:List Nat,((r.map λc=>({#[c]}:Str)).map ch).flatten=r:=by
  intro r
  induction r with
  |nil=>rfl
  |cons c r ih=>rw[Ó,Ó,ŗ,ih];rfl
 have YC:=Bp hst Yy n1 (x:=Ő "" ((mF st sp n).map λc=>({#[c]}:Str))) (by rw[sf ∅,I]);have Fo:(Ő "" ((mF st sp n).map λc=>({#[c]}:Str))).length=n:=by rw[<-aP,sf ∅,I,d]
 generalize Ő "" ((mF st sp n).map λc=>({#[c]}:Str))=g at YC Fo ⊢;clear m YB d I;have YD:=Uo.trans s5;have h5x:=s5 _ _ f
 let{nw,hnw,nw6}:=P8 _ (ċ x3 (show (8:Int)≠0 by decide)) (Ę x3 (show (0:Int)<8 by decide))
 refine{Û _,λJ M=>?_};have fw:H J=τ:=none_of YD M;have h6x:=a8.upd (o:=.lst []) M _ _ h5x;have O1:=YD.trans (a8.upd (o:=.lst []) M);refine{⋯,λp3 O=>?_};have YF:=a8.upd (o:=.lst [.int 0,.int 1,.int 2,.int 3,.int 1,.int 2,.int 3,.int 6]) O _ _ h6x;have YG:=a8.upd (o:=.lst [.int 0,.int 1,.int 2,.int 3,.int 1,.int 2,.int 3,.int 6]) O _ _ (a6 (H:=H5) (a:=J) (o:=.lst []));have YH:=O1.trans (a8.upd (o:=.lst [.int 0,.int 1,.int 2,.int 3,.int 1,.int 2,.int 3,.int 6]) O);refine⟨_,rfl,lx,_,3,_,rfl,rfl,aO.of YF,rfl,_,_,rfl,rfl,(by show (0:Int)<8;decide),p3,_,_,_,rfl,rfl,aO.of a6,hnw,?_⟩;generalize upd (upd H5 J _) p3 _=H7 at YF YG YH;refine{1,(),(),?_};rw[ç]
 refine dE (lo:=0) (n:=nw) (λi σ H8=>∃(R:List Str) (v7 v8 v9:Option V),σ=[ρ (.ref a),ρ (.str fQ),ρ (.ref lx),ρ (.int (n:Int)),ρ (.int (sp:Int)),ρ (.str g),ρ (.ref J),v7,v8,v9]/\a8 H H8/\H8 J=ρ (.lst (R.map V.str))/\R.9=i/\∀w∈R,A3 g w)
  {[],τ,τ,τ,rfl,YH,YG,rfl,(λw h=>nomatch h)} ?_ ?_
 .rintro i σ H8 hi ⟨R,v7,v8,v9,rfl,s8,h8,xQ,S⟩;refine{2,_,1,rfl,(by show (0:Int)<3;decide),_,1,rfl,a,ns,1,s8.seq hS,λcc H9 s9=>?_};refine⟨cc,12,rfl,⋯,λly ys Nf KS fy Qb hy=>?_⟩;have hq:(0+(i:Int))/3*6=((i/3*6:Nat):Int):=();have hq6:i/3*6<=6:=();refine{1,_,1,rfl,{⋯,⋯},_,1,rfl,.inr {⋯,⋯},1,ly,1,aO.of Qb,λl2 m=>?_}
  have ec:nH (ys.map V.int) (ρ ((0+(i:Int))/3*6)) τ=(ys.drop (i/3*6)).map V.int:=by
   rw[wex,hq];exact Cg _ _
  rw[ec];have U:(ys.drop (i/3*6)).length ≥ 6:=by rw[ē];lia
  generalize ys.drop (i/3*6)=zs at U;have B:(upd Nf l2 _) l2=ρ (.lst (zs.map V.int)):=a6;have Lg:=((s8.trans s9).trans KS).trans (a8.upd (o:=.lst (zs.map V.int)) m);have Td:=a8.upd (o:=.lst (zs.map V.int)) m _ _ (KS _ _ (s9 _ _ h8));generalize upd Nf l2 _=Ng at B Lg Td
  obtain⟨C,D,rfl⟩:∃C D,zs=C::D:=by
   cases zs with
   |nil=>exact absurd U ⋯
   |cons C D=>exact⟨C,D,rfl⟩
  let{lg,hlg,lg1,lg5}:=P9 _ (ċ C (show (8:Int)≠0 by decide)) (Ę C (show (0:Int)<8 by decide))
  refine{⋯,λp4 X=>?_};have v:=a8.upd (o:=.lst [.int 2,.int 3,.int 4,.int 2,.int 3,.int 4,.int 1,.int 5]) X _ _ B;have HH:=Lg.trans (a8.upd (o:=.lst [.int 2,.int 3,.int 4,.int 2,.int 3,.int 4,.int 1,.int 5]) X);have Y:=a8.upd (o:=.lst [.int 2,.int 3,.int 4,.int 2,.int 3,.int 4,.int 1,.int 5]) X _ _ Td;refine⟨_,rfl,l2,_,0,_,rfl,rfl,aO.of v,(bL (xs:=(C::D).map V.int) (j:=0) rfl),_,_,rfl,rfl,(by show (0:Int)<8;decide),p4,_,_,_,rfl,rfl,aO.of a6,hlg,?_⟩;generalize upd Ng p4 _=O2 at v HH Y;refine{1,.inl {rfl,_,aO.of Y},rfl,1,?_};refine{2,_,1,rfl,1,l2,1,aO.of v,λl3 FN=>?_}
  obtain⟨ms,em,Uj⟩:∃ms:List Int,nH ((C::D).map V.int) (ρ 1) (ρ (1+(lg:Int)))=ms.map V.int/\ms.9=lg:=by
   refine{D.take lg,?_,by rw[Ú];rw[ê]at U;lia};rw[show (1+(lg:Int))=((1+lg:Nat):Int) by lia,show (1:Int)=((1:Nat):Int) from rfl,Nc _ (),π];show (((D.map V.int).take (1+lg-1)))=_;rw[wcQ]
  rw[em];have WM:=HH.trans (a8.upd (o:=.lst (ms.map V.int)) FN);have Up:=a8.upd (o:=.lst (ms.map V.int)) FN _ _ Y;refine{l3,rfl,{_,aO.of a6},λlc Q7=>?_}
  have YJ:0<(n:Int):=by
   simp only[à,ŋ,or_false]at n1
   lia
  refine Iv (λy=>∃t,y=.str t/\∃cc,t={#[cc]}/\cc∈ch g) (aT K l3 (ms.map V.int)) Q7 (by rw[À];exact ak ()) (λH' s'=>s'.seq (aO.of a6)) (λx WN Q' hx Z q=>?_) (λus WN Z d hR h14=>?_)
  .let{y,hy,rfl}:=Æ.mp hx
   have y0:=ċ y (show (n:Int)≠0 by lia);have y1:=Ę y YJ;obtain⟨dd,edd⟩:∃dd:Nat,y%(n:Int)=(dd:Int):={(y%(n:Int)).toNat,()};have hd:dd<(ch g).9:=by rw[aP];lia
   have e1:(ch g)[dd]?=ρ (ch g)[dd]:=by simp[hd]
   have e2:=bL e1;rw[<-edd]at e2;exact{3,_,1,rfl,YJ,g,_,1,rfl,ak (),e2,q _ WN {_,rfl,1,ñ hd} (a8.refl _)}
  let{ts,rfl,YK}:=Em hR
  rw[À,À]at d;have u:=Ba YK;refine{_,lc,ts,rfl,rfl,aO.of h14,?_,?_}
  .rw[u];show ts.9+ts.9*0<=16777216
   lia
  have YL:A3 g (Ő "" ts):=FW ∅ () () YK;generalize Ő "" ts=wd at YL;have Uq:=WM.trans Z;have h15:=Z _ _ Up;refine{J,_,1,rfl,h15,by rw[À];exact bB (),?_};refine{R++[wd],_,_,1,λb o e=>?_,?_,by simp[xQ],λw hw=>?_}
  .rw[ae (af e fw)];exact Uq _ _ e
  .rw[a6,Ü];rfl
  .rcases ä.mp hw with z |z
   .exact S w z
   .rw[Þ.mp z];exact YL
 .rintro σ H8 ⟨R,v7,v8,v9,rfl,s8,h8,xQ,S⟩;refine{2,by show 2<=sizeLine;decide,λq hq=>?_};exact k q J g R _ (s8.trans (a8.upd hq)) (none_of s8 hq) fw a6 (a8.upd hq _ _ h8) YC () S
theorem Ax(L:Lk K mg):aR P w K mg base d4 2 L.tQ L.u0 ["_law_script","_law_signs"] (Ma K):=by
 have T:=L.T;refine L.uf.F.dM (N:=["_law_script","_law_signs","_law_some","_law_many","_law_wide"]) (λV A outer s H vs Q E nd hr h=>?_)
 let{a,ns,g,rfl,Y,u,v,k}:=h
 obtain⟨x,l,y,B,Z,C,D⟩:∃(x:Pos) (l:List Expr) (y B:Pos),cn (top 90)=.Assign [.Name "_law_some" x] (.List l y) B::(cn (top 90)).tail/\(∀X,PA X l (ve Vz))/\∀env,Ċ (.List l y) (ρ (.Name "_law_some" x)) B.line env=pure false:={_,_,_,1,λ_=>by repeat first |exact fG |refine LR ?_,λ_=>rfl};rw[Z]
 refine{_,(K9 (i:=2) nd rfl (ğ rfl) C (a5 (vm (bp bM (2) (aA cJ (ao (iE L) L.i9 (a7 (0) (aH aj))) aj) (λ_ _=>rfl)) (eE rfl (aQ (ay (i:=3)) (aQ (ay (i:=4)) d1))))
  (Ex (b7 (cC nY (xH T.len (1)) aj) (a9 (ai (i:=4) (aF (rP rfl) (by rfl) T.min M9 (a7 (4) (aH aj))))) aJ)
  (a9 (aw (eD (a7 (3) (aH (4)))))))) (D _)),?_}
 ac_rfl
 refine Ez λe G I hl hI=>{hl ▸ (by show 12<=sizeLine;decide),λb f=>?_};have d:=I.trans (a8.upd (o:=.lst G) f);have M:=a6 (H:=e) (a:=b) (o:=.lst G);have O:=a8.upd (o:=.lst G) f;generalize upd e b _=G12 at d M O;refine⟨_,rfl,_,rfl,a,ns,4,rfl,d.seq Y,λc H2 J=>?_⟩;have R:=ċ c (show (12:Int)≠0 by decide)
 let{{many,wide},m,m2,m8,n,r}:=Pa _ R (Ę c (show (0:Int)<12 by decide))
 let{q,t,hm}:=hI _ _ m
 have t:=bL t;rw[whf R]at t;have j:=d.trans J;refine{_,1,rfl,(by show (0:Int)<12;decide),b,_,_,1,rfl,aO.of (J _ _ M),t,q,1,gM.of (J _ _ (O _ _ hm)),rfl,_,1,_,1,rfl,?_};refine{λσ S=>S=H2/\∃(wd:Int),σ=[ρ (.ref a),ρ (.str g),ρ (.ref b),ρ (.int many),ρ (.int wd)]/\1<=wd/\wd<=6/\(2<g.9->wd<=3),?_,?_}
 .refine{1,g,rfl,ak (),_,1,rfl,1,uo (λU=>?_) (λU=>?_)}
  .refine⟨_,rfl,wide,3,rfl,?_⟩
   by_cases z:(3:Int)<wide
   .rw[if_pos z];exact⟨rfl,3,rfl,⋯,⋯,λ_=>θ _⟩
   .rw[if_neg z];exact{rfl,wide,rfl,n,r,λ_=>()}
  .exact{rfl,wide,rfl,n,r,λz=>absurd (decide_eq_true ()) U}
 .rintro σ S ⟨rfl,wd,rfl,n,r,w3⟩;refine{2,by show 2<=sizeLine;decide,λp m=>?_};exact k p many wd _ (j.trans (a8.upd m)) (none_of j m) a6 (Js u v m2 m8 n r w3)
end
end K54
namespace _L
open PySem.Spec PyProof.Rows PySem.W
section
variable{t:Nat}{C:Addr}
noncomputable abbrev fK(C t:Addr):Obj:={cls:=.ref C,data:=.fields #[.ref t,.none,.none,.none,.bool false,.none]}
noncomputable abbrev sL(vs:List Value):Obj:={cls:=.type "tuple",data:=.seq vs.6}
end
end _L
namespace _L
open PySem.Spec PyProof.Rows
noncomputable def XN(x C:Addr):HO:=.ext λh=>∃t,h.get? x=ρ (fK C t)
def Qc(K:Á)(CB:Addr)(t:TA):TE:=λσ H Q=>t σ H λvs H1=>∃x C nm m,vs=[.ref x,m]/\H1 x=ρ (XN x C)/\bJ K C CB nm/\Q .non H1
def Qe(K:Á)(C:Addr)(sp:Sp)(E:XK)(t:TA):TS:=λ_ σ H=>t σ H λvs H1=>vs.9<=sizeLine/\∀x,H1 x=τ ->
 sp (.ref x::vs) (upd H1 x (XN x C)) (λv H2=>v=.non/\((H2 x=ρ (XN x C)/\E (.ref C) τ (del H2 x))\/∃d,H2 x=ρ (XD x C d)/\E (.ref C) (ρ d) (del H2 x))) E0
section
variable{prog:Ê}{w:World}{A:Around}{R:ī->Shared->Prop}{h:Heap}{g:Array Ŀ}{d:Drawn}{t:Nat}{os:ù}{nm q:Str}{C CB N:Addr}{bs:List Value}{hdct:Bool}{sn:List Str}{sub:List Value}{ab:Bool}{col:Option Bool}{dd:Option Addr}{k0 k1 k2 k3 k5:Option Value}
theorem KU{rest:List Value}{init:Value}{p:Around}(l:h.get? C=ρ (ć nm q C N bs (mh CB) hdct sn sub ab col dd k0 k1 k2 k3 k5 "ValueError.__new__"))
 (hi:Looks (model prog w) h (wfE (.ref C) "__init__") (ρ init)) (J:∀self,Looks (model prog w) h (bindSpecial init self) (init,[self])) (j:rest.9<=sizeLine)
 (T:codeAny (model prog w) p (.call init {.ref (h.7+1)::rest,[]}) (InitBack (h.7+1) R) {(h.push (sL rest)).push (fK C h.7),g,d,t,os}) :
 wpAny (model prog w) p (ķ.«type.__call__» {.ref C::rest,[]}) (λfin s'=>match fin with |.done f=>R (.ok f) s' |.again I=>I.quiet=true/\codeAny (model prog w) A I R s') (λe s'=>R (.error e) s') ⟨h,g,d,t,os⟩:=by
 have F:=wcw
 repeat (first |with_reducible refine Č l ?_ |with_reducible refine wpAny_madeBy_exc l ?_ |wp_step)
 refine codeAny_call_builtin_code (wee _ F.quiet) (MR l ?_);refine MS l ?_ j;show wpAny _ _ _ _ _ _;have k:∀b o,h.get? b=ρ o->((h.push (sL rest)).push (fK C h.7)).get? b=ρ o:=λb o e=>Õ _ (Õ _ e)
 have a:=Õ {cls:=.ref C,data:=.fields #[.ref h.7,.none,.none,.none,.bool false,.none]}
  (Õ {cls:=.type "tuple",data:=.seq rest.6} l)
 have c:((h.push {cls:=.type "tuple",data:=.seq rest.6}).push {cls:=.ref C,data:=.fields #[.ref h.7,.none,.none,.none,.bool false,.none]}).get? (h.7+1)=ρ {cls:=.ref C,data:=.fields #[.ref h.7,.none,.none,.none,.bool false,.none]}:=by heap_get
 have i:(È C::mh CB).contains (.ref C)=true:=by simp
 have m:=hi.keeps k;have b1:=(J (.ref (h.7+1))).keeps k;unfold wfI
 repeat (first |with_reducible refine Č c ?_ |(with_reducible refine ŏ a ?_;rw[i]) |wp_step)
 show wpAny _ _ (wfE (.ref C) _) _ _ _;refine m.at ?_;refine þ (Â (b1.at ?_));refine Â (ě (Ī T λr s' z=>?_));rcases r with e |(v |_ |_ |_)<;>first |exact z |exact z.elim |skip
 let{rfl,z}:=z
 wp_walk
 exact z
theorem Ci{rest:List Value}{init:Value}(l:h.get? C=ρ (ć nm q C N bs (mh CB) hdct sn sub ab col dd k0 k1 k2 k3 k5 "ValueError.__new__"))
 (hi:Looks (model prog w) h (wfE (.ref C) "__init__") (ρ init)) (p:∀self,Looks (model prog w) h (bindSpecial init self) (init,[self])) (j:rest.9<=sizeLine)
 (r:codeAny (model prog w) (A.under (.builtin "type.__call__" {.ref C::rest,[]})) (.call init {.ref (h.7+1)::rest,[]}) (InitBack (h.7+1) R) {(h.push (sL rest)).push (fK C h.7),g,d,t,os}) :
 codeAny (model prog w) A (.call (.ref C) {rest,[]}) R ⟨h,g,d,t,os⟩:=by
 have f1:=tc_lookup;have f2:=PySem.tc_bind (.ref C);have a:(⟨h,g,d,t,os⟩:Shared).TypeIs (.ref C) "type":={_,l,rfl};refine wgj ?_;show wpAny _ _ (callAny (.ref C) _) _ _ _
 repeat (any_goals (first |assumption |with_reducible refine Č l ?_ |wp_step))
 refine{rfl,?_};exact codeAny_call_builtin_at (wee _ ∅) entry_typeCall (wpAny_check_type_call_sub l (KU l hi p j r))
end
section
variable{CB C:Addr}{name:Str}{ta tv:TE}
def Te(K:Á)(CB:Addr)(ta tv:TE)(name:Str):TS:=λD σ H=>tv σ H λy H1=>ta σ H1 λz H2=>∃x C nm,z=.ref x/\H2 x=ρ (XN x C)/\bJ K C CB nm/\findIn K (.ref C) name=ρ τ /\
 ∀d,H2 d=τ->D.nx σ (upd (upd H2 d (.xd [(name,y)])) x (XD x C d))
end
section
variable{P:Ê}{w:World}{H:Hp}{h:Heap}{x C t:Addr}
theorem Qf(e:h.get? x=ρ (fK C t)):bP P w H h x (XN x C):={⟨t,e⟩,{_,e},λc d ⟨a,b⟩ k=>{a,k _ b}}
end
section
variable{X:Cx}{CB C f:Addr}{fd:ï}{ps:List Str}{sp:Sp}{E:XK}{k:Nat}{p pos eX:Pos}{e:Expr}{es:List Expr}{t:TA}{x nm:Str}
theorem Inv.newExc(I:Inv X g σ H s)(us:List Value)(C:Addr) :
 Inv X g σ (upd H (s.8+1) (XN (s.8+1) C)) {s with heap:=(s.heap.push (sL us)).push (fK C s.8)}:=by
 have c:=I.kept (h':=s.heap.push (sL us)) (t':=s.toks) λb u q=>Õ _ q;refine c.laid (a:=s.8+1) (t':=s.toks) (λb u q=>Õ _ q) (Ν (Ĳ _ _)) (Qf (t:=s.8) ?_);have:=è (s.heap.push (sL us)) (o:=fK C s.8) rfl;rwa[Ĳ]at this
theorem rq(hT:Es X E)(hc:X.calm=true)(U:bJ X.K C CB nm)(hi:findIn X.K (.ref C) "__init__"=ρ (ρ (.ref f)))(J:isFn X.K (.ref f)=true)
 (F:aR X.prog X.w X.K X.mg X.base d4 k f fd ps sp) (hr:dJ (k+1) X.A) (hb:Binds X.K fd ps []) (hg:Gl X x) (hm:X.mg x=ρ (.ref C)) (ha:PA X (e::es) t)
 (T:(x==("__debug__":Str))=false:=by decide) (he:starEach (e::es) X.5=(false,eval e X.5)::starEach es X.5:=by rfl) (hpl:(backTo eX (starEach es X.5)).any (·.1)=false:=by rfl) :
 PS X (.Raise (ρ (.Call (.Name x p) (e::es) [] eX)) τ pos) (Qe X.K C sp E t):=by
 refine{?_};intro a s σ H D I h
 let{Z,N,bs,sn,sub,ab,col,dd,k0,k1,k2,k3,k5,lk}:=U.lk
 refine tG (C:=C) (CB:=CB) (nm:=nm) (q:=Z) (N:=N) (bs:=bs) (hdct:=true) (sn:=sn) (sub:=sub) (ab:=ab) (col:=col) (dd:=dd) (k0:=k0) (k1:=k1) (k2:=k2) (k3:=k3) (k5:=k5) (I.ok.hd hc) ?_;refine Ń (g8 I hg hm ?_ T);refine ų (h₀:=X.base) I.ok.mod.Ln U.kp (bQ (ha eX a s σ H _ I h) λc i ⟨vs,H1,j,r,m,q⟩=>{j.gJ,?_}) he hpl;have B:=j.b6.fresh (Ġ i.8);have Q:=q (i.8+1) B;have G:=Inv.newExc j c C;have R:Vals (V.ref (i.8+1)::vs) (È (i.8+1)::c):=.cons rfl r
 have hl:(È (i.8+1)::c++[]).9=ps.9:=by
  have S:=R.9;rw[F.len _ _ _ _ Q]at S;rw[û];exact S.symm
 have n:=hb _ (È (i.8+1)::c) G.gJ hl;rw[û]at n
 let{L,g,dr,tk,os}:=i
 refine ě (Ci (j.gJ _ _ lk) (ς j.gJ hi) (λself=>bind_fn j.gJ self (beq_iff_eq.mp J)) (by show c.9<=sizeLine;rw[<-r.9];exact m) ?_);refine Ī (F.run _ X.stack _ _ {È (L.7+1)::c,[]} (È (L.7+1)::c) _ _ E0 (hr.make C c []) (G.Io.make C c []) n R Q) λrr Y b=>?_
 cases rr with
 |error e=>exact é b
 |ok fl=>
  cases fl with
  |next=>exact é b
  |brk=>exact é b
  |cont=>exact é b
  |ret u=>
   let{v,H',l,rv,ev,q3}:=G.after b
   subst ev;refine{rv,?_};have o:X.s₀.8<=L.7+1:=Í j.sz (Ġ _);rcases q3 with⟨y,M⟩ |⟨d,y,M⟩
   .let{{O,z},_}:=l.b6 _ _ y
    exact{_,τ,O,rfl,l.gJ _ _ lk,z,hT a σ _ Y _ C τ (l.del y) {o,fX,_,_,z,by show 1<6;decide,.inl rfl} M}
   .let{{O,z},_}:=l.b6 _ _ y
    exact{_,ρ d,O,rfl,l.gJ _ _ lk,z,hT a σ _ Y _ C (ρ d) (l.del y) {o,fX,_,_,z,by show 1<6;decide,.inl rfl} M}
end
end _L
namespace _L
open PySem.Spec PyProof.Rows PySem.W Builtin Builtin.ObjectAttr
section
variable{X:Cx}{CB:Addr}{o value:Expr}{ta tv:TE}{name:Str}{pos pos':Pos}
def Qg(K:Á)(CB:Addr)(ta tv:TE)(name:Str):TS:=λD σ H=>tv σ H λy H1=>ta σ H1 λz H2=>∃x C nm d fs,z=.ref x/\H2 x=ρ (XD x C d)/\H2 d=ρ (.xd fs)/\fs.9<=50/\bJ K C CB nm/\findIn K (.ref C) name=ρ τ/\fs.lookup name=τ/\D.nx σ (upd H2 d (.xd (fs++[(name,y)])))
theorem KW(ha:PE X o ta)(J:PE X value tv)(hs:Ċ value (ρ (.Attribute o name pos')) pos.line X.5=pure false):PS X (.Assign [.Attribute o name pos'] value pos) (Qg X.K CB ta tv name):=by
 refine{?_};intro c s σ H D I h;refine wdb (bQ (J c s σ H _ I h) λu G ⟨y,L,M,O,q⟩=>bQ (ha c G σ L _ M q) λQ E R=>?_) hs
 let{z,i,g,S,x,C,T,d,fs,V,Y,hd,hl,U,hn,Z,q2}:=R
 subst V;obtain rfl:Q=È x:=S
 let{{t,ht},_}:=g.b6 x _ Y
 let{mA,ns,r}:=g.b6 d _ hd
 let{qn,N,bs,sn,sub,ab,m,dd,k0,k1,k2,k3,k5,lk}:=U.lk
 refine GK (CB:=CB) g.gJ ht ns (GJ r) (by rw[À];lia) (cd:={name:=T,bases:=bs,mro:=.ref C::mh CB,ns:=N,qualname:=qn,hasDict:=true,slotNames:=sn,subclasses:=sub,abstract:=ab,collection:=m,hasDel:=false}) (by unfold clsIn;rw[lk]) rfl rfl hn U.sa λp tk k j=>{σ,_,?_,q2}
 let{o',_,_,eo,_}:=id j
 have nx:∀{b:Addr} {o:HO},i b=ρ o->(∀fs,o≠.xd fs)->b≠d:=λe n z=>by rw[z,hd]at e;exact n _ (Ò e).symm
 have A:∀{b:Addr},i b=τ->b≠d:=λe z=>by rw[z,hd]at e;cases e
 have un:Un (rA X.stack) [] i (upd i d (.xd (fs++[(name,y)]))) E.heap p:=by
  refine{λb o q n _ _=>by rw[k b (A n)];exact q,λb o q n _ _=>{o.slots,by rw[k b (A n)];exact q},λb o q n _=>?_,λb o q _=>?_,λb vs q=>?_,λb o v q=>?_,λb ps q=>?_}
  .rw[ae (A n)];exact n
  .by_cases z:b=d
   .rw[z];exact{_,eo}
   .exact{o,by rw[k b z];exact q}
  .rw[ae (nx q λψ z=>by cases z)];exact q
  .rw[ae (nx q λψ z=>by cases z)];exact q
  .exact{#[],by rw[ae (nx q λψ z=>by cases z),q];simp}
 have b6:ku X.prog X.w (upd i d (.xd (fs++[(name,y)]))) p:=λa o e=>by
  by_cases z:a=d
  .subst z;rw[a6]at e;cases e;refine{_,j,λf=>?_};rw[BM Z]
   by_cases e:f=name
   .rw[if_pos e,if_pos e];exact O
   .rw[if_neg e,if_neg e];exact r f
  .rw[ae z]at e;refine(g.b6 a o e).ur (λb u l q=>?_) (λb q=>?_) λb vs q=>?_
   .rw[k b ?_]
    .exact q
    .rintro rfl;rcases l with rfl |l
     .exact z rfl
     .rw[hd]at l;cases l
   .rw[ae (λB=>by rw[B,hd]at q;cases q)];exact q
   .rw[ae (λB=>by rw[B,hd]at q;cases q)];exact q
 exact g.vp (s':={E with heap:=p,toks:=tk}) rfl un b6 g.bare λb z=>absurd z (by simp)
end
section
variable{prog:Ê}{w:World}{A:Around}{E:Value->Shared->Prop}{s:Shared}{K:Á}{x C CB:Addr}{name:Str}{v:Value}
theorem KY{Q:Unit->Shared->Prop}(X:K.In s.heap)(hx:s.heap.get? x=ρ (fK C t))(hc:clsIn K C=ρ cd)(hm:cd.mro=.ref C::mh CB)(hh:cd.hasDict=true)(ha:findIn K (.ref C) name=ρ τ)
 (hs:findIn K (.ref C) "__setattr__"=ρ (ρ (.builtin "object.__setattr__")))
 (h:∀h' d tk,s.8<=d->(∀b o,b≠x->s.heap.get? b=ρ o->h'.get? b=ρ o)->h'.get? x=ρ {cls:=.ref C,dict:=ρ d,data:=.fields #[.ref t,.none,.none,.none,.bool false,.none]}->h'.Ns1 d (λy=>if y=name then ρ v else τ)->Q .unit {s with heap:=h',toks:=tk}) :
 wpAny (model prog w) A (setAttr (.ref x) name v) Q E s:=by
 have J:InstAt s.heap x (fK C t) C τ:=⟨hx,rfl,rfl,trivial⟩;refine wfy X J hs (z8 (s:={s with toks:=s.toks+1}) X J hc hm ha ?_);unfold storeInOwnDict;refine Â (Ï ?_);rw[if_neg (by simp)];unfold ownDictForStores instanceDict;refine Â (Â (wfb hx ?_));dsimp only;refine Â (wfh (s:={s with toks:=s.toks+1}) (weq X hc) ?_);rw[hh];have YM:(s.heap.push {cls:=.type "dict",data:=.dict #[]}).get? x=ρ (fK C t):=Õ _ hx;have YN:x≠s.8:=Ù (Ì hx);simp only[whb,Ŗ,if_false,Bool.not_false,Τ];rw[if_neg (by simp[typeHasDict])];refine Â (wpAny_alloc ?_);refine Â (wpAny_update YM ?_);refine Ï ?_
 have Ur:((s.heap.push {cls:=.type "dict",data:=.dict #[]}).update x λo=>{cls:=o.cls,dict:=ρ s.8,data:=o.data,slots:=o.slots}).get? s.8
  =ρ {cls:=.type "dict",data:=.dict #[]}:=(whm _ _ _ _ YN.symm).trans (Heap.get?_push_at rfl rfl)
 have VY:((s.heap.push {cls:=.type "dict",data:=.dict #[]}).update x λo=>{cls:=o.cls,dict:=ρ s.8,data:=o.data,slots:=o.slots}).Ns s.heap.objs.size (λ_=>τ):=
  {_,#[],_,Ur,rfl,λe he=>absurd he (by simp),λ_=>rfl}
 show wpAny _ _ (storeInDict s.heap.objs.size (.str name s.toks) name v) _ _ _;unfold storeInDict newKeyGuard;refine Â (Ï (Â (whx (whG VY) λh' Cj NF=>?_)))
 let{oD,esD,epD,VJ,VL,VM}:=Cj.count (wgi name v Within.nil)
 refine Â (wfQ VJ (by rw[VL];exact wfR (Í VM (by rw[ê,weS,Ē];omega))) ?_)
 wp_walk
 refine h h' s.heap.objs.size _ (Ä _) (λb ob hbx hb=>?_) ?_ Cj
 .exact(NF.2 b (Ù (Ì hb))).trans ((whm _ _ _ _ hbx).trans (Õ _ hb))
 .exact(NF.2 x YN).trans (Ū _ YM rfl)
end
section
variable{prog:Ê}{w:World}{A:Around}{s:Shared}{K:Á}{x C CB:Addr}{R:ī->Shared->Prop}{nm q:Str}{N:Addr}{bs:List Value}{sn:List Str}{sub:List Value}{ab:Bool}{col:Option Bool}{dd:Option Addr}{k0 k1 k2 k3 k5:Option Value}
theorem xE(X:K.In s.heap)(j:s.heap.get? x=ρ (fK C t))(hk:K.lookup C=ρ (ć nm q C N bs (mh CB) true sn sub ab col dd k0 k1 k2 k3 k5 "ValueError.__new__"))
 (h:∀h' t',(∀b o,b≠x->s.heap.get? b=ρ o->h'.get? b=ρ o)->h'.get? x=ρ (fK C t')->R (.ok (.ret .none)) {s with heap:=h'}) :
 codeAny (model prog w) A (.call (.builtin "ValueError.__init__") {[.ref x,u],[]}) R s:=by
 have F:=wcw;have f:=X _ _ hk;have J:InstAt s.heap x (fK C t) C τ:=⟨j,rfl,rfl,trivial⟩;have sub:Looks (model prog w) s.heap (wfI (.ref x) (.type "ValueError")) true:=J.type.andThen (wgw X (by unfold mroIn clsIn;rw[hk];rfl));refine ż F.init.plain F.initEntry ?_;simp only[weD,F.initKind,F.initSplit,F.initRow];refine Â (sub.here ?_);simp only[whb,Ŗ,if_false];have a:=F.noStar
 let{c,g,d,l,os}:=s
 repeat (first |with_reducible refine Č f ?_ |wp_step)
 have i:x≠c.7:=Ù (Ì j);refine h _ c.objs.size (λb o k e=>?_) ?_
 .rw[đ _ _ (æ k)];exact Õ _ e
 .exact Ū _ (Õ _ j) rfl
end
section
variable{prog:Ê}{w:World}{A:Around}{E:Value->Shared->Prop}{s:Shared}{K:Á}{x C CB:Addr}{nm q:Str}{N:Addr}{bs:List Value}{sn:List Str}{sub:List Value}{ab:Bool}{col:Option Bool}{dd:Option Addr}{k0 k1 k2 k3 k5:Option Value}
theorem Ee{Q:Value->Shared->Prop}(X:K.In s.heap)(g:s.heap.get? x=ρ (fK C t))(hk:K.lookup C=ρ (ć nm q C N bs (mh CB) true sn sub ab col dd k0 k1 k2 k3 k5 "ValueError.__new__"))
 (h:∀h' t',(∀b o,b≠x->s.heap.get? b=ρ o->h'.get? b=ρ o)->h'.get? x=ρ (fK C t')->Q .none {s with heap:=h'}) :
 wpAny (model prog w) A (call (.builtin "ValueError.__init__") [.ref x,u]) Q E s:=ě (xE X g hk h)
end
end _L
namespace _L
open PySem.Spec PyProof.Rows
section
variable{X:Cx}{CB:Addr}{pos:Pos}{name:Str}{ta tv:TE}{o value:Expr}{pos':Pos}
theorem Ay(ha:PE X o ta)(T:PE X value tv)(hs:Ċ value (ρ (.Attribute o name pos')) pos.line X.5=pure false):PS X (.Assign [.Attribute o name pos'] value pos) (Te X.K CB ta tv name):=by
 refine{?_};intro g s σ H D I h;refine wdb (bQ (T g s σ H _ I h) λu L ⟨y,M,O,Q,q⟩=>bQ (ha g L σ M _ O q) λR G S=>?_) hs
 let{z,m,i,V,x,C,Y,Z,l,U,hn,q2}:=S
 subst Z;obtain rfl:R=È x:=V
 let{{t,ht},_}:=i.b6 x _ l
 let{qn,N,bs,sn,sub,ab,r,dd,k0,k1,k2,k3,k5,lk}:=U.lk
 refine KY (CB:=CB) i.gJ ht (cd:={name:=Y,bases:=bs,mro:=.ref C::mh CB,ns:=N,qualname:=qn,hasDict:=true,slotNames:=sn,subclasses:=sub,abstract:=ab,collection:=r,hasDel:=false}) (by unfold clsIn;rw[lk]) rfl rfl hn U.sa λA d tk hd k ex ns=>{σ,_,?_,q2 d (i.b6.fresh hd)};have YQ:d≠x:=λz=>by rw[z]at hd;exact absurd (â (i.b6.lt l) hd) (ă _)
 have c:=i.b6.fresh hd
 have un:Un (rA X.stack) [] m (upd (upd m d (.xd [(name,y)])) x (XD x C d)) G.heap A:=by
  have nx:∀{b:Addr} {o:HO},m b=ρ o->(∀ψ,o≠.ext ψ)->b≠x:=λe n z=>by rw[z,l]at e;exact n _ (Ò e).symm
  have B:∀{b:Addr},m b=τ->b≠x:=λe z=>by rw[z,l]at e;cases e
  refine{λb o q n _ _=>k b o (B n) q,λb o q n _ _=>{o.slots,k b o (B n) q},λb o q n _=>?_,λb o q _=>?_,λb vs q=>?_,λb o v q=>?_,λb ps q=>?_}
  .rw[ae (B n),ae (λz=>by rw[z]at q;exact absurd (â (Ì q) hd) (ă _))];exact n
  .by_cases z:b=x
   .rw[z];exact{_,ex}
   .exact{o,k b o z q}
  .rw[ae (nx q λψ z=>by cases z),ae (af q c)];exact q
  .rw[ae (nx q λψ z=>by cases z),ae (af q c)];exact q
  .exact{#[],by rw[ae (nx q λψ z=>by cases z),ae (af q c),q];simp}
 have b6:ku X.prog X.w (upd (upd m d (.xd [(name,y)])) x (XD x C d)) A:=λa o e=>by
  by_cases z:a=x
  .subst z;rw[a6]at e;cases e;exact Vs ex
  .rw[ae z]at e
   by_cases J:a=d
   .subst J;rw[a6]at e;cases e;refine{_,ns,λf=>?_}
    by_cases p:f=name
    .have j:(f==name)=true:=beq_iff_eq.mpr p;simp only[wfe,j,if_pos p];exact Q
    .have j:(f==name)=false:=beq_eq_false_iff_ne.mpr p;simp only[wfe,j,if_neg p]
     trivial
   .rw[ae J]at e;refine(i.b6 a o e).ur (λb u j q=>k b u ?_ q) (λb q=>?_) λb vs q=>?_
    .rintro rfl;rcases j with rfl |j
     .exact z rfl
     .rw[l]at j;cases j
    .have:b≠x:=λE=>by rw[E,l]at q;cases q
     rw[ae this,ae (af q c)];exact q
    .have:b≠x:=λE=>by rw[E,l]at q;cases q
     rw[ae this,ae (af q c)];exact q
 exact i.vp (s':={G with heap:=A,toks:=tk}) rfl un b6 i.bare λb z=>absurd z (by simp)
end
section
variable{X:Cx}{CB f:Addr}{p pos apos:Pos}{e e2:Expr}{t:TA}{EE:Str}
theorem xF(r:Gl X EE)(J:X.mg EE=ρ (.ref CB))(B:Nt X.K CB)(ha:PA X [e,e2] t)(g:(EE==("__debug__":Str))=false:=by decide)
 (he:starEach [e,e2] X.5=(false,eval e X.5)::starEach [e2] X.5:=by rfl) (hpl:(backTo pos (starEach [e2] X.5)).any (·.1)=false:=by rfl)
 (j:eval (.Call (.Attribute (.Name EE p) "__init__" apos) [e,e2] [] pos) X.5=(do
   let l <-eval (.Name EE p) X.5
   standAt apos.atName
   let (f,first) <-holding [l] (ţ l "__init__" pl)
   callWith pos f first (backTo pos (starEach [e,e2] X.5)) (backToKw pos (Ĭ [] X.5))):=by rfl) :
 PE X (.Call (.Attribute (.Name EE p) "__init__" apos) [e,e2] [] pos) (Qc X.K CB t):=by
 refine{?_};intro a s σ H Q I h;refine wdC (pl:=pl) (g8 I r J ?_ g) j;refine PySem.W.method_cls I.gJ B.sp (PySem.W.cls_value I.gJ B.rd B.fc rfl ?_);refine weU (bQ (ha pos a _ σ H _ (I.tok _) h) λG i n=>?_) he hpl
 let{L,v,c,w,x,C,M,m,y,d,U,q}:=n
 subst y
 let{O,R,rfl,A,S}:=vals2 w
 cases A
 let{{t,j},_}:=c.b6 x _ d
 let{T,N,bs,V,sub,ab,D,Y,Z,k1,k2,k3,k5,lk}:=U.lk
 refine Ee c.gJ j lk λh' t' k ex=>{.non,v,?_,rfl,q};have:=c.write (x:=x) (e:=x) (o:=XN x C) (h':=h') (t':=i.toks) (by rw[d];exact Ć) (.inl rfl) (λb u E z=>k b u E z) {_,ex} (Qf ex);rw[Og d]at this;exact this
end
section
variable{X:Cx}{CB C:Addr}{E:XK}{p pos eX:Pos}{e:Expr}{es:List Expr}{t:TA}{x nm:Str}
theorem fW(J:Es X E)(hc:X.calm=true)(U:bJ X.K C CB nm)(hi:findIn X.K (.ref C) "__init__"=ρ (ρ (.builtin "ValueError.__init__")))(T:Gl X x)(hm:X.mg x=ρ (.ref C))(ha:PA X (e::es) t)
 (l:(x==("__debug__":Str))=false:=by decide) (he:starEach (e::es) X.5=(false,eval e X.5)::starEach es X.5:=by rfl) (hpl:(backTo eX (starEach es X.5)).any (·.1)=false:=by rfl) :
 PS X (.Raise (ρ (.Call (.Name x p) (e::es) [] eX)) τ pos) (LK C E t):=by
 refine{?_};intro a s σ H D I h
 let{y,N,bs,sn,sub,ab,col,dd,k0,k1,k2,k3,k5,lk}:=U.lk
 refine tG (C:=C) (CB:=CB) (nm:=nm) (q:=y) (N:=N) (bs:=bs) (hdct:=true) (sn:=sn) (sub:=sub) (ab:=ab) (col:=col) (dd:=dd) (k0:=k0) (k1:=k1) (k2:=k2) (k3:=k3) (k5:=k5) (I.ok.hd hc) ?_;refine Ń (g8 I T hm ?_ l);refine ų (h₀:=X.base) I.ok.mod.Ln U.kp (bQ (ha eX a s σ H _ I h) λA c ⟨Q,B,d,r,f,q⟩=>{d.gJ,?_}) he hpl
 obtain⟨u,rfl⟩:∃u,A=[u]:=by
  have:=r.9;rw[f]at this;exact List.length_eq_one_iff.mp this.symm
 have m:=Inv.newExc d [u] C;have i:(upd B (c.8+1) (XN (c.8+1) C)) (c.8+1)=ρ (XN (c.8+1) C):=a6;have j:=d.b6.fresh (Ġ c.8)
 let{k,g,R,G,os}:=c
 refine ě (Ci (d.gJ _ _ lk) (ς d.gJ hi) (λself=>Looks.of_pure (wcw.init.bind self)) (by show 1<=sizeLine;decide) ?_)
 let{{S,L},_}:=m.b6 _ _ i
 refine xE m.gJ L lk λh' t' M ex=>{rfl,?_};have w:=m.write (x:=k.7+1) (e:=k.7+1) (o:=XN (k.7+1) C) (h':=h') (t':=G) (by rw[i];exact Ć) (.inl rfl) (λb u O z=>M b u O z) {_,ex} (Qf ex);rw[Eg]at w;have n:=w.del (x:=k.7+1) a6;rw[En j]at n;have v:X.s₀.8<=k.7+1:=Í d.sz (Ġ _);exact{_,τ,t',rfl,n.gJ _ _ lk,ex,J a σ _ _ _ C τ n {v,j,_,_,ex,by show 1<6;decide,.inl rfl} q}
end
end _L
namespace K54
section
variable{P:Ê}{w:World}{K:Á}{mg:Str->Option Value}{base:Heap}
theorem oM(L:Lk K mg):aR P w K mg base (uM P w) 1 L.qp L.qK ["sheet","many","steps","weight"] (Pn K L.aD L.fh):=by
 have T:=L.T;refine L.dY.F.wH (N:=["sheet","many","steps","weight"]) (λU A outer s H vs Q E nd hr h=>?_)
 let{x,many,v,w,hs,c,X,b,rfl,S,Y,Z,t,m0,m1,k}:=h
 refine{_,(a5 (b7 (cC iM (K6 T.len (2)) aj) (a9 (fW bE rfl L.iI L.j6 rfl L.iH (aH cI))) aJ)
  (a5 (b7 (cC lC (3) aj) (a9 (fW bE rfl L.iI L.j6 rfl L.iH (aH cI))) aJ)
  (a9 (b7 (cC lC (aF (my rfl) (by rfl) T.sum FV (aH (gp rfl (ax ["sheet"] [0]) (ax ["sheet"] [0]) ⋯ (aS (2)) (λ_ _ _ _ _ _=>bf) (λ_ _ _ _ _ _=>(bp (hX (K:=K) rfl) (nO (K:=K) rfl (2) rfl) (1) (λ_ _=>rfl)))))) (aA fo (1) (3))) (a9 (fW bE rfl L.iI L.j6 rfl L.iH (aH cI))) aJ)))),?_}
 ac_rfl
 let{dx,ah,bw,cl,hx,rh,u,rl}:=id S
 let{Y6,eb,hb}:=iR u
 cases eb
 let{a,o,rfl,p,J}:=ez Y
 have g:o.9=b.9:=by rw[J.1,À,À]
 have no:fu c many b w=false->∀y,a8 H y->E (.ref L.fh) τ y:=λh=>by
  rcases k with⟨r,_⟩ |⟨_,i⟩
  .rw[h]at r;cases r
  .exact i
 by_cases B:b=[]
 .subst B;have r0:o=[]:=Ŵ g;subst r0;exact{1,a,1,.inl p,rfl,true,HV _,cU {rfl,no rfl H (a8.refl _)}}
 have hq1:o.length≠0:=by rw[g];exact λz=>B (Ŵ z)
 have j:b.isEmpty=false:=by cases b with |nil=>exact absurd rfl B |cons _ _=>rfl
 refine{1,a,1,.inl p,rfl,false,congrArg V.bl (decide_eq_false λz=>by have:=V.int.inj z;rw[À]at this;omega),bo ?_}
 by_cases M:w<1
 .refine{1,_,1,rfl,true,congrArg V.bl (decide_eq_true M),cU {rfl,no ?_ H (a8.refl _)}};unfold fu;rw[decide_eq_false (show ¬1<=w by omega),ζ,ů]
 refine{1,_,1,rfl,false,congrArg V.bl (decide_eq_false M),bo ?_};refine{1,a,rfl,{_,p},λlc C=>?_};refine pd (prs:=b.map eR) (λ_=>true) (λq=>match q.2 with |.int e=>.int (c.getD e.toNat 0) |_=>.non) (aT K a (o.map V.ref)) J C (ak 1.0) (λy s'=>s'.seq p) (λq d O _ _ D=>D d (a8.refl _)) (λq d O hq _ l D=>?_) (λd l R=>?_)
 .let{f,G,rfl}:=Æ.mp hq
  have m:=t f G;have I:zv (c.map V.int) (f.2:Int)=ρ (.int (c.getD f.2 0)):=bL (by rw[Ç,Ã m,Ë,Ã m];rfl)
  have q2:O (.int (c.getD f.2 0)) d:=by
   have:=D d (a8.refl _);rwa[show (eR f).2=.int (f.2:Int) from rfl]at this
  exact{1,x,L.aD,dx,_,1,l _ _ hx,L.aC.cl,L.aC.dI,cO ah bw cl,1,bw,_,_,1,rfl,l.seq hb,I,q2}
 have e7:((b.map eR).filter λ_=>true).map (λq=>match q.2 with |.int e=>V.int (c.getD e.toNat 0) |_=>.non)=(b.map λq=>c.getD q.2 0).map V.int:=by
  rw[ĝ.mpr (λ_ _=>rfl),Î,Î];rfl
 rw[e7]at R;refine{lc,1,aO.of R,2,_,1,rfl,.inl {1.0,1.0},_,1,rfl,?_}
 by_cases n:bg c b<many*w
 .refine{true,congrArg V.bl (decide_eq_true n),cU {rfl,no ?_ d l}};unfold fu;rw[decide_eq_false (show ¬many*w<=bg c b by omega),ů,ů]
 .refine{false,congrArg V.bl (decide_eq_false n),bo ?_};rcases k with⟨_,r⟩ |⟨i,_⟩
  .exact r d l
  .unfold fu at i;rw[j,decide_eq_true (show 1<=w by omega),decide_eq_true (show many*w<=bg c b by omega)]at i;cases i
theorem KZ(L:Lk K mg):aR P w K mg base (uM P w) 4 L.Fa L.Fc ["sheet","many","desk","numbers","weight"] (ME K L.aD L.fh):=by
 have T:=L.T;refine L.uW.F.wH (N:=["sheet","many","desk","numbers","weight","line","chosen","others","rest","lines","weights","twin"]) (λhU A outer s H vs Q E nd hr h=>?_)
 let{x,a,many,u,w,ns,C,j,f,rfl,S,hA,Q0,Wv,m0,m1,k}:=h
 refine{_,(a5 (b7 (cH (bS (ao (m7 L) L.j1 (a7 (2) (aH (az (0) rfl)))))) (a9 (fW bE rfl L.iI L.j6 rfl L.iH (aH cI))) aJ)
  (a5 (ai (i:=5) (bp bM (az (0) rfl) (2) (λ_ _=>rfl)))
  (a5 (b7 (cH (bS (aF (B1 rfl) (by rfl) T.all Sg (aH (cK rfl (ax ["line"] [5]) (aS (3)) (λ_ _ _ _ _ _=>bf) (λ_ _ _ _ _ _=>(ao (m7 L) L.j1 (a7 (0) (aH (1)))))))))) (a9 (fW bE rfl L.iI L.j6 rfl L.iH (aH cI))) aJ)
  (a5 (tH (i:=6) rfl (ax ["numbers"] [3]) nd rfl rfl (ax ["numbers"] [3]) ⋯ (kD (by rfl) T.enum (aH (5))) (λ_ _ _ _ _ _=>hF (g7 (iO (K:=K) rfl) (0) (2) rfl)) (λ_ _ _ _ _ _=>(1)))
  (a5 (tH (i:=7) rfl (ax ["numbers"] [3]) nd rfl rfl (ax ["numbers"] [3]) ⋯ (kD (by rfl) T.enum (aH (5))) (λ_ _ _ _ _ _=>hF (g7 (xK (K:=K) rfl) (0) (2) rfl)) (λ_ _ _ _ _ _=>(1)))
  (a5 (ai (i:=8) (aA gf (bp bM (az (0) rfl) (2) (λ_ _=>rfl)) (4)))
  (a5 (bc (kE (oM L) (hr.mono ⋯) rfl L.dY.g L.dY.F.kp L.dY.b .nil (o4 bE) (a7 (0) (a7 (1) (a7 (6) (aH (4)))))))
  (a5 (bc (kE (oM L) (hr.mono ⋯) rfl L.dY.g L.dY.F.kp L.dY.b .nil (o4 bE) (a7 (0) (a7 (1) (a7 (7) (aH (8)))))))
  (a5 (ai (i:=9) (aA zO (az (0) rfl) (bI (aH (7)))))
  (a5 (vm (6) (Ig (9) (2) set_list))
  (a5 (ai (i:=10) (aA zO (az (0) rfl) (bI (aH (8)))))
  (a5 (vm (4) (Ig (10) (2) set_list))
  (a5 (ai (i:=11) (K6 T.len (az (0) rfl)))
  (a9 (aw (nN L.xf (gE L) (hr.mono ⋯) rfl L.Aj L.fb.b .nil pJ (a7 (aA zO (az (0) rfl) (bI (aH (bp bM (az (0) rfl) (2) (λ_ _=>rfl))))) (a7 (10) (aH (cK rfl (ax ["desk","twin"] [2,11]) (aS (9)) (λ_ _ _ _ _ _=>bf) (λ_ _ _ _ _ _=>(ao (xY L) L.qZ (a7 (0) (a7 (1) (aH (2)))))))))))))))))))))))))),?_}
 ac_rfl
 refine mj λR1 c1=>?_
 let{dx,M,bw,cl,hx,rh,Lc,rl}:=id S
 have hh:=uS rh;have hw:=Mt Lc
 let{SK,t,ec,hc,yC}:=id rl
 cases ec;have xl:t.9=f.9:=by rw[yC.len,À]
 have hn:=Wv.n;have xQ:=Wv.w;have DT:=Wv.l
 have no:eJ j f many u ns w=false->∀H',a8 H H'->E (.ref L.fh) τ H':=λh=>by
  rcases k with⟨k1,_⟩ |⟨_,k2⟩
  .rw[h]at k1;cases k1
  .exact k2
 cases h1:fB u f.length with
 |false=>
  refine{2,x,L.aD,dx,_,1,hx,L.aC.cl,L.aC.d2,bX M bw cl,u,cl,t,rfl,.inl hc,false,congrArg V.bl (by rw[xl];exact h1),cU {rfl,no ?_ H (a8.refl _)}};unfold eJ;rw[h1,ζ]
 |true=>
 obtain⟨d,rfl,hd⟩:∃d:Nat,u=(d:Int)/\d<f.9:=by
  unfold fB at h1;rw[ś]at h1;have a1:=of_decide_eq_true h1.1;have a2:=of_decide_eq_true h1.2;exact{u.toNat,(),()}
 refine{2,x,L.aD,dx,_,1,hx,L.aC.cl,L.aC.d2,bX M bw cl,_,cl,t,rfl,.inl hc,true,congrArg V.bl (by rw[xl];exact h1),bo ?_};refine c1 _ _ (mj λR2 c2=>?_);rw[ç]at k;have YQ:d<t.9:=();have YR:t[d]?=ρ t[d]:=Ã YQ
 let{dd,QG,rd}:=yC.get d _ YR
 have QH:f[d]?=ρ f[d]:=Ã hd;rw[Ç,QH]at QG;cases QG;have Ur:f.getD d []=f[d]:=by rw[Ë,QH];rfl
 have QI:f[d]∈f:=ñ hd;have WO:=Wv.m _ QI;have WQ:=Wv.e _ QI
 have YS:eJ j f many (d:Int) ns w=(ns.all (λi=>fB i f[d].9)&&(fu j many (b5 ns f[d]) w&&fu j many (b0 ns f[d]) (j.getD d 0-w))):=by
  unfold eJ;rw[h1,wey,ç,Ur]
 unfold dU at k;rw[Ur]at k;rw[YS]at k no;refine{1,x,L.aD,dx,_,1,hx,L.aC.cl,L.aC.d2,bX M bw cl,1,cl,t,_,t[d],rfl,rfl,.inl hc,bL YR,?_}
 let{al,ys,el,O,KQ}:=rd
 rw[el];have yl:ys.9=f[d].9:=by rw[KQ.len,À]
 generalize f[d]=p at YS QI WO WQ KQ yl k no;refine c2 _ _ (mj λR3 c3=>?_);refine{1,a,rfl,{_,hA},λl1 KM=>?_};refine comp_map (λv=>match v with |.int i=>V.bl (fB i ys.9) |_=>.non) (aT K a (ns.map V.int)) KM (by rw[À];exact ak ()) (λH' s'=>s'.seq hA) (λz H2 Q' hz s2 R=>?_) (λH2 s2 h2=>?_)
 .let{i,1}:=Æ.mp hz
  exact{2,i,al,ys,rfl,s2.seq (.inl O),R H2 (a8.refl _)}
 have e2:(ns.map V.int).map (λv=>match v with |.int i=>V.bl (fB i ys.9) |_=>.non)=(ns.map λi=>fB i p.9).map V.bl:=by
  rw[Î,Î,yl];rfl
 rw[e2]at h2
 have Tf:((ns.map λi=>fB i p.9).all id)=ns.all (λi=>fB i p.9):=by
  rw[wfM];rfl
 cases h3:ns.all (λi=>fB i p.9) with
 |false=>
  refine{l1,1,aO.of h2,false,congrArg V.bl (Tf.trans h3),cU {rfl,no ?_ H2 s2}};rw[h3,ζ]
 |true=>
 refine{l1,1,aO.of h2,true,congrArg V.bl (Tf.trans h3),bo ?_};refine c3 _ _ (mj λR4 c4=>?_);rw[h3,wey]at k no;refine{1,al,ys,rfl,s2.seq (.inl O),λlc Q7=>?_};refine z9 (λi=>pO (.int (i:Nat)) (ns.map V.int)) (s2.seq (.inl O)) Q7 (ak ()) (λi y H3 Q' _ s3 R=>?_) (λi y H3 Q' _ s3 R=>{1,R H3 (a8.refl _)}) (λH3 s3 YT=>?_)
 .exact{2,a,1,.inl ((s2.trans s3).seq hA),rfl,fM ns,1,R H3 (a8.refl _)}
 have ein:(λi:Nat=>pO (.int (i:Nat)) (ns.map V.int))=λi:Nat=>decide ((i:Int)∈ns):=funext λi=>vo _ ns;rw[ein]at YT;have Au:=s2.trans s3;refine c4 _ _ (mj λR5 c5=>?_);refine{1,al,ys,rfl,Au.seq (.inl O),λlo RJ=>?_};refine z9 (λi=>!pO (.int (i:Nat)) (ns.map V.int)) (Au.seq (.inl O)) RJ (ak ()) (λi y H4 Q' _ s4 R=>?_) (λi y H4 Q' _ s4 R=>{1,R H4 (a8.refl _)}) (λH4 s4 YV=>?_)
 .exact{2,a,1,.inl ((Au.trans s4).seq hA),rfl,fM ns,1,R H4 (a8.refl _)}
 have WR:(λi:Nat=>!pO (.int (i:Nat)) (ns.map V.int))=λi:Nat=>!decide ((i:Int)∈ns):=funext λi=>congrArg (!·) (vo _ ns);rw[WR]at YV;have B:=Au.trans s4;refine c5 _ _ (mj λR6 c6=>?_);have h4c:=s4 _ _ YT;have rC:bN K H4 (cj (b5 ns p)) (.ref lc):={lc,1,.inl h4c,Bu _ (bz.same B _ _ KQ)};have rO:bN K H4 (cj (b0 ns p)) (.ref lo):={lo,1,.inl YV,Bu _ (bz.same B _ _ KQ)};have YW:(b5 ns p).9<=5000:=Í (nL _ _ _) WO;have ol5:(b0 ns p).9<=5000:=Í (nL _ _ _) WO;have ce:∀q∈b5 ns p,q.2<j.9:=λq hq=>by rw[xQ];exact WQ q (eu hq)
 have oe:∀q∈b0 ns p,q.2<j.9:=λq hq=>by rw[xQ];exact WQ q (eu hq)
 have YX:d<j.9:=();have WT:zv (j.map V.int) (d:Int)=ρ (.int (j.getD d 0)):=bL (by rw[Ç,Ã YX,Ë,Ã YX];rfl);refine{1,x,L.aD,dx,_,1,B _ _ hx,L.aC.cl,L.aC.dI,cO M bw cl,1,bw,_,_,1,rfl,B.seq (.inl hw),WT,1,_,1,rfl,?_};show bR 8 (V.int (j.getD d 0-w)) _ _ _;refine c6 _ _ (mj λR7 c7=>?_);have S4:=S.same B;refine{4,x,many,.ref lc,w,C,j,f,b5 ns p,rfl,S4,rC,(),ce,m0,m1,?_}
 cases h5:fu j many (b5 ns p) w with
 |false=>exact .inr {rfl,λH5 s5=>no (by rw[h5,ζ]) H5 (B.trans s5)}
 |true=>
 refine .inl {rfl,λH5 s5=>?_};refine c7 _ _ (mj λR8 c8=>?_);rw[h5,wey]at k no;refine{4,x,many,.ref lo,j.getD d 0-w,C,j,f,b0 ns p,rfl,S4.same s5,bN.same s5 _ _ rO,(),oe,m0,m1,?_}
 cases h6:fu j many (b0 ns p) (j.getD d 0-w) with
 |false=>exact .inr {rfl,λH6 s6=>no h6 H6 ((B.trans s5).trans s6)}
 |true=>
 refine .inl {rfl,λH6 s6=>?_};refine c8 _ _ ?_;obtain⟨_,kk⟩:True/\_:=⟨trivial,k⟩;rcases kk with⟨_,k⟩ |⟨k1,_⟩
 rotate_left
 .rw[h6]at k1;cases k1
 have WU:=s5.trans s6;have O1:=B.trans WU;have rC6:=bN.same WU _ _ rC;have rO6:=bN.same WU _ _ rO;have big:∀n:Nat,n<=20000->n<=sizeLine:=λn hn=>Í hn (by rw[Ē];decide);refine{1,x,L.aD,dx,_,1,O1 _ _ hx,L.aC.cl,L.aC.d2,bX M bw cl,1,by show 1<=sizeLine;decide,λl7 QF=>?_};refine{cl,l7,t,[.ref lo],rfl,rfl,pG (O1.trans (a8.upd QF)) hc,.inl a6,big _ (by show t.9+1<=_;lia),λU I=>?_};have YY:a8 H6 (upd H6 l7 (.lst [V.ref lo])):=a8.upd QF;generalize upd H6 l7 _=X at YY I;have s6b:a8 X (upd X U (.lst (t++[V.ref lo]))):=a8.upd I
 have Yh:Fy (t++[V.ref lo]).length (d:Int)=ρ d:=by
  have Y:(t++[V.ref lo]).9=t.9+1:=by rw[É];rfl
  unfold Fy;rw[Y,if_pos (),if_pos (),ç]
 refine{3,U,_,_,d,rfl,rfl,a6,Yh,?_};have U3:(upd (upd X U (.lst (t++[V.ref lo]))) U _) U=ρ (.lst ((t++[V.ref lo]).set d (V.ref lc))):=a6
 have Us:a8 H6 (upd (upd X U (.lst (t++[V.ref lo]))) U (.lst ((t++[V.ref lo]).set d (V.ref lc)))):=λc o e=>by
  have J:=YY _ _ e;rw[ae (af J I),ae (af J I)];exact J
 generalize upd (upd X U _) U _=H8 at U3 Us;have QJ:=O1.trans Us
 have rL8:bz K H8 (((f++[b0 ns p]).set d (b5 ns p)).map cj) ((t++[V.ref lo]).set d (V.ref lc)):=by
  have r1:bz K H8 (f.map cj++[cj (b0 ns p)]) (t++[V.ref lo]):=iF (bz.same QJ _ _ yC) (bN.same Us _ _ rO6)
  have e:((f++[b0 ns p]).set d (b5 ns p)).map cj=(f.map cj++[cj (b0 ns p)]).set d (cj (b5 ns p)):=by
   rw[List.map_set,Ü];rfl
  rw[e];exact r1.set d (bN.same Us _ _ rC6)
 refine{1,x,L.aD,dx,_,1,QJ _ _ hx,L.aC.cl,L.aC.dI,cO M bw cl,1,by show 1<=sizeLine;decide,λl9 YZ=>?_};refine{bw,l9,_,[.int (j.getD d 0-w)],rfl,rfl,pG (QJ.trans (a8.upd YZ)) hw,.inl a6,big _ (by rw[À];show j.9+1<=_;lia),λlw Q8=>?_};have Z0:a8 H8 (upd H8 l9 (.lst [.int (j.getD d 0-w)])):=a8.upd YZ;generalize upd H8 l9 _=WV at Z0 Q8;have WW:j.map V.int++[V.int (j.getD d 0-w)]=(j++[j.getD d 0-w]).map V.int:=by rw[Ü];rfl
 rw[WW]
 have WX:Fy ((j++[j.getD d 0-w]).map V.int).length (d:Int)=ρ d:=by
  have Y:((j++[j.getD d 0-w]).map V.int).9=j.9+1:=by rw[À,É];rfl
  unfold Fy;rw[Y,if_pos (),if_pos (),ç]
 refine{3,lw,_,_,d,rfl,rfl,a6,WX,?_}
 have WY:((j++[j.getD d 0-w]).map V.int).set d (.int w)=(cW j d w).map V.int:=by
  unfold cW;rw[List.map_set]
 rw[WY];have Z1:(upd (upd WV lw (.lst ((j++[j.getD d 0-w]).map V.int))) lw _) lw=ρ (.lst ((cW j d w).map V.int)):=a6
 have WZ:a8 H8 (upd (upd WV lw (.lst ((j++[j.getD d 0-w]).map V.int))) lw (.lst ((cW j d w).map V.int))):=λc o e=>by
  have J:=Z0 _ _ e;rw[ae (af J Q8),ae (af J Q8)];exact J
 generalize upd (upd WV lw _) lw _=H9 at Z1 WZ;have D:=QJ.trans WZ;refine{1,x,L.aD,dx,_,1,D _ _ hx,L.aC.cl,L.aC.d2,bX M bw cl,cl,t,rfl,.inl (D.seq (.inl hc)),?_};rw[xl];have Z2:d<C.9:=();have X0:zv (C.map V.str) (d:Int)=ρ (.str (C.getD d "")):=bL (by rw[Ç,Ã Z2,Ë,Ã Z2];rfl);refine{1,x,L.aD,dx,_,1,D _ _ hx,L.aC.cl,L.aC.gm,fN M bw cl,1,x,L.aD,dx,_,1,D _ _ hx,L.aC.cl,L.aC.gm,fN M bw cl,1,M,_,_,1,rfl,D.seq (.inl hh),X0,by show 1<=sizeLine;decide,λl10 Tg=>?_};refine{M,l10,_,[.str (C.getD d "")],rfl,rfl,pG (D.trans (a8.upd Tg)) hh,.inl a6,big _ (by rw[À];show C.9+1<=_;lia),λlh QD=>?_};have Z3:a8 H9 (upd H9 l10 (.lst [.str (C.getD d "")])):=a8.upd Tg;generalize upd H9 l10 _=Z4 at Z3 QD;have Th:C.map V.str++[V.str (C.getD d "")]=(dG C d).map V.str:=by unfold dG;rw[Ü];rfl
 rw[Th];have Ut:=Z3.trans (a8.upd (o:=.lst ((dG C d).map V.str)) QD);have Ti:(upd Z4 lh _) lh=ρ (.lst ((dG C d).map V.str)):=a6;generalize upd Z4 lh _=Nf at Ut Ti;have O3:=WZ.trans Ut;have Z:=O3 _ _ U3;have X1:=bz.same O3 _ _ rL8;have zl:((t++[V.ref lo]).set d (V.ref lc)).9=f.9+1:=by rw[ŧ,É,xl];rfl
 refine{2,U,rfl,{_,aO.of Z},λlt Pz=>?_}
 have Qa:∀l∈(f++[b0 ns p]).set d (b5 ns p),l.9<=5000:=λl hl=>by
  rcases wd5 hl with z |z
  .rcases ä.mp z with z |z
   .exact Wv.m l z
   .rw[Þ.mp z];exact ol5
  .rw[z];exact YW
 refine wK (K:=K) ((((f++[b0 ns p]).set d (b5 ns p)).map (fi d f.9)).map cj) (aT K U ((t++[V.ref lo]).set d (V.ref lc))) Pz (big _ (by rw[zl];lia)) (by rw[À,À,ŧ,É,zl];rfl) (λH' s'=>aO.of (s' _ _ Z)) (λi y dt Ng Q' hy Lf G R=>?_) (λNg G r11=>?_)
 .let{d',J,r}:=X1.get i y hy
  rw[Ç]at J Lf;rw[Ç]at Lf
  cases e:((f++[b0 ns p]).set d (b5 ns p))[i]? with
  |none=>rw[e]at J;cases J
  |some l=>
   rw[e]at J Lf;cases J;cases Lf;exact{3,y,d,f.9,l,rfl,bN.same G _ _ r,Qa l (Ð e),λz O2 HH r12=>R z O2 HH r12}
 intro y dy ny Wo ney;have sm:a8 Ng (upd (upd Ng dy (.own y)) y (.ins L.aD dy [])):=fP ny Wo;have L1:=D.trans Ut;refine{y,dy,.ref lh,.ref lw,.ref lt,dG C d,cW j d w,((f++[b0 ns p]).set d (b5 ns p)).map (fi d f.9),rfl,a6,qa (sm _ _ (G _ _ Ti)),jS (sm _ _ (G _ _ (Ut _ _ Z1))),bN.same ((ck _ _).trans sm) _ _ r11,?_,?_,?_,?_,λa' b' c' O2 X2 q1 q2 q3 X3=>{rfl,?_}}
 .unfold dG;rw[É];show C.9+1<=_;lia
 .unfold cW;rw[ŧ,É];show j.9+1<=_;lia
 .rw[À,ŧ,É];show f.9+1<=_;lia
 .intro l hl
  let{l',T9,rfl}:=Æ.mp hl
  have:=rV d f.length l';have:=Qa l' T9
  lia
 .have HH:a8 Ng O2:=λc o e=>X3 _ _ (sm _ _ e) (af e ny);refine k y O2 (L1.trans (G.trans HH)) ?_;have Ws:H y=τ:=none_of (L1.trans G) ny;have nw:=λ(dd:kj) (v:V) (r:bN K (aM _ O2) dd v)=>bN.same (f9 ((L1.trans G).trans sm)) dd v r;exact{dy,a',b',c',cg Ws X2,nw _ _ q1,nw _ _ q2,nw _ _ q3}
theorem jF(L:Lk K mg):aR P w K mg base (uM P w) 7 L.fS L.fU ["band","many","wide"] (Kh L.aB L.nE):=by
 have T:=L.T;refine L.cB.F.wH (N:=["band","many","wide","most","weights","in_all"]) (λX A outer s H vs Q E nd hr h=>?_)
 let{x,many,n,g,M,ss,ls,rfl,B,r,t,u,y,k,O}:=h
 refine{_,(a5 (D0 wfC rfl (rN rfl T.range (a7 aj (aH (aA bZ (cA (v:=.int 8) (by rfl) L.xu.choose_spec {_,rfl}) aj)))) (ay (i:=3)) (a5 (ai (i:=4) (ao (Ca L) L.xa (a7 (0) (a7 (1) (a7 (2) (aH (3)))))))
  (a5 (ai (i:=5) (aF (Hs rfl) (by rfl) T.sum FV (aH (ED (K:=K) rfl wde wea wg0 yE (4)))))
  (a5 (b7 (cC nY (5) (cA (v:=.int 40) (by rfl) L.mi.choose_spec {_,rfl})) (a9 (fW bE rfl L.xn L.Fi rfl L.Ak (aH cI))) aJ)
  (a9 (b7 (cC nY (5) aj) (a9 (aw (4))) aJ))))))
  (a9 (fW bE rfl L.xn L.Fi rfl L.Ak (aH cI)))),?_}
 ac_rfl
 refine⟨_,_,rfl,rfl,1,9,rfl,⋯,?_⟩;refine dE (lo:=1) (n:=8) (λi σ q=>∃z v4 C:Option V,σ=[ρ (.ref x),ρ (.int many),ρ (.int (n:Int)),z,v4,C]/\a8 H q/\∀(m:Int) (h:Str->Int),1<=m->m<1+(i:Int)->o8 g M ss ls many n m h->(ls.map h).sum=0) {τ,τ,τ,rfl,a8.refl _,λm h R Y=>()} ?_ ?_
 .rintro i σ q hi ⟨z,v4,C,rfl,j,l⟩;refine{4,x,many,n,1+(i:Int),g,M,ss,ls,rfl,B.same j,r,t,u,y,(),λd f S Z fd D G=>?_};refine{1,.inr (.inr (.inl {rfl,.inl {_,D}})),d,1,rfl,D,λv hv=>?_};have I:=a8.upd (o:=pF v d) hv;have J:=I _ _ D;have p:(upd S v _) v=ρ (pF v d):=a6;generalize upd S v _=U at I J p;have a:=j.trans (Z.trans I);refine{v,d,_,ls.map f,rfl,p,J,Dp f ls,?_}
  by_cases b:(40:Int)<(ls.map f).sum
  .refine{1,_,1,rfl,true,congrArg V.bl (decide_eq_true b),cU {rfl,?_}};exact O {1+(i:Int),(),(),l,.inr ⟨f,G,b⟩} U a
  refine{1,_,1,rfl,false,congrArg V.bl (decide_eq_false b),bo ?_}
  by_cases h0:(0:Int)<(ls.map f).sum
  .refine{1,_,1,rfl,true,congrArg V.bl (decide_eq_true h0),cU {1,?_}};exact k d f U a (none_of j fd) J {{1+(i:Int),(),(),G,l},h0,()}
  .refine{1,_,1,rfl,false,congrArg V.bl (decide_eq_false h0),bo ?_};refine{_,_,1,a,λm h R Y c=>?_}
   by_cases e:m=1+(i:Int)
   .subst e;have:=Gy G c;have:=vN c.nn
    lia
   .exact l m h R () c
 .rintro σ q ⟨z,v4,C,rfl,j,l⟩;exact{rfl,O ⟨9,⋯,⋯,l,.inl rfl⟩ q j}
end
end K54
namespace _S
inductive Tj(C:Addr)(name:Str)(ok:V->Prop)(vs:List V)(H:Hp)(Q:VK)(eF:XK):Prop
 |mk (x v) (_:vs=[.ref x,v]) (_:ok v) (_:H x=ρ (XN x C)) (_:∀d,H d=τ->Q .non (upd (upd H d (.xd [(name,v)])) x (XD x C d)))
inductive X4(C:Addr)(n1 n2:Str)(dM ok2:V->Prop)(vs:List V)(H:Hp)(Q:VK)(eF:XK):Prop
 |mk (x u v) (_:vs=[.ref x,u,v]) (_:dM u) (_:ok2 v) (_:H x=ρ (XN x C)) (_:∀d,H d=τ->Q .non (upd (upd H d (.xd [(n1,u),(n2,v)])) x (XD x C d)))
end _S
namespace K54
section
variable{P:Ê}{w:World}{K:Á}{mg:Str->Option Value}{base:Heap}
theorem pB(L:Lk K mg):aR P w K mg base d4 1 L.eL L.gD ["self","length","rows"] (X4 L.cz "length" "rows" NR NR):=by
 refine L.C6.dM (N:=["self","length","rows"]) (λm A outer s H n Q E nd o h=>?_)
 let{x,u,v,rfl,{i,rfl,a},{j,rfl,b},g,k}:=h
 refine{_,(a5 (bc (xF rfl L.jt L.XB (a7 (0) (aH (zL (rR (zQ (1) (rR (zQ (2) (rR CZ))))))))))
  (a5 (Ay (CB:=L.aI) (0) (1) rfl)
  (a9 (KW (CB:=L.aI) (0) (2) rfl)))),?_}
 ac_rfl
 have l1:=wdt a;have l:=wdt b;refine{1,ak ?_,1,.inl {i,rfl,a,ak ?_,ak ?_,1,.inl {j,rfl,b,ak ?_,ak ?_,ak ?_,x,L.cz,_,1,g,L.ia,?_}}}
 .exact Í (show _<=1000 by decide+kernel) ⋯
 .exact Í (gj (show _<=1000 by decide+kernel) l1) ⋯
 .exact Í (gj (gj (show _<=1000 by decide+kernel) l1) (show _<=1000 by decide+kernel)) ⋯
 .exact Í (gj (gj (gj (show _<=1000 by decide+kernel) l1) (show _<=1000 by decide+kernel)) l) ⋯
 .exact Í (gj (gj (gj (gj (show _<=1000 by decide+kernel) l1) (show _<=1000 by decide+kernel)) l) (show _<=1000 by decide+kernel)) ⋯
 .exact Í (gj (gj (gj (gj (show _<=1000 by decide+kernel) l1) (show _<=1000 by decide+kernel)) l) (show _<=1000 by decide+kernel)) ⋯
 refine{2,x,L.cz,1,g,L.ia,L.uz,λd hd=>?_};have f:d≠x:=λz=>by rw[z,g]at hd;cases hd
 refine{2,x,L.cz,_,d,[("length",.int i)],rfl,a6,by rw[ae f,a6],by show 1<=50;decide,L.ia,L.xR,by rw[ĉ,show (("rows":Str) == "length")=false by decide+kernel];rfl,?_}
 have e:upd (upd (upd H d (.xd [(("length":Str),V.int i)])) x (XD x L.cz d)) d (.xd ([(("length":Str),V.int i)]++[(("rows":Str),V.int j)]))=upd (upd H d (.xd [(("length":Str),V.int i),(("rows":Str),V.int j)])) x (XD x L.cz d):=by
  funext c
  by_cases a:c=d
  .subst a;rw[a6,ae f,a6];rfl
  .rw[ae a]
   by_cases b:c=x
   .subst b;rw[a6,a6]
   .rw[ae b,ae b,ae a,ae a]
 rw[e];exact k d hd
theorem nX(L:Lk K mg):aR P w K mg base (uM P w) 8 L.iV L.iY ["band","many","wide"] (MG L.aB L.cz):=by
 refine L.dZ.F.wH (N:=["band","many","wide","length"]) (λC A outer s H S Q E nd D h=>?_)
 let{x,many,n,g,bw,ss,ls,rfl,B,l,m,f,k,G}:=h
 refine{_,(a5 (ai (i:=3) (ao (Hr L) L.C3 (a7 (0) (a7 (1) (a7 (2) (aH (cA (v:=.int 24) (by rfl) L.xt.choose_spec {_,rfl})))))))
  (a9 (b7 (cC zG (3) eO) (a9 (rq bE rfl L.ia L.He L.Hf (pB L) (D.mono ⋯) L.C7 rfl L.xm (a7 (3) (aH (ao (KJ L) L.Fd (a7 (0) (aH (aA fo (3) (2))))))))) aJ))),?_}
 ac_rfl
 refine⟨_,rfl,_,rfl,_,rfl,x,many,(n:Int),24,g,bw,ss,ls,rfl,B,l,m,f,⋯,⋯,λv I o p=>?_⟩;rw[ç]at p;have q:=p
 cases p with
 |none a=>exact{1,rfl,false,rfl,bo (k (λj u J=>a j u J) I o)}
 |some j a b c d=>
  refine{_,rfl,rfl,true,rfl,cU ?_}
  have hk:(j:Int)*(n:Int)<=100000:=by
   have u:(j:Int)*(n:Int)<=24*6:=Int.mul_le_mul b f.d () ()
   lia
  have r:0<=(j:Int)*(n:Int):=Int.mul_nonneg () ();have M:((j:Int)*(n:Int)).toNat=j*n:=by rw[<-ą,ç]
  refine{4,_,1,rfl,?_,x,(j:Int)*(n:Int),g,bw,ss,ls,rfl,B.same o,l,m,r,hk,λT y=>?_}
  .exact .inl {(),()}
  rw[M];refine{by show 2<=sizeLine;decide,λe O=>{e,_,1,{1,?_},{1,?_},a6,λt hd=>{rfl,.inr {t,a6,?_}}}}
  .have:=wi6 ((j:Nat):Int).natAbs
   lia
  .exact DC f b c
  let{U,z,R}:=iP (o2:=.xd [("length",.int (j:Nat)),("rows",.int (iD g bw ss (j*n) ""))]) (o3:=XD e L.cz t) O hd
  rw[R];exact G j t _ q ((o.trans y).trans (a8.upd z)) (none_of (o.trans y) z) a6
theorem rx(L:Lk K mg):aR P w K mg base d4 1 L.fg L.gY ["self","number"] (Tj L.cf "number" NQ):=by
 refine L.Fg.dM (N:=["self","number"]) (λc A outer s H f Q E nd g h=>?_)
 let{x,v,rfl,{i,rfl,hi},b,k}:=h
 refine{_,(a5 (bc (xF rfl L.jt L.XB (a7 (0) (aH (zL (rR (zQ (1) (rR CZ))))))))
  (a9 (Ay (CB:=L.aI) (0) (1) rfl))),?_}
 ac_rfl
 let{e,a}:=EG i hi
 refine{1,ak ∅,1,.inl {i,rfl,e,ak ?_,ak ?_,ak ?_,x,L.cf,_,1,b,L.gB,?_}}
 .rw[len_app];exact Í (ĺ (show _<=1000 by decide+kernel) a) ⋯
 .rw[len_app,len_app];exact Í (ĺ (ĺ (show _<=1000 by decide+kernel) a) (show _<=1000 by decide+kernel)) ⋯
 .rw[len_app,len_app];exact Í (ĺ (ĺ (show _<=1000 by decide+kernel) a) (show _<=1000 by decide+kernel)) ⋯
 exact{2,x,L.cf,1,b,L.gB,L.j4,λd hd=>k d hd}
theorem ib(L:Lk K mg):aR P w K mg base d4 1 L.dD L.fv ["self","length"] (Tj L.aU "length" NQ):=by
 refine L.xk.dM (N:=["self","length"]) (λc A outer s H f Q E nd g h=>?_)
 let{x,v,rfl,{i,rfl,hi},b,k}:=h
 refine{_,(a5 (bc (xF rfl L.jt L.XB (a7 (0) (aH (zL (zQ (1) (rR CZ)))))))
  (a9 (Ay (CB:=L.aI) (0) (1) rfl))),?_}
 ac_rfl
 let{e,a}:=EG i hi
 refine{2,.inl {i,rfl,e,ak ?_,ak ?_,ak ?_,x,L.aU,_,1,b,L.bW,?_}}
 .rw[len_app];exact Í (ĺ (show _<=1000 by decide+kernel) a) ⋯
 .rw[len_app,len_app];exact Í (ĺ (ĺ (show _<=1000 by decide+kernel) a) (show _<=1000 by decide+kernel)) ⋯
 .rw[len_app,len_app];exact Í (ĺ (ĺ (show _<=1000 by decide+kernel) a) (show _<=1000 by decide+kernel)) ⋯
 exact{2,x,L.aU,1,b,L.bW,L.gC,λd hd=>k d hd}
theorem eM(L:Lk K mg):aR P w K mg base (uM P w) 3 L.jZ L.kd ["self","row"] (BC L.aB L.cf):=by
 have T:=L.T;refine L.bC.F.wH (N:=["self","row","number","sign"]) (λI A outer s H Y Q E nd J h=>?_)
 let{x,r,g,Z,ss,ls,rfl,B,k}:=h
 let{{M,b,d,q,mv,O,h2,h3,h4,h5,h6},_,_,_}:=id B
 refine{_,(a9 (D0 wfC rfl (BP (by rfl) T.enum (aH (1))) (eE rfl (aQ (ay (i:=2)) (aQ (ay (i:=3)) d1))) (a9 (b7 (g7 zH (3) (az (0) rfl) rfl) (a9 (rq bE rfl L.gB L.Ko L.Kp (rx L) (J.mono ⋯) L.Fh rfl L.Fe (aH (2)))) aJ)))),?_}
 ac_rfl
 refine{1,r,rfl,yV (λi σ m=>a8 H m/\(∀j c,j<i->(ch r)[j]?=ρ c->c∈ch g)/\∃t u,σ=[ρ (.ref x),ρ (.str r),t,u]) {a8.refl _,λj c h=>absurd h (ť _),τ,τ,rfl} ?_ ?_}
 .rintro i c σ m T hc ⟨v,lo,t,u,rfl⟩ R;have n:=v.trans (a8.upd (o:=.tup [.int (i:Nat),.str {#[c]}]) R);have S:i<r.9:=by rw[<-aP];exact(Ñ.mp hc).1
  refine{T,1,gM.of a6,rfl,_,1,_,1,rfl,?_};refine{2,x,L.aB,M,_,1,n _ _ O,L.aK.cl,L.aK.q8,kJ g b d q,_,1,rfl,1,?_};have e:=EX g c;unfold NS at e
  by_cases a:c∈ch g
  .rw[decide_eq_true a]at e;rw[e];refine bo {n,λj U hj f=>?_,_,1}
   by_cases y:j<i
   .exact lo j U y f
   .obtain rfl:j=i:=1.0;rw[hc]at f;cases f;exact a
  .rw[decide_eq_false a]at e;rw[e];refine cU ?_;have o:Out g r i:={⟨c,hc,a⟩,lo}
   obtain⟨l,z⟩:r.9<=1000/\J8 L.cf "number" (.int (i:Nat)) H E:=by
    rcases k with⟨C,_⟩ |⟨j,l,p,z⟩
    .exact(o.no C).elim
    .rw[o.one p];exact⟨l,z⟩
   refine{1,by show 1<=sizeLine;decide,λe V=>{e,1,{1,1.0},a6,λD hd=>{rfl,.inr {D,a6,?_}}}}
   let{r1,G,X}:=iP (o2:=.xd [("number",.int (i:Nat))]) (o3:=XD e L.cf D) V hd
   rw[X];exact z D _ (n.trans (a8.upd G)) (none_of n G) a6
 .rintro σ m ⟨v,lo,t,u,rfl⟩;rcases k with⟨_,k⟩ |⟨j,_,p,_⟩
  .exact k m v
  .let{c,hc,hn}:=p.at_
   exact absurd (lo j c p.lt hc) hn
theorem sM(L:Lk K mg):aR P w K mg base d4 4 L.lL L.lR ["self","row"] (Gv L.aB):=by
 have T:=L.T;refine L.lZ.F.dM (N:=["self","row","place","number","sign"]) (λM A outer s H Y Q E nd t h=>?_)
 let{x,r,g,u,ss,ls,rfl,B,v,y,hw,k}:=h
 let{{z,b,d,q,mv,C,Z,O,R,S,h6},pm,_,_}:=id B
 have D:("":Str)∈ss:=pm.mem_iff.mpr (cx u);have G:=fA t
 refine{_,(a5 (bc (jb (0) L.aK.cl L.bC.m (eM L) (t.mono ⋯) L.bC.b .nil CF (aH (1))))
  (a5 (ai (i:=2) cI)
  (a5 (forA (BP (by rfl) T.enum (aH (1))) (eE rfl (aQ (ay (i:=3)) (aQ (ay (i:=4)) d1))) (a5 (ai (i:=2) (dC G (dC G (az (0) rfl) (2) (λ_ _=>rfl)) (4) (λ_ _=>rfl)))
  (a9 (b7 (cC Cz (2) eO) eY aJ))))
  (a9 (aw (2)))))),?_}
 ac_rfl
 refine{1,x,z,1,C,HD _ _ _ _ ∅ ∅ ∅ ∅,1,x,r,g,u,ss,ls,rfl,B,.inl {v,λH1 U=>?_}};refine{1,r,rfl,yV (λi σ f=>a8 H f/\∃l v4,σ=[ρ (.ref x),ρ (.str r),ρ (.str (lend ss (bT r i))),l,v4]) {U,τ,τ,?_} ?_ ?_}
 .rw[take_zero,JU D];rfl
 .rintro i c σ f T hc ⟨n,l,v4,rfl⟩ V;have j:=n.trans (a8.upd (o:=.tup [.int (i:Nat),.str {#[c]}]) V);have p:=v c (Ð hc)
  let{a,ha,X}:=iG (mv:=mv) (k:=lend ss (bT r i)) (by rw[R];exact qf D _)
  have I:=eN.k (k:=(Å (lend ss (bT r i)):Key)) (j _ _ O);rw[X]at I;have e:=S _ ha;dsimp only at e;have J:=eN.k (k:=(Å ({#[c]}:Str):Key)) (j _ _ e);rw[F1 p,MP pm hw (jV (Bl r i) y),<-take_snoc hc,jV (Bl r (i+1)) y,if_neg (by simp)]at J;refine{T,1,gM.of a6,rfl,_,1,_,1,rfl,?_};refine{1,x,L.aB,z,_,1,j _ _ C,L.aK.cl,L.aK.kQ,kH g b d q,1,d,1,I,1,a,1,J,?_};exact{1,rfl,1,bo {j,_,1}}
 .rintro σ f ⟨n,l,v4,rfl⟩;have:=k f n;rw[<-take_all r]at this;exact{1,by rw[take_all]at this ⊢;exact this}
theorem uH(L:Lk K mg):aR P w K mg base d4 4 L.mL L.mZ ["self","row"] (MQ L.aB):=by
 refine L.nB.F.dM (N:=["self","row"]) (λi A outer s H t Q E nd j h=>?_)
 let{x,r,g,c,ss,ls,rfl,B,l,hw,k}:=h
 refine{_,(a5 (bc (jb (0) L.aK.cl L.bC.m (eM L) (j.mono ⋯) L.bC.b .nil CF (aH (1))))
  (a9 (aw (zF (ao (ir L) L.gx (a7 (1) (aH (az (0) rfl)))))))),?_}
 ac_rfl
 let{{e,b,d,q,u,f,n,v,y,z,C},_,_,_}:=id B
 refine{1,x,e,1,f,noFn,1,x,r,g,c,ss,ls,rfl,B,.inl {l,λD a=>?_}};exact{2,x,L.aB,e,_,1,a _ _ f,L.aK.cl,L.aK.wo,t9 g b d q,r,b,c,rfl,aO.of (a _ _ n),hw,λo p=>{1,k o (a.trans p)}}
theorem gF(L:Lk K mg):aR P w K mg base d4 5 L.gK L.gL ["self","window"] (Hl K L.aq L.aB L.aW L.aE):=by
 have T:=L.T;refine L.eG.F.dM (N:=["self","window","start","end","place","desks","desk","number","step"]) (λhU A outer s H vs Q E nd hr h=>?_)
 let{z,R,bs,w,k,rfl,D,hw,hb,hc,kB,kI,kN}:=h
 refine{_,(a5 (ai (i:=2) (aA fo (gH (az (0) rfl) L.ag.cl L.cD (cS L)) (az (az (0) rfl) rfl)))
  (a5 (ai (i:=3) (aA bZ (2) (az (az (0) rfl) rfl)))
  (a5 (b7 (cH (bS (Fn (az (az (0) rfl) rfl) L.aK.cl L.nB (uH L) (aH (bq fq (1) dh (b9 (2))))))) (a9 (aw eO)) aJ)
  (a5 (ai (i:=4) (Fn (az (az (0) rfl) rfl) L.aK.cl L.lZ (sM L) (aH (bq fq (1) dh (b9 (2))))))
  (a5 (ai (i:=5) (Fn (0) L.au.cl L.fV (jE L) (aH (bq fq (1) (b9 (3)) dh))))
  (a5 (forA (cR rfl T.range (aH (gH (az (0) rfl) L.ag.cl L.gA (iw L)))) (ay (i:=6)) (a9 (b7 (cC iM (Fn (az (0) rfl) L.ag.cl L.js (pz L) (aH (6))) (4)) (a9 (forA (kD (by rfl) T.enum (aH (Fn (az (0) rfl) L.ag.cl L.j3 (mc L) (aH (6))))) (eE rfl (aQ (ay (i:=7)) (aQ (ay (i:=8)) d1))) (a9 (b7 (PW.pt (CI (cC iM (bp g9 (8) aj (λ_ _=>rfl)) (bq fq (1) (b9 (2)) (b9 (3)))) (zE (g7 rK (bp g9 (8) aj (λ_ _=>rfl)) (5) rfl)))) (a9 (aw (7))) aJ)))) aJ)))
  (a9 (aw eO)))))))),?_}
 ac_rfl
 let{J,x,a,M,hP,Wv}:=id D
 let{{Y,p,xb,aa,ll,dp,wa,wb,wc,wz,ys,Z,_,_,_,_,_,B},ok}:=id Wv
 let{{Z5,bb,db,qb,mv,Z6,_},_,_,_}:=id B
 have n1:=ok.n1;have uj:=ok.uj;have l1:=ok.l1;have b1:=ok.b1;have c1:=ok.c1;have f:∀u∈bs++w::k,u.9=R.n:=λu h=>(hw u h).1;have xQ:(cat (bs++w::k)).9=R.n*(R.b+(R.c+1)):=by rw[fD f,É,ê,hb,hc]
 have Wx:R.n*(R.b+(R.c+1))<=10*3000:=Ĕ uj ();have e1:î (cat (bs++w::k)) τ (ρ ((R.n*R.b:Nat):Int))=cat bs:=by rw[PF f,<-hb,wgH]
 have e2:î (cat (bs++w::k)) (ρ ((R.n*(R.b+1):Nat):Int)) τ=cat k:=by
  rw[Kb f,<-hb,show bs++w::k=(bs++[w])++k by rw[ø];rfl,show bs.9+1=(bs++[w]).length by rw[É];rfl,wgG]
 have e3:î (cat (bs++w::k)) (ρ ((R.n*R.b:Nat):Int)) (ρ ((R.n*(R.b+1):Nat):Int))=w:=by
  rw[Ah f (show R.b<=R.b+1 by lia) (by rw[É,ê];lia),<-hb,show bs++w::k=(bs++[w])++k by rw[ø];rfl,show bs.9+1=(bs++[w]).length by rw[É];rfl,wgH,wgG,EY]
 have Z7:∀c∈ch (cat bs),c∈ch R.g:=Ag λu h=>(hw u (ď _ h)).2;have Ua:∀u∈k,u.9=R.n:=λu h=>f u (ÿ _ (Ô _ h));generalize X5:cat (bs++w::k)=t at xQ e1 e2 e3;clear f hw X5;refine mj λR1 q1=>?_;refine{1,z,L.aE,J,_,1,M,L.au.cl,L.au.bu,aN x a,x,Y,1,Z,eU,Aq Wv λH1 O=>?_};refine{1,z,L.aE,J,_,1,O _ _ M,L.au.cl,L.au.bu,aN x a,x,L.aq,Y,_,1,O _ _ Z,L.ag.cl,L.ag.kZ,eT ..,_,1,rfl,.inl {(),()},?_};show bR 2 (V.int ((R.b:Int)*(R.n:Int))) _ _ _;rw[show (R.b:Int)*(R.n:Int)=((R.n*R.b:Nat):Int) by rw[ą,Œ]];refine q1 _ _ (mj λR2 q2=>?_);refine{2,z,L.aE,J,_,1,O _ _ M,L.au.cl,L.au.bu,aN x a,x,L.aq,Y,_,1,O _ _ Z,L.ag.cl,L.ag.kZ,eT ..,_,1,rfl,?_};show bR 3 (V.int (((R.n*R.b:Nat):Int)+(R.n:Int))) _ _ _;rw[show ((R.n*R.b:Nat):Int)+(R.n:Int)=((R.n*(R.b+1):Nat):Int) by rw[ĩ];lia];refine q2 _ _ (mj λR3 q3=>?_);refine{1,z,L.aE,J,_,1,O _ _ M,L.au.cl,L.au.bu,aN x a,x,L.aq,Y,_,1,O _ _ Z,L.ag.cl,L.ag.p9,gU ..,xb,Z5,1,O _ _ Z6,noFn,3,t,rfl,ak (),?_};rw[e1];refine{xb,cat bs,R.g,R.bw,R.ss,R.ls,rfl,B.same O,Z7,ok.bl,λH2 s2=>?_};have v:=O.trans s2
 cases S:bears R.bw (cat bs) with
 |true=>exact{false,rfl,cU (kB S H2 v)}
 |false=>
  refine{true,rfl,bo ?_};refine q3 _ _ (mj λR4 q4=>?_);refine{1,z,L.aE,J,_,1,v _ _ M,L.au.cl,L.au.bu,aN x a,x,L.aq,Y,_,1,v _ _ Z,L.ag.cl,L.ag.p9,gU ..,xb,Z5,1,v _ _ Z6,noFn,3,t,rfl,ak (),?_};rw[e1];refine{xb,cat bs,R.g,R.bw,R.ss,R.ls,rfl,B.same v,Z7,S,λw hw=>(ok.hw w hw).1,λH3 s3=>?_};have Au:=v.trans s3;refine q4 _ _ (mj λR5 q5=>?_);refine{1,z,J,1,Au _ _ M,gP,3,t,rfl,ak (),?_};rw[e2];refine{z,R,k,rfl,D.same Au,Ua,(),λld ds H4 s4 h4 hd=>?_};have I:=Au.trans s4;generalize hpl:lend R.ss (cat bs)=pl;refine q5 _ _ ?_;clear q1 q2 q3 q4 q5;refine{1,z,L.aE,J,_,1,I _ _ M,L.au.cl,L.au.bu,aN x a,x,Y,1,I _ _ Z,eU,x,R,rfl,Wv.same I,(R.wl.9:Int),rfl,(),(),?_};rw[ç];refine dE (lo:=0) (n:=R.wl.9) (wfA R H4 pl w t k z ld) {Û _,a8.refl _,λd j e h=>absurd h (ť _),τ,τ,τ,rfl} ?_ ?_
  .rintro i σ H5 hi ⟨_,s5,U,v6,v7,v8,rfl⟩;show bR 6 (V.int (0+(i:Int))) _ _ _;rw[ŀ];have l:=I.trans s5;refine{1,z,L.aE,J,_,1,l _ _ M,L.au.cl,L.au.bu,aN x a,x,Y,1,l _ _ Z,eU,1,x,R,i,rfl,Wv.same l,hi,1,rfl,1,uo (λh1=>?_) (λh1=>?_)}
   .have Q4:R.hk.getD i ""=pl:=V.str.inj (of_decide_eq_true h1);refine{1,z,L.aE,J,_,1,l _ _ M,L.au.cl,L.au.bu,aN x a,x,Y,1,l _ _ Z,eU,1,x,R,i,rfl,Wv.same l,hi,λy H6 s6 r6=>?_}
    let{yb,rs,rfl,hS,hT}:=ez (bN.same (ck _ _) _ _ r6)
    have Am:rs.9=(R.wl.getD i []).9:=by rw[hT.1,À,À]
    refine{yb,1,hS,mr (K:=K) (a:=yb) (xs:=rs.map V.ref) (Vy R H6 pl w t k z ld i) {a8.refl _,λj e h=>absurd h (ť _),v7,v8,rfl} (λj σ H7 _ q=>q.s.seq hS) ?_ (λσ H7 q=>?_)}
    .rintro j y σ H7 T hy ⟨s7,r,v7,v8,rfl⟩ hT';have hj:j<rs.9:=by have:=(Ñ.mp hy).1;rwa[À]at this
     have Z8:j<(R.wl.getD i []).9:=();rw[Ç,Ã hj]at hy;cases hy;have X6:H6 rs[j]=ρ (.tup [.str (R.wl.getD i [])[j].1,.int ((R.wl.getD i [])[j].2:Int)]):=hT.2 j rs[j] (jG (eR (R.wl.getD i [])[j])) (Ã hj) (by rw[Ç,Ç,Ã Z8];rfl);have X:(R.wl.getD i [])[j]?=ρ (R.wl.getD i [])[j]:=Ã Z8;generalize (R.wl.getD i [])[j]=q at X6 X;have s8:=a8.upd (H:=H7) (o:=.tup [.int (j:Nat),.ref rs[j]]) hT';refine{T,1,gM.of a6,rfl,_,1,_,1,rfl,?_};generalize upd H7 T _=H8 at s8;have C:=s7.trans s8;have QJ:=l.trans (s6.trans C)
     have next:¬(q.1=w/\jO R.wl q.2 k)->∀j' e:Nat,j'<j+1->(R.wl.getD i [])[j']?=ρ (w,e)->¬jO R.wl e k:=λhn j' e h1 G m=>by
      by_cases c:j'<j
      .exact r j' e c G m
      .obtain rfl:j'=j:=();rw[X]at G;have G:=Ò G;exact hn {congrArg Prod.fst G,by rw[show q.2=e from congrArg Prod.snd G];exact m}
     refine{1,rs[j],_,_,1,rfl,gM.of (C _ _ X6),rfl,5,t,rfl,ak (),?_};rw[e3];refine{rfl,1,uo (λG=>?_) (λG=>?_)}
     .have hqw:q.1=w:=V.str.inj (of_decide_eq_true G);refine{1,rs[j],_,_,1,rfl,gM.of (C _ _ X6),rfl,1,ld,1,.inl (aO.of ((s5.trans (s6.trans C)) _ _ h4)),rfl,fM _,1,?_};rw[Be];refine uo (λm=>?_) (λm=>?_)
      .have m:=(hd _).mp (of_decide_eq_true m);exact{1,kI j S {i,q.2,hi,by rw[hpl];exact Q4,by rw[X,<-hqw],m.2} H8 QJ}
      .exact{C,next λh=>m (decide_eq_true ((hd _).mpr ⟨ok.rd.e _ _ (Ð X),h.2⟩)),_,1}
     .exact{C,next λh=>G (decide_eq_true (congrArg V.str h.1)),_,1}
    .let{s7,r,v7',v8',rfl}:=q
     rw[À]at r;refine{hi,s5.trans (s6.trans s7),λd j e h1 G m=>?_,_,_,1}
     by_cases c:d<i
     .exact U d j e c G m
     .obtain rfl:d=i:=();exact r j e (by have:=(Ñ.mp m).1;lia) m
   .refine{hi,s5,λd j e G m h4=>?_,_,_,1}
    by_cases c:d<i
    .exact U d j e c m h4
    .obtain rfl:d=i:=();exact absurd (decide_eq_true (congrArg V.str m)) h1
  .rintro σ H5 ⟨_,s5,U,v6,v7,v8,rfl⟩;refine kN S (λi h=>?_) H5 (I.trans s5)
   let{d,e,q1,q2,q3,q4}:=h
   exact U d i e q1 (by rw[q2,hpl]) q3 q4
theorem j7(L:Lk K mg):aR P w K mg base (uM P w) 3 L.jd L.jh ["self","length"] (Ea K L.aq L.aB L.aW L.aE L.aU):=by
 have T:=L.T;refine L.dm.F.wH (N:=["self","length","signs","words"]) (λJ A outer s H U Q E nd M h=>?_)
 let{z,R,l,rfl,D,k}:=h
 refine{_,(a5 (ai (i:=2) (aA gf (1) (xH T.len (gH (az (0) rfl) L.ag.cl L.eB (eV L)))))
  (a5 (ai (i:=3) (aA gf (aA j9 (2) (az (az (0) rfl) rfl)) (gH (az (0) rfl) L.ag.cl L.cX (dg L))))
  (a5 (b7 (PW.pt (iy (cC Ih (aA cJ (2) (az (az (0) rfl) rfl)) aj) (jx (cC lC (3) aj)))) (a9 (rq bE rfl L.bW L.uh L.ui (ib L) (M.mono ⋯) L.pk rfl L.ph (aH (1)))) aJ)
  (a9 (aw (3)))))),?_}
 ac_rfl
 let{j,x,a,q,X,W}:=id D
 let{{r,p,Y,Z,ll,dp,wa,wb,wc,wz,ys,t,_},ok}:=id W
 have n1:=ok.n1;have uj:=ok.uj;have b1:=ok.b1;have c1:=ok.c1;have v:=KH ok;have O:R.n*R.b<=10*1000:=Ĕ uj b1
 have bad:q0 R l->l.natAbs<=1000/\J8 L.aU "length" (.int l) H E:=λd=>by
  rcases k with⟨m,rfl,_⟩ |⟨_,k⟩
  .exact(q0.not n1 d).elim
  .exact k
 refine{2,z,L.aE,j,_,1,q,L.au.cl,L.au.bu,aN x a,x,r,1,t,eU,x,R,rfl,W,R.o.1,rfl,ak (),_,1,rfl,?_};show bR 2 (V.int (l-(R.o.1.9:Int))) _ _ _;rw[v];refine{2,z,L.aE,j,_,1,q,L.au.cl,L.au.bu,aN x a,x,L.aq,r,_,1,t,L.ag.cl,L.ag.kZ,eT ..,_,1,rfl,{(),()},1,z,L.aE,j,_,1,q,L.au.cl,L.au.bu,aN x a,x,r,1,t,eU,x,R,rfl,W,_,1,rfl,?_};refine{2,z,L.aE,j,_,1,q,L.au.cl,L.au.bu,aN x a,x,L.aq,r,_,1,t,L.ag.cl,L.ag.kZ,eT ..,_,1,rfl,(show (0:Int)<(R.n:Int) by lia),rfl,?_};refine{1,uo (λu=>?_) (λu=>?_)}
 .let{hl,y}:=bad (.inl λz=>by
   rw[show (!decide (V.int ((l-((R.n*R.b:Nat):Int))%(R.n:Int))=V.int 0))=false by rw[z];rfl]at u
   cases u)
  refine{1,by show 1<=sizeLine;decide,λe B=>{e,1,{_,rfl,hl},a6,λf hd=>{rfl,.inr {f,a6,?_}}}}
  let{S,g,C}:=iP (o2:=.xd [("length",.int l)]) (o3:=XD e L.aU f) B hd
  rw[C];exact y f _ (a8.upd g) g a6
 refine{1,_,1,rfl,1,uo (λG=>?_) (λG=>?_)}
 .let{hl,y}:=bad (.inr (of_decide_eq_true G))
  refine{1,by show 1<=sizeLine;decide,λe B=>{e,1,{_,rfl,hl},a6,λf hd=>{rfl,.inr {f,a6,?_}}}}
  let{S,g,C}:=iP (o2:=.xd [("length",.int l)]) (o3:=XD e L.aU f) B hd
  rw[C];exact y f _ (a8.upd g) g a6
 rcases k with⟨m,rfl,k⟩ |⟨d,_⟩
 .have em:(((R.n*(R.b+m+R.c):Nat):Int)-((R.n*R.b:Nat):Int))/(R.n:Int)-(R.c:Int)=(m:Int):=by
   rw[show ((R.n*(R.b+m+R.c):Nat):Int)-((R.n*R.b:Nat):Int)=(R.n:Int)*((m:Int)+(R.c:Int)) by rw[wh9,ĩ,<-Ō,<-ą];lia,wfV _ (show (R.n:Int)≠0 by lia)]
   lia
  have I:=k H (a8.refl _);rw[<-em]at I;exact{_,rfl,I}
 .rcases d with d |d
  .exact(u (by show (!decide _)=true;rw[decide_eq_false λz=>d (V.int.inj z)];rfl)).elim
  .exact(G (decide_eq_true d)).elim
theorem nK(L:Lk K mg):aR P w K mg base (uM P w) 6 L.oa L.ou ["self","row"] (N2 K L.aq L.aB L.aW L.aE L.cf L.aU):=by
 have T:=L.T;refine L.fC.F.wH (N:=["self","row","wide","signs","first","starts"]) (λhU A outer s H vs Q E nd hr h=>?_)
 let{z,R,row,rfl,D,k}:=h
 refine{_,(a5 (bc (jb (az (az (0) rfl) rfl) L.aK.cl L.bC.m (eM L) (hr.mono ⋯) L.bC.b .nil (o4 bE) (aH (1))))
  (a5 (ai (i:=2) (az (az (0) rfl) rfl))
  (a5 (ai (i:=3) (aA fo (gH (0) L.au.cl L.d7 (eW L)) (2)))
  (a5 (ai (i:=4) (aA gf (xH T.len (gH (az (0) rfl) L.ag.cl L.eB (eV L))) (aA fo (gH (az (0) rfl) L.ag.cl L.cD (cS L)) (2))))
  (a5 (dS (i:=5) rfl (ax ["first","wide"] [4,2]) nd rfl rfl (cR rfl T.range (aH (jb (0) L.au.cl L.dm.m (j7 L) (hr.mono ⋯) L.dm.b .nil (o4 bE) (aH (xH T.len (1)))))) (λ_ _ _ _ _ _=>bf) (λ_ _ _ _ _ _=>(aA bZ (1) (aA fo (0) (2)))))
  (a9 (aw (cK rfl (ax ["self","row","signs"] [0,1,3]) (aS (5)) (λ_ _ _ _ _ _=>bf) (λ_ _ _ _ _ _=>(Fn (1) L.au.cl L.eG (gF L) (aH (bq fq (2) (b9 (0)) (b9 (aA bZ (0) (3))))))))))))))),?_}
 ac_rfl
 let{l,x,a,r,hP,Wv}:=id D
 let{{J,p,xb,aa,ll,dp,wa,wb,wc,wz,ys,M,_,_,_,_,_,B},ok}:=id Wv
 let{{O,bb,db,qb,mv,S,_},_,_,_}:=id B
 have n1:=ok.n1;have uj:=ok.uj;have b1:=ok.b1;have c1:=ok.c1;have X7:=KH ok;have hob:R.n*R.b<=10*1000:=Ĕ uj b1
 by_cases e:∀c∈ch row,c∈ch R.g
 rotate_left
 .rcases k with⟨all,m,res,rfl,hw,_⟩ |⟨i,hl,o,hE⟩ |⟨h,_⟩
  .exact(e (Ag λu h=>(hw u h).2)).elim
  .exact{1,z,L.aE,l,_,1,r,L.au.cl,L.au.bu,aN x a,x,L.aq,J,_,1,M,L.ag.cl,L.ag.p9,gU ..,xb,O,1,S,noFn,1,xb,row,R.g,R.bw,R.ss,R.ls,rfl,B,.inr ⟨i,hl,o,hE⟩}
  .exact(e h).elim
 have Am:row.9<=30000:=by
  rcases k with⟨all,m,res,rfl,hw,C,m1,_⟩ |⟨i,hl,_⟩ |⟨_,hl,_⟩
  .rw[fD λu h=>(hw u h).1,C];exact Ĕ uj (show R.b+m+R.c<=3000 by lia)
  .lia
  .lia
 refine{1,z,L.aE,l,_,1,r,L.au.cl,L.au.bu,aN x a,x,L.aq,J,_,1,M,L.ag.cl,L.ag.p9,gU ..,xb,O,1,S,noFn,1,xb,row,R.g,R.bw,R.ss,R.ls,rfl,B,.inl {e,λH1 U=>?_}};refine{1,z,L.aE,l,_,1,U _ _ r,L.au.cl,L.au.bu,aN x a,x,L.aq,J,_,1,U _ _ M,L.ag.cl,L.ag.kZ,eT ..,?_};refine{1,z,l,1,U _ _ r,gP,z,R,rfl,D.same U,λH2 s2=>?_};have d:=U.trans s2;refine{1,_,1,rfl,.inl {(),()},?_};show bR 3 (V.int (((R.b:Int)+1+(R.c:Int))*(R.n:Int))) _ _ _;rw[show ((R.b:Int)+1+(R.c:Int))*(R.n:Int)=((R.n*(R.b+1+R.c):Nat):Int) by rw[ą,Œ];rfl];refine{1,z,L.aE,l,_,1,d _ _ r,L.au.cl,L.au.bu,aN x a,x,J,1,d _ _ M,eU,x,R,rfl,Wv.same d,R.o.1,rfl,ak (),?_};refine{1,z,L.aE,l,_,1,d _ _ r,L.au.cl,L.au.bu,aN x a,x,J,1,d _ _ M,eU,Aq (Wv.same d) λH3 s3=>?_};have f:=d.trans s3;refine{1,_,1,rfl,.inl {(),()},_,1,rfl,?_};show bR 4 (V.int ((R.o.1.9:Int)-(R.b:Int)*(R.n:Int))) _ _ _;rw[show (R.o.1.9:Int)-(R.b:Int)*(R.n:Int)=0 by rw[X7,ą,Œ];lia];refine{1,z,l,1,f _ _ r,gP,1,row,rfl,ak (),z,R,1,D.same f,?_};rcases k with⟨all,m,res,rfl,hw,C,m1,X,k⟩ |⟨i,hl,o,_⟩ |⟨_,hl,G,hE⟩
 rotate_left
 .exact(o.no e).elim
 .exact .inr {G,(),P5 hE f}
 have t:∀u∈all,u.9=R.n:=λu h=>(hw u h).1;have yC:(cat all).9=R.n*(R.b+m+R.c):=by rw[fD t,C]
 refine .inl {m,by rw[yC],λH4 s4=>?_};have Uo:=f.trans s4;refine{(m:Int),rfl,(),(),λls X8=>?_};rw[ç];refine comp_map (λv=>match v with |.int i=>.int (0+i*(R.n:Int)) |_=>.non) (iK 0 m) X8 (by rw[À,ì];exact ak ()) (λ_ _=>trivial) (λv H5 Q' Y s5 q=>?_) (λH5 s5 h5=>?_)
 .let{i,hi,rfl}:=Æ.mp Y
  have:=Ą.mp hi;exact{3,_,1,rfl,.inl {(),()},_,1,rfl,q H5 (a8.refl _)}
 have em:((Ö m).map λ(i:Nat)=>V.int (0+(i:Int))).map (λv=>match v with |.int i=>V.int (0+i*(R.n:Int)) |_=>.non)=(Ö m).map λ(i:Nat)=>V.int ((R.n*i:Nat):Int):=by
  rw[Î];refine ĕ λi _=>?_;show V.int (0+(0+(i:Int))*(R.n:Int))=_;rw[ŀ,ŀ,ą,Œ]
 rw[em]at h5;have I:=Uo.trans s5;refine{1,ls,rfl,{_,aO.of h5},λlr Z=>?_};refine wJ (λi y _=>y=res i) (λ_ _ _ _ _ h _ _=>h) (aT K ls _) Z (by rw[À,ì];exact ak ()) (λH' s'=>aO.of (s' _ _ h5)) (λi v H6 Z9 Q' Y s6 _ q=>?_) (λZ9 H6 s6 h6 KQ hy=>?_)
 .have hi:i<m:=by have:=(Ñ.mp Y).1;rwa[À,ì]at this
  rw[Ç,whk hi]at Y;cases Y
  let{bs,w,us,e1,e2,e3,r1,r2,r3}:=X i hi
  have O1:=I.trans s6
  have esl:î (cat all) (ρ ((R.n*i:Nat):Int)) (ρ (((R.n*i:Nat):Int)+((R.n*(R.b+1+R.c):Nat):Int)))=cat (bs++w::us):=by
   rw[<-Ō,<-ĩ,Ah t () (),e1]
  refine{1,z,l,1,O1 _ _ r,gP,5,_,1,rfl,1,cat all,rfl,ak (),?_};rw[esl];refine{z,R,bs,w,us,rfl,D.same O1,λu h=>hw u (ő (wh1 (by rw[e1];exact h))),e2,e3,λG H7 s7=>?_,λj G hf H7 s7=>?_,λG hf H7 s7=>?_}
  .exact q _ H7 s7 (r1 G).symm
  .exact q _ H7 s7 (r2 j G hf).symm
  .exact q _ H7 s7 (r3 G hf).symm
 .have ey:Z9=(Ö m).map res:=by
   rw[À,ì]at KQ;refine wfW (by rw[KQ,À,ì]) λi h1 h2=>?_;rw[Ρ,wfi];exact hy i _ (Ã h1)
  rw[ey]at h6;exact k lr H6 (I.trans s6) (none_of I Z) h6
theorem ry(L:Lk K mg):aR P w K mg base (uM P w) 6 L.jX L.k8 ["self","window"] (Hm K L.aq L.aB L.aW L.aE L.cf L.aU):=by
 have T:=L.T;refine L.gW.F.wH (N:=["self","window"]) (λS A outer s H Z Q E nd G h=>?_)
 let{z,R,d,rfl,D,hl,k}:=h
 refine{_,(a5 (bc (jb (az (az (0) rfl) rfl) L.aK.cl L.bC.m (eM L) (G.mono ⋯) L.bC.b .nil (o4 bE) (aH (1))))
  (a5 (b7 (cC Ih (xH T.len (1)) (aA fo (gH (0) L.au.cl L.d7 (eW L)) (az (az (0) rfl) rfl))) (a9 (rq bE rfl L.bW L.uh L.ui (ib L) (G.mono ⋯) L.pk rfl L.ph (aH (xH T.len (1))))) aJ)
  (a9 (aw (Fn (0) L.au.cl L.eG (gF L) (aH (1))))))),?_}
 ac_rfl
 let{j,x,a,l,hP,W}:=id D
 let{{I,p,J,aa,ll,dp,wa,wb,wc,wz,ys,M,_,_,_,_,_,B},ok}:=id W
 let{{q,bb,db,qb,mv,r,_},_,_,_}:=id B
 have uj:=ok.uj;have b1:=ok.b1;have c1:=ok.c1;refine{1,z,L.aE,j,_,1,l,L.au.cl,L.au.bu,aN x a,x,L.aq,I,_,1,M,L.ag.cl,L.ag.p9,gU ..,J,q,1,r,noFn,1,J,d,R.g,R.bw,R.ss,R.ls,rfl,B,?_};rcases k with⟨i,o,t⟩ |⟨u,v,t⟩
 .exact .inr ⟨i,hl,o,t⟩
 refine .inl {u,λH1 y=>?_};refine{1,d,rfl,ak (),1,z,j,1,y _ _ l,gP,z,R,rfl,D.same y,λH2 U=>?_};have f:=y.trans U;refine{1,z,L.aE,j,_,1,f _ _ l,L.au.cl,L.au.bu,aN x a,x,L.aq,I,_,1,f _ _ M,L.ag.cl,L.ag.kZ,eT ..,_,1,rfl,.inl {(),()},rfl,true,?_,cU ?_}
 .show V.bl (!decide (V.int (d.9:Int)=V.int (((R.b:Int)+1+(R.c:Int))*(R.n:Int))))=_;rw[show ((R.b:Int)+1+(R.c:Int))*(R.n:Int)=((R.n*(R.b+1+R.c):Nat):Int) by rw[ą,Œ];rfl,decide_eq_false (p:=V.int (d.9:Int)=V.int ((R.n*(R.b+1+R.c):Nat):Int)) λz=>v (by have:=V.int.inj z;lia)];rfl
 refine{1,d,rfl,ak (),by show 1<=sizeLine;decide,λe X=>{e,1,{1,()},a6,λC hd=>{rfl,.inr {C,a6,?_}}}}
 let{r1,O,Y}:=iP (o2:=.xd [("length",.int (d.9:Int))]) (o3:=XD e L.aU C) X hd
 rw[Y];exact t C _ (f.trans (a8.upd O)) (none_of f O) a6
theorem rz(L:Lk K mg):aR P w K mg base (uM P w) 4 L.jY L.k9 ["self","length","number"] (Eb K L.aq L.aB L.aW L.aE L.aU L.cY):=by
 have T:=L.T;refine L.gX.F.wH (N:=["self","length","number","words","block"]) (λf A outer s H u Q E nd g h=>?_)
 let{z,R,l,v,rfl,D,k}:=h
 refine{_,(a5 (ai (i:=3) (jb (0) L.au.cl L.dm.m (j7 L) (g.mono ⋯) L.dm.b .nil (o4 bE) (aH (1))))
  (a5 (b7 (PW.pt (iy (cH (bS (ao (ju L) L.iZ (aH (2))))) (iy (cC lC (2) aj) (jx (cC AK (2) (1)))))) (a9 (fW bE rfl L.j5 L.C5 rfl L.xi (aH cI))) aJ)
  (a5 (ai (i:=4) (aA j9 (aA gf (2) (xH T.len (gH (az (0) rfl) L.ag.cl L.eB (eV L)))) (az (az (0) rfl) rfl)))
  (a9 (aw (bx (BK rfl) (by rfl) T.list iz (aH (bx Bt (by rfl) T.range A2 (a7 (aF (nM rfl) (by rfl) T.max yR (a7 (aA gf (4) (gH (az (0) rfl) L.ag.cl L.cX (dg L))) (aH aj))) (aH (aF (rP rfl) (by rfl) T.min M9 (a7 (aA bZ (aA bZ (4) (gH (az (0) rfl) L.ag.cl L.cD (cS L))) aj) (aH (3)))))))))))))),?_}
 ac_rfl
 let{j,x,a,n,y,W}:=id D
 refine{1,z,j,1,n,gP,1,z,R,l,rfl,D,?_};rcases k with k |⟨m,o,⟨p,r⟩,k⟩
 .exact .inr k
 refine .inl {m,o,λe d=>?_};rcases r with t |⟨q,rfl,B⟩
 .exact{1,v,rfl,p.same d,false,congrArg V.bl t,cU (cU {rfl,k e d})}
 refine{1,.int q,rfl,.flat rfl,true,rfl,bo ?_}
 by_cases c:q<0
 .exact{1,_,1,rfl,true,congrArg V.bl (decide_eq_true c),cU (cU {rfl,k e d})}
 .exact{1,_,1,rfl,false,congrArg V.bl (decide_eq_false c),bo {2,_,1,rfl,true,congrArg V.bl (decide_eq_true (show l<=q by lia)),cU {rfl,k e d}}}
theorem cZ(L:Lk K mg):aR P w K mg base d4 7 L.ot L.oF ["_law_reader","_law_way","_law_thing","_law_length"] (Fm K L.aq L.aB L.aW L.aE L.cf L.aU L.cY L.aI):=by
 refine L.cQ.F.dM (N:=["_law_reader","_law_way","_law_thing","_law_length","_law_caught_here","e"]) (λZ A outer s H vs Q E nd G h=>?_)
 let{z,R,way,v,l,sn,I,rfl,D,hc,k}:=h
 refine{_,(a5 (ai (i:=4) eO)
  (a5 (PN ⟨rfl,rfl⟩ (yD (D5 (cC iM (1) aj) (mx (vD (vI (0) L.au.cl L.fC.m (nK L) (G.mono ⋯) L.fC.b (aH (2))))) vj) (yD (D5 (cC iM (1) aj) (mx (vD (vI (0) L.au.cl L.gW.m (ry L) (G.mono ⋯) L.gW.b (aH (2))))) vj) (mx (D5 (cC iM (1) aj) (mx (vD (vI (0) L.au.cl L.gX.m (rz L) (G.mono ⋯) L.gX.b (a7 (3) (aH (2)))))) vj)))) rfl L.jt L.XT nd (j:=5) (i:=4) rfl rfl rfl (ğ rfl))
  (a9 (aw (4))))),?_}
 ac_rfl
 let{y,x,a,B,hP,W}:=id D
 have fin:∀{C:Addr} {T:Str} {J:Option Addr} {f:Hp} {e:Addr},bJ K C L.aI T->ux K C->a8 H f->f e=τ->(∀d,J=ρ d->∃fs,f d=ρ (.xd fs))->G7 L.cf L.aU L.cY f I sn C T J->Q (.ref e) (upd f e (XC e C J)):=λU Y n c hd hk=>k _ _ _ _ _ (n.trans (a8.upd c)) {a6,λd z=>let ⟨fs,q⟩:=hd d z;{fs,a8.upd c _ _ q},U,Y} (hk.same (a8.upd c))
 have one:∀{p:Addr} {f:Hp} {fs:List (Str×V)},f p=ρ (.xd fs)->∀d,ρ p=ρ d->∃fs,f d=ρ (.xd fs):=λh d z=>by
  cases z;exact{_,h}
 rcases hc with⟨r,i,hw,rfl,o,X,rfl,rfl⟩ |⟨r,rfl,rfl,o,t,M,rfl,rfl⟩ |⟨r,rfl,rfl,o,t,O,rfl,rfl⟩ |⟨rfl,M,hl,rfl,rfl⟩ |⟨m,rfl,el,S,rfl⟩
 .rcases hw with rfl |rfl
  .refine{_,rfl,rfl,true,rfl,cU ?_};refine{1,z,y,1,B,gP,1,z,R,r,rfl,D,.inr (.inl {i,o,X,λp f n fd g=>{L.cf,1,L.gB,λe c=>{1,fin L.gB L.Ff n c (one g) (.r rfl rfl rfl p _ rfl g rfl)}}})}
  .refine{1,rfl,false,rfl,bo {_,rfl,rfl,true,rfl,cU ?_}};refine{1,z,y,1,B,gP,1,z,R,r,rfl,D,o,.inl {i,X,λp f n fd g=>{L.cf,1,L.gB,λe c=>{1,fin L.gB L.Ff n c (one g) (.r rfl rfl rfl p _ rfl g rfl)}}}}
 .refine{_,rfl,rfl,true,rfl,cU ?_};refine{1,z,y,1,B,gP,1,z,R,r,rfl,D,.inr (.inr {t,o,M,λp f n fd g=>{L.aU,1,L.bW,λe c=>{1,fin L.bW L.pj n c (one g) (.l rfl rfl rfl p _ rfl g rfl)}}})}
 .refine{1,rfl,false,rfl,bo {_,rfl,rfl,true,rfl,cU ?_}};refine{1,z,y,1,B,gP,1,z,R,r,rfl,D,o,.inr {t,O,λp f n fd g=>{L.aU,1,L.bW,λe c=>{1,fin L.bW L.pj n c (one g) (.l rfl rfl rfl p _ rfl g rfl)}}}}
 .refine{1,rfl,false,rfl,bo {1,rfl,false,rfl,bo {_,rfl,rfl,true,rfl,cU ?_}}};refine{1,z,y,1,B,gP,2,z,R,l,v,rfl,D,.inl {M,hl,λp f n fd g=>{L.aU,1,L.bW,λe c=>{1,fin L.bW L.pj n c (one g) (.l rfl rfl rfl p _ rfl g rfl)}}}}
 .refine{1,rfl,false,rfl,bo {1,rfl,false,rfl,bo {_,rfl,rfl,true,rfl,cU ?_}}};refine{1,z,y,1,B,gP,2,z,R,l,v,rfl,D,.inr {m,el,S,λf n=>{L.cY,1,L.j5,λe c=>{1,fin L.j5 L.DZ n c (λ_ z=>nomatch z) (.u rfl rfl rfl)}}}}
end
end K54
namespace _L
theorem L4{Ok:Hp->Prop}{Q:Hp->Prop}(t:List kj)(hJ:kq J Ok xs)(hl:H l=τ)(hz:xs.9<=sizeLine)(C:t.9=xs.9)(T:∀g,a8 H g->Ok g)
 (he:∀(i:Nat) (x:V) (d:kj) j,xs[i]?=ρ x->t[i]?=ρ d->a8 H j->∃p a b c,x=.ref p/\gM K j p [a,b,c]/\∀I,(∀y g,a8 j g->bN K (aM j g) d y->I y g)->te (ρ a::ρ b::ρ c::U) j I)
 (hd:∀g,a8 H g->bN K (aM H g) (.lst t) (.ref l)->Q g):vC K J l U xI te H Q:=by
 refine GR (λi y g=>∀d,t[i]?=ρ d->∃j o,a8 H j/\j l=ρ o/\bN K (aM j g) d y) ?_ hJ hl hz T (λi x j n s h k=>?_) (λn g q u m v=>?_)
 .intro i y E G n r w kp d f
  let{j,o,h,k,r}:=r d f
  exact{j,o,h,k,bN.same (bV k kp) d y r}
 .have hi:i<t.9:=by rw[C];exact(Ñ.mp s).1
  let{p,a,b,c,e,z,A}:=he i x t[i] j s (Ã hi) h
  refine{p,a,b,c,e,z,λI B=>A I λy g q r=>B y g q λd f=>?_};rw[Ã hi]at f;cases f;exact{j,_,h,k,r}
 .refine hd g q {l,n,rfl,.inl (cg hl u),bz.rJ t n (by rw[C,m]) λi d y f D=>?_}
  let{j,o,h,k,r}:=v i y D d f
  exact bN.same (f9 h) d y r
end _L
namespace K54
section
variable{P:Ê}{w:World}{K:Á}{mg:Str->Option Value}{base:Heap}
theorem sN(L:Lk K mg):aR P w K mg base d4 5 L.iq L.lS ["self","weights","splits","kept","last"] (MF K L.aW L.aD):=by
 have T:=L.T;refine L.m6.F.dM (N:=["self","weights","splits","kept","last"]) (λhU A outer s H vs Q E nd hr h=>?_)
 let{x,f,d,z,u,v,m,p,ks,hs,ws,Y,rfl,D,hd,hu1,W3,S,n1,n2,n3,n4,n5,k}:=h
 refine{_,(a5 (dq (0) (bx D1 (by rfl) T.dict Sj (aH (1))) rfl)
  (a5 (dq (0) (Kg rfl (ax [] []) (ax [] []) (ax [] []) {⋯,⋯,⋯} (aS (2)) (λ_ _ _ _ _ _=>bf) (λ_ _ _ _ _ _=>(eD (a7 (0) (a7 (bx (xN (K:=K) rfl) (by rfl) T.list iz (aH (1))) (aH (2))))))) rfl)
  (a5 (dq (0) (bx dQ (by rfl) T.list iz (aH (3))) rfl)
  (a9 (dq (0) (ao (m9 L) L.j2 (aH (4))) rfl))))),?_}
 ac_rfl
 let{c,rfl,hc}:=iR W3
 let{b,xs,rfl,hb,Z}:=hu1
 have xl:xs.9=p.9:=by rw[Z.len,À]
 have G:∀{d:Addr} {ys:List V} {H':Hp},aO K H d ys->(∀b o,H b=ρ o->b≠x->H' b=ρ o)->aO K H' d ys:=λhS kp=>(fE kp).seq (zB D hS);refine{1,d,1,hd,λa I=>?_};have B:x≠a:=af D I;refine{1,x,L.aW,f,[],rfl,by rw[ae B];exact D,L.ee.cl,L.ee.dI,(show 0<1000 by decide),?_};rw[RW];have k1:∀d o,H d=ρ o->d≠x->(upd (upd H a (.dK (bK m))) x (.ins L.aW f (yO a))) d=ρ o:=λd o e hd=>by rw[ae hd];exact a8.upd I _ _ e
 have x1:(upd (upd H a (.dK (bK m))) x _) x=ρ (.ins L.aW f (yO a)):=a6;have a1:(upd (upd H a (.dK (bK m))) x (.ins L.aW f (yO a))) a=ρ (.dK (bK m)):=by rw[ae B.symm,a6]
 generalize upd (upd H a _) x _=H1 at k1 x1 a1 ⊢;have X9:=bz.same (fE k1) _ _ (bz.off D _ _ Z);have Za:aO K H1 b xs:=G (.inl hb) k1;refine{1,b,rfl,{_,Za},λj JZ=>?_};refine L4 (K:=K) (p.map A7) (aT K b xs) JZ (ak ()) (by rw[À,xl]) (λH' s'=>s'.seq Za) (λi v dd n hv l U=>?_) (λn U r3=>?_)
 .let{d',e',r}:=X9.get i v hv
  rw[l]at e';cases e';rw[Ç]at l
  cases e:p[i]? with
  |none=>rw[e]at l;cases l
  |some sp=>
   rw[e]at l;cases l
   let{r0,ys,rfl,hT,h2}:=r
   let{v1,vs1,rfl,{rfl,_},h3}:=h2
   let{v2,Y1,rfl,r2,h4}:=h3
   let{v3,Y3,rfl,{rfl,_},h5}:=h4
   cases(show Y3=[] from h5)
   let{l2,rfl,N9}:=iR r2
   refine{r0,_,_,1,gM.of (U _ _ hT),λQ' qq=>?_};refine{2,l2,1,.inl (U.seq N9),λl3 J=>?_};refine{1,by show 3<=sizeLine;decide,λt ht=>?_};have s4:a8 (upd n l3 (.lst ((nI sp.2.1).map V.int))) (upd (upd n l3 (.lst ((nI sp.2.1).map V.int))) t (.tup [.int (sp.1:Int),.ref l3,.int sp.2.2])):=a8.upd ht;refine qq _ _ ((a8.upd J).trans s4) ?_;exact F5 (d:=sp.1) (ns:=sp.2.1) (w:=sp.2.2) (cg (none_of (a8.upd J) ht) a6) (cg J (s4 _ _ a6))
 have nbx:x≠j:=af x1 JZ;have x3:=U _ _ x1;have a3:=U _ _ a1;refine{1,x,L.aW,f,yO a,rfl,x3,L.ee.cl,L.ee.Bo,(show 1<1000 by decide),?_};rw[NM];have k3:∀d o,H d=ρ o->d≠x->(upd n x (.ins L.aW f (vX a j))) d=ρ o:=λd o e hd=>by rw[ae hd];exact U _ _ (k1 _ _ e hd)
 have x4:(upd n x _) x=ρ (.ins L.aW f (vX a j)):=a6;have a4:(upd n x (.ins L.aW f (vX a j))) a=ρ (.dK (bK m)):=by rw[ae B.symm];exact a3
 have old:a8 (aM H1 n) (aM H n):=λd o e=>by
  unfold aM at e ⊢
  cases q:H d with
  |none=>
   cases M:H1 d with
   |none=>rw[M]at e;exact e
   |some z=>rw[M]at e;cases e
  |some z=>
   by_cases hd:d=x
   .rw[hd,x1]at e;cases e
   .rw[k1 _ _ q hd]at e;cases e
 have r4:bN K (aM H (upd n x (.ins L.aW f (vX a j)))) (.lst (p.map A7)) (.ref j):=bN.same (old.trans (bV D λd o e hd=>by rw[ae hd];exact e)) _ _ r3;generalize upd n x _=X at k3 x4 a4 r4 ⊢;refine{1,c,1,.inl (G hc k3),λg O=>?_};have C:x≠g:=af x4 O
 have hcH:H g=τ:=by
  cases q:H g with
  |none=>rfl
  |some o=>have:=k3 _ _ q C.symm;rw[O]at this;cases this
 refine{1,x,L.aW,f,vX a j,rfl,by rw[ae C];exact x4,L.ee.cl,L.ee.Jp,(show 2<1000 by decide),?_};rw[J4];have s5:∀d o,X d=ρ o->d≠x->(upd (upd X g (.lst ((nI ks).map V.int))) x (.ins L.aW f (yP a j g))) d=ρ o:=λd o e hd=>by rw[ae hd];exact a8.upd O _ _ e
 have x5:(upd (upd X g (.lst ((nI ks).map V.int))) x _) x=ρ (.ins L.aW f (yP a j g)):=a6;have c5:(upd (upd X g (.lst ((nI ks).map V.int))) x (.ins L.aW f (yP a j g))) g=ρ (.lst ((nI ks).map V.int)):=by rw[ae C.symm,a6]
 generalize upd (upd X g _) x _=H5 at s5 x5 c5 ⊢;have k5:∀d o,H d=ρ o->d≠x->H5 d=ρ o:=λd o e hd=>s5 _ _ (k3 _ _ e hd) hd
 have S5:cp K L.aD H5 z hs ws Y:=by
  let{dz,ah,bw,cl,hz,rh,Lc,rl}:=id S
  have nzx:z≠x:=λq=>by rw[q,D]at hz;have:=Ò hz;injection this with _ _ M;cases M
  have go:=λ(dd:kj) (v:V) (r:bN K H dd v)=>bN.same (fE k5) dd v (bN.off D dd v r);exact{dz,ah,bw,cl,k5 _ _ hz nzx,go _ _ rh,go _ _ Lc,go _ _ rl}
 refine{1,z,hs,ws,Y,rfl,S5,n1,n2,n3,n4,λy R s6 S6=>?_};refine{1,x,L.aW,f,yP a j g,rfl,s6 _ _ x5,L.ee.cl,L.ee.Jq,(show 3<1000 by decide),?_};rw[EV];have up:∀{Ha:Hp},(∀d o,Ha d=ρ o->d≠x->(upd R x (.ins L.aW f (vY a j g y))) d=ρ o)->a8 (aM H Ha) (aM H (upd R x (.ins L.aW f (vY a j g y)))):=λh=>bV D h;have u6:∀d o,R d=ρ o->d≠x->(upd R x (.ins L.aW f (vY a j g y))) d=ρ o:=λd o e hd=>by rw[ae hd];exact e
 have u4:∀d o,X d=ρ o->d≠x->(upd R x (.ins L.aW f (vY a j g y))) d=ρ o:=λd o e hd=>u6 _ _ (s6 _ _ (s5 _ _ e hd)) hd
 have Xa:a8 (aM H5 R) (aM H R):=λd o e=>by
  unfold aM at e ⊢
  cases q:H d with
  |none=>
   cases M:H5 d with
   |none=>rw[M]at e;exact e
   |some z=>rw[M]at e;cases e
  |some z=>
   by_cases hd:d=x
   .rw[hd,x5]at e;cases e
   .rw[k5 _ _ q hd]at e;cases e
 exact k a j g y _ a6 I (u4 _ _ a4 B.symm) (bN.same (up u4) _ _ r4) (jS (cg hcH (u6 _ _ (s6 _ _ c5) C.symm))) (S6.same (Xa.trans (up u6))) λd o e hd=>u6 _ _ (s6 _ _ (k5 _ _ e hd)) hd
end
end K54
namespace _B
theorem L5(xs:List Int)(g:i<=j)(l:j<=xs.9):nH (xs.map V.int) (ρ (i:Int)) (ρ (j:Int))=((xs.take j).drop i).map V.int:=by grind [nH,HT.Nb,À,wdZ,wex,π,wgN]
end _B
namespace K54
section
variable{P:Ê}{w:World}{K:Á}{mg:Str->Option Value}{base:Heap}
theorem HB(L:Lk K mg):aR P w K mg base d4 1 L.BV L.BZ ["weights","numbers","many"] (Sy K):=by
 have T:=L.T;refine L.C4.F.dM (N:=["weights","numbers","many","taken_at","total","taken","number"]) (λhU A outer s H vs Q E nd hr h=>?_)
 let{a,b,many,wl,d,rfl,hA,I,m1,m2,J,M,k}:=h
 have O:=fA hr
 refine{_,(a5 (ai (i:=3) (EF (AR aj aj Er) rfl rfl (by simp) ⋯))
  (a5 (ai (i:=4) aj)
  (a5 (forA (KN (by rfl) T.enum (aH (1))) (eE rfl (aQ (ay (i:=5)) (aQ (ay (i:=6)) d1))) (a5 (vn (i:=4) nd rfl (ğ rfl) (bp bM (0) (6) (λ_ _=>rfl)) Iw)
  (a5 (b7 (zD (II O (aA cJ (4) (2)) (3))) (a9 (aw (bq jv (1) (b9 (dC O (3) (aA cJ (4) (2)) (λ_ _=>rfl))) (b9 (5))))) aJ)
  (a9 (eI O (3) (aA cJ (4) (2)) (5) rfl)))))
  (a9 (aw (bI fG)))))),?_}
 ac_rfl
 have l:(0:Int)<many:=();refine λg m=>{a6,[((á 0:Key),V.int 0)],rfl,⋯,?_};have R:a8 H (upd (upd H g (.dK [])) g (.dK (mq [] [((á 0:Key),V.int 0)]))):=λc o e=>by rw[ae (af e m),ae (af e m)];exact e
 have h0:(upd (upd H g (.dK [])) g (.dK (mq [] [((á 0:Key),V.int 0)]))) g=ρ (.dK (dR many (kM wl d) 1)):=by
  rw[a6];refine congrArg (λz=>ρ (HO.dK z)) ?_;show [((á 0:Key),V.int 0)]=[((á (0%many):Key),V.int 0)];rw[Int.zero_emod]
 generalize upd (upd H g _) g _=H0 at R h0;refine{1,b,1,R.seq I,GD (K:=K) (a:=b) (xs:=(nI d).map V.int) (λj σ q=>a8 H q/\(∃S v6,σ=[ρ (.ref a),ρ (.ref b),ρ (.int many),ρ (.ref g),ρ (.int (kM wl d j)),S,v6])/\q g=ρ (.dK (dR many (kM wl d) (j+1)))/\∀i k,i<k->k<=j->kM wl d i%many≠kM wl d k%many) {R,⟨τ,τ,rfl⟩,h0,λi k Y C=>()} (λi σ q _ p=>p.1.seq I) ?_ (λσ q p=>?_)}
 .rintro j y σ q T U ⟨Z,⟨S,v6,rfl⟩,C,f⟩ hT;have hj:j<d.9:=by have:=(Ñ.mp U).1;rwa[À,cM]at this
  have r:d[j]?=ρ d[j]:=Ã hj;rw[zU r]at U;cases U;have t:=M _ (ñ hj);have x:=FY (wl:=wl) r;generalize d[j]=n at r t x;have u:=Z.trans (a8.upd (o:=.tup [.int ((j+1:Nat):Int),.int (n:Int)]) hT);have D:(upd q T (.tup [.int ((j+1:Nat):Int),.int (n:Int)])) g=ρ (.dK (dR many (kM wl d) (j+1))):=a8.upd hT _ _ C;refine{T,1,gM.of a6,rfl,_,1,_,1,rfl,?_};generalize upd q T _=H3 at u D;refine{3,a,_,_,1,rfl,u.seq hA,bL (v:=.int (wl.getD n 0)) (by rw[Ç,Ã t,Ë,Ã t];rfl),_,1,rfl,?_};dsimp only;rw[<-x];refine{2,_,1,rfl,l,1,g,1,eN.k (k:=(á (kM wl d (j+1)%many):Key)) D,?_};rcases J1 many (kM wl d) (j+1) (kM wl d (j+1)%many) with⟨G,B⟩ |⟨i,hi,X,G⟩
  .rw[G];refine{false,rfl,bo ?_};refine{4,_,1,rfl,l,g,1,kA.k (k:=á (kM wl d (j+1)%many)) D (by rw[OS];exact bB ()),?_};rw[OQ G];refine{λc o e=>by rw[ae (af e m)];exact u _ _ e,{_,1},a6,λi k Y C=>?_}
   by_cases e:k=j+1
   .subst e;exact B i ()
   .exact f i k Y ()
  .have hg:=eN.k (k:=(á (kM wl d (j+1)%many):Key)) D;rw[G]at hg ⊢;refine{true,rfl,cU ?_};refine{4,_,1,rfl,l,g,1,hg,3,b,1,u.seq I,λp hp=>?_};rw[L5 _ () (by rw[cM];lia),ER,M0];exact k p i (j+1) _ (u.trans (a8.upd hp)) (none_of u hp) () () (Jg () X) a6
 .let{Z,{S,v6,rfl},C,f}:=p
  rw[À,cM]at f;exact absurd (DI l J f) id
theorem yd(L:Lk K mg):aR P w K mg base d4 2 L.qx L.qP ["sheet","many"] (PV K L.aD):=by
 have T:=L.T;refine L.rg.F.dM (N:=["sheet","many","found","desk","weights","others","numbers"]) (λhU A outer s H vs Q E nd hr h=>?_)
 let{x,many,hs,c,u,rfl,S,B,hK,Dc,hn,hm,m1,m2,k}:=h
 refine{_,(a5 (ai (i:=2) (ao (An L) L.ud (aH (0))))
  (a5 (ai (i:=3) (bp g9 (2) aj (λ_ _=>rfl)))
  (a5 (ai (i:=4) (gp rfl (ax ["sheet"] [0]) (ax ["sheet"] [0]) ⋯ (aS (bp bM (az (0) rfl) (3) (λ_ _=>rfl))) (λ_ _ _ _ _ _=>bf) (λ_ _ _ _ _ _=>(bp (hX (K:=K) rfl) (nO (K:=K) rfl (2) rfl) (1) (λ_ _=>rfl)))))
  (a5 (dS (i:=5) rfl (ax ["found"] [2]) nd rfl rfl (cR rfl T.range (aH (K6 T.len (4)))) (λ_ _ _ _ _ _=>hF (cC Ih (0) (bp (MU (K:=K) rfl) (1) aj (λ_ _=>rfl)))) (λ_ _ _ _ _ _=>(0)))
  (a5 (ai (i:=6) (ao (HB L) L.C4 (a7 (4) (a7 (aA oU (bI (aH (bp g9 (2) aj (λ_ _=>rfl)))) (bq jv (5) dh (b9 (aA gf (1) aj)))) (aH (1))))))
  (a9 (aw (eD (a7 (3) (a7 (6) (aH (aA j9 (aF (my rfl) (by rfl) T.sum FV (aH (cK rfl (ax ["weights"] [4]) (aS (6)) (λ_ _ _ _ _ _=>bf) (λ_ _ _ _ _ _=>(bp (hX (K:=K) rfl) (1) (0) (λ_ _=>rfl)))))) (1))))))))))))),?_}
 ac_rfl
 let{dx,ah,bw,cl,hx,rh,Lc,rl}:=id S
 let{Y6,eb,hb}:=iR Lc
 cases eb
 let{SK,xs,ec,hc,yC}:=id rl
 cases ec;have O:=B.w;have DT:=B.l;have xl:xs.9=u.9:=by rw[yC.len,À]
 have wne:c≠[]:=λz=>Dc (Ŵ (by rw[<-O,z];rfl));refine{1,x,hs,c,u,rfl,S,(),λl hl q hq=>by rw[O];exact B.e l hl q hq,wne,λh hh ht=>?_,λt h d i b q H1 R ht D=>?_}
 .let{d,i,b,q,e1,e2,e3,e4}:=BE B hK hh ht m1
  exact⟨d,i,b,q,hh,ht,e1,e2,e3,e4⟩
 have hd:d<u.9:=(Ñ.mp D.l).1;have hi:i<b.9:=(Ñ.mp D.s).1;have QI:b∈u:=Ð D.l;have NW:=hm b QI;have Zb:=yZ B D;have hT:=gM.of (K:=K) ht;refine{1,t,_,_,1,rfl,hT,rfl,?_}
 let{v,Q1,rd}:=yC.at (i:=d) (d:=cj b) (by rw[Ç,D.l];rfl)
 let{a,rs,rfl,hS,SM}:=ez rd
 have Am:rs.9=b.9:=by rw[SM.1,À,À]
 refine{1,x,L.aD,dx,_,1,R _ _ hx,L.aC.cl,L.aC.d2,bX ah bw cl,1,cl,xs,_,1,rfl,R.seq (.inl hc),bL Q1,a,rfl,{_,R.seq hS},λlc Q7=>?_};refine pd (prs:=b.map eR) (λ_=>true) (λq=>match q.2 with |.int e=>.int (c.getD e.toNat 0) |_=>.non) (aT K a (rs.map V.ref)) (SM.same R) Q7 (ak ()) (λH' s'=>(R.trans s').seq hS) (λq H7 Q' _ _ m=>m H7 (a8.refl _)) (λq H7 Q' hq _ s7 m=>?_) (λH7 s7 h7=>?_)
 .let{U,hq',rfl}:=Æ.mp hq
  have C:U.2<c.9:=by rw[O];exact B.e b QI U hq'
  have hat:zv (c.map V.int) (U.2:Int)=ρ (.int (c.getD U.2 0)):=bL (by rw[Ç,Ã C,Ë,Ã C];rfl)
  have q2:Q' (.int (c.getD U.2 0)) H7:=by
   have:=m H7 (a8.refl _);rwa[show (eR U).2=.int (U.2:Int) from rfl]at this
  have G:=R.trans s7;exact{1,x,L.aD,dx,_,1,G _ _ hx,L.aC.cl,L.aC.dI,cO ah bw cl,1,bw,_,_,1,rfl,G.seq hb,hat,q2}
 have e7:((b.map eR).filter λ_=>true).map (λq=>match q.2 with |.int e=>V.int (c.getD e.toNat 0) |_=>.non)=(b.map λq=>c.getD q.2 0).map V.int:=by
  rw[ĝ.mpr (λ_ _=>rfl),Î,Î];rfl
 rw[e7]at h7;have G:=R.trans s7;have Zc:=s7.LA hT;have g:(b.map λq=>c.getD q.2 0).9=b.9:=À _;refine{1,lc,1,.inl (aO.of h7),1,(),by rw[À,g];lia,λlo RJ=>?_};have en:((((b.map λq=>c.getD q.2 0).map V.int).9:Nat):Int).toNat=b.9:=by rw[À,g,ç]
 rw[en];refine et (λv=>!decide (v=.int (i:Int))) (λv=>v) (iK 0 b.9) RJ (ak (by rw[À,ì];lia)) (λ_ _=>Ć) (λy I Q' hy X m=>?_) (λy I Q' hy _ X m=>{1,m I (a8.refl _)}) (λI X h8=>?_)
 .let{n,Cj,rfl}:=Æ.mp hy
  exact{2,t,_,_,1,rfl,X.LA Zc,rfl,rfl,1,m I (a8.refl _)}
 have e8:(((Ö b.9).map λi:Nat=>V.int (0+(i:Nat))).filter λv=>!decide (v=.int (i:Int)))=(nI (restOf b.length i)).map V.int:=by
  have e9:((Ö b.9).map λi:Nat=>V.int (0+(i:Nat)))=(nI (Ö b.9)).map V.int:=by
   rw[<-vW];exact ĕ λn _=>by rw[ŀ]
  rw[e9,rX (f:=λn=>decide (n≠i)) λn=>?_]
  .rfl
  .by_cases z:n=i
   .subst z;simp
   .have:¬V.int (n:Int)=V.int (i:Int):=λy=>z (by have:=V.int.inj y;lia);rw[decide_eq_false this,decide_eq_true z];rfl
 rw[Θ,e8]at h8;have Tl:=G.trans X;have hT8:=X.LA Zc;have Zd:=X _ _ h7;refine{2,t,_,_,1,rfl,hT8,rfl,by show 1<=sizeLine;decide,λl1 KM=>?_}
 let{s9,h9}:=dk (H:=I) (o:=.lst [V.int (i:Int)]) KM
 generalize upd I l1 _=H9 at s9 h9;have hnk:many-1=(((many-1).toNat:Nat):Int):=();refine{2,_,1,rfl,(((many-1).toNat:Nat):Int),congrArg V.int hnk,lo,1,aO.of (s9 _ _ h8),λl2 N9=>?_};rw[Fq,<-π,ER]
 let{Y,Qb}:=dk (H:=H9) (o:=.lst ((nI ((restOf b.length i).take (many-1).toNat)).map V.int)) N9
 generalize upd H9 l2 _=Nf at Y Qb;have Q0:=By (k:=(many-1).toNat) hi ();refine{l1,l2,_,1,rfl,Y _ _ h9,Qb,ak ?_,λl3 FN=>?_}
 .rw[À,cM,Ú];show 1+_<=_
  lia
 rw[show [V.int (i:Int)]++(nI ((restOf b.length i).take (many-1).toNat)).map V.int=(nI (numsOf b.length i (many-1).toNat)).map V.int from rfl]
 let{Lg,Td}:=dk (H:=Nf) (o:=.lst ((nI (numsOf b.length i (many-1).toNat)).map V.int)) FN
 generalize upd Nf l3 _=Ng at Lg Td;have j:=(s9.trans Y).trans Lg;refine{1,lc,l3,many,b.map λq=>c.getD q.2 0,numsOf b.length i (many-1).toNat,rfl,aO.of (j _ _ Zd),aO.of Td,m1,m2,by rw[Q0];lia,λn hn=>by rw[g];exact zW hi n hn,λl i' j' O2 HH Xb hij hj hz p=>?_};have b6:=MN B m1 D hij hj hz;have C:∀n∈((numsOf b.length i (many-1).toNat).take j').drop i',n<b.9:=λn hn=>zW hi n (((whQ _ _).trans (Ĩ _ _)).subset hn)
 have NV:(((numsOf b.length i (many-1).toNat).take j').drop i').9<=1000:=by
  rw[ē,Ú]
  lia
 generalize ((numsOf b.length i (many-1).toNat).take j').drop i'=ns at *;have J:=Tl.trans (j.trans HH);have h12:=HH _ _ (j _ _ Zd);refine{3,l,rfl,{_,aO.of p},λls X8=>?_};refine et (λ_=>true) (λv=>match v with |.int n=>.int ((b.map λq=>c.getD q.2 0).getD n.toNat 0) |_=>.non) (aT K l _) X8 (ak (by rw[À,cM];lia)) (λH' s'=>aO.of (s' _ _ p)) (λy I Q' hy X m=>m I (a8.refl _)) (λy Xc Q' hy _ r m=>?_) (λXc r Up=>?_)
 .let{n,Cj,rfl}:=vV hy
  have M:n<(b.map λq=>c.getD q.2 0).9:=by rw[g];exact C n Cj
  exact{2,lc,_,_,1,rfl,aO.of (r _ _ h12),bL (v:=.int ((b.map λq=>c.getD q.2 0).getD n 0)) (by rw[Ç,Ã M,Ë,Ã M];rfl),m Xc (a8.refl _)}
 have e13:(((nI ns).map V.int).filter λ_=>true).map (λv=>match v with |.int n=>V.int ((b.map λq=>c.getD q.2 0).getD n.toNat 0) |_=>.non)=(ns.map λn=>(b.map λq=>c.getD q.2 0).getD n 0).map V.int:=by
  rw[ĝ.mpr (λ_ _=>rfl)];unfold nI;rw[Î,Î,Î];rfl
 rw[e13]at Up;refine{ls,1,aO.of Up,1,_,1,rfl,{(),()},by show 3<=sizeLine;decide,λt' Z=>?_};exact k t' l d ns _ _ (J.trans (r.trans (a8.upd Z))) (none_of (Tl.trans j) Xb) (none_of (J.trans r) Z) a6 (a8.upd Z _ _ (r _ _ p)) b6 () NV
theorem Ef(L:Lk K mg):aR P w K mg base (uM P w) 9 L.zg L.zk ["band","many","wide"] (KO K L.aB L.aW L.aD L.cz L.nE):=by
 have T:=L.T;refine L.nV.F.wH (N:=["band","many","wide","weights","sheet","splits","kept","part"]) (λhU A outer s H vs Q E nd hr h=>?_)
 let{x,many,n,g,bw,ss,ls,rfl,B,Ld,Ta,Fp,J,U,D,k,kS,kO}:=h
 refine{_,(a5 (bc (ao (hO L) L.gy (a7 (0) (a7 (1) (aH (2))))))
  (a5 (bc (kE (nX L) (hr.mono ⋯) rfl L.dZ.g L.dZ.F.kp L.dZ.b .nil (o4 bE) (a7 (0) (a7 (1) (aH (2))))))
  (a5 (ai (i:=3) (ao (rp L) L.kh (a7 (0) (a7 (1) (a7 (2) (aH (kE (jF L) (hr.mono ⋯) rfl L.cB.g L.cB.F.kp L.cB.b .nil (o4 bE) (a7 (0) (a7 (1) (aH (2)))))))))))
  (a5 (ai (i:=4) (ao (nG L) L.jC (a7 (0) (a7 (1) (a7 (2) (aH (3)))))))
  (a5 (ai (i:=5) (bI fG))
  (a5 (ai (i:=6) (ao (oK L) L.lA (a7 (4) (aH (1)))))
  (a5 (jI wfC (cC iM (K6 T.len (6)) aj) (a5 (ai (i:=7) (ao (yd L) L.rg (a7 (4) (aH (1)))))
  (a5 (ai (i:=4) (kE (KZ L) (hr.mono ⋯) rfl L.uW.g L.uW.F.kp L.uW.b .nil (o4 bE) (a7 (4) (a7 (1) (a7 (bp g9 (7) aj (λ_ _=>rfl)) (a7 (bp g9 (7) aj (λ_ _=>rfl)) (aH (bp g9 (7) aj (λ_ _=>rfl)))))))))
  (a5 (bc (ja ė ħ İ d8 (5) (aH (7))))
  (a9 (ai (i:=6) (ao (oK L) L.lA (a7 (4) (aH (1))))))))))
  (a9 (aw (nN L.MZ (sN L) (hr.mono ⋯) rfl L.PY L.m6.b .nil pJ (a7 (3) (a7 (5) (a7 (6) (aH (4))))))))))))))),?_}
 ac_rfl
 let{ra,rb,rc,rd,re}:=id D
 have Le:g.length^n<=64:=by
  rw[ç]at re;have:((g.length^n:Nat):Int)<=64:=by rw[we0];exact re
  lia
 have nd:ls.Nodup:=B.nd.sublist B.lv.sub;refine{3,x,many,n,g,bw,ss,ls,rfl,B,J,D,?_};refine{3,x,many,n,g,bw,ss,ls,rfl,B,J,U,D,λTn H1 s1=>?_,kS};refine{6,x,many,n,g,bw,ss,ls,rfl,B.same s1,Fp,J,U,D,λd f0 H2 s2 fd h2 hL=>?_,λhno H2 s2=>kO Tn hno H2 (s1.trans s2)}
 let{most,hm1,hm8,hG,_}:=id hL.gr
 refine{x,d,many,n,f0,g,bw,ss,ls,rfl,B.same (s1.trans s2),Ld,Ta,Fp,J,U,D,h2,hG.nn,hG.fit,hL.ps,λdl f H3 k3 WH h3 Ze GF Um hle Xd=>?_};have s3:a8 H H3:=λc o e=>k3 c o (s2 _ _ (s1 _ _ e)) (af (s1 _ _ e) fd);have X:(ls.map f).sum<=40:=χ Xd hL.le;refine{4,x,dl,many,n,cF f ls,f,g,bw,ss,ls,rfl,B.same s3,Fp,J,U,D,.inl h3,kG f ls,λy H4 s4 S4=>?_};have S4:=S4.same (ck _ _);have L0:fI g bw ss ls many n f [] _ _ _:=fI.start Ta B.pm Ld (λp hp=>B.lv.sub.subset hp) nd Ze GF;refine{Û _,λb hb=>?_};have s5:a8 H4 (upd H4 b (.lst [])):=a8.upd hb;have h5:(upd H4 b _) b=ρ (.lst []):=a6;have o5:a8 H4 (gG (upd H4 b (.lst [])) b):=Bf s5 hb;generalize upd H4 b _=H5 at s5 h5 o5;have W0:=L0.whole X Le;generalize av ls f=v at S4 L0 W0;generalize v.map f=C at S4 L0 W0;generalize bF g bw ss ls n v=a at S4 L0 W0;have NV:a.9<=1000:=by rw[W0.l];exact W0.n
 refine{2,y,many,v,C,a,rfl,S4.same s5,NV,λl hl=>by have:=W0.m l hl;lia,λr G H6 s6 I Y hK=>?_};have Xe:r≠b:=λz=>by rw[z,h5]at I;cases I
 refine{λq σ M=>∃(y r:Addr) (v:List Str) (C:List Int) (a:List (List (Str×Nat))) (j:List zX) (u:List V) (G:List Nat) (v7:Option V),q=40-v.9/\σ=[ρ (.ref x),ρ (.int many),ρ (.int (n:Int)),ρ (.ref dl),ρ (.ref y),ρ (.ref b),ρ (.ref r),v7]/\a8 H M/\M dl=ρ (.dK (bK (cF f ls)))/\cp K L.aD (gG M b) y v C a/\fI g bw ss ls many n f j v C a/\M b=ρ (.lst u)/\bz K (gG M b) (j.map A7) u/\r≠b/\M r=ρ (.lst ((nI G).map V.int))/\p7 a many G,
  {_,y,r,v,C,a,[],[],G,τ,rfl,rfl,s3.trans (s4.trans (s5.trans s6)),s6 _ _ (s5 _ _ (s4 _ _ h3)),S4.same (o5.trans (qe s6)),L0,s6 _ _ h5,rfl,Xe,Y,hK},?_}
 clear hK Y Xe I s6 NV W0 L0 o5 h5 s5 S4;have W4:H b=τ:=none_of (s3.trans s4) hb;have SU:dl≠b:=af (s4 _ _ h3) hb;rintro q σ M ⟨y,r,v,C,a,j,u,G,v7,rfl,rfl,s7,Zf,S7,O,Z,r7,Xe,Xf,hK⟩;have W7:=O.whole X Le;have hlen:=O.len;have xQ:=O.b.w;have NV:a.9<=1000:=by rw[W7.l];exact W7.n
 have KQ:u.9=j.9:=by rw[r7.len,À]
 have zcA:=O.sl
 by_cases T3:G=[]
 .subst T3
  have Dc:v≠[]:=λz=>by
   have h1:=O.sm;rw[z]at xQ;rw[Ŵ xQ]at h1;have:(0:Int)=(ls.map f).sum:=h1
   lia
  refine{1,r,1,.inl (aO.of Xf),rfl,true,HV _,cU ?_};refine{λσ' H'=>∃(y r:Addr) (R:List Str) (C:List Int) (a:List (List (Str×Nat))) (j:List zX) (u:List V) (G:List Nat) (v7:Option V),R.9=v.9+1/\σ'=[ρ (.ref x),ρ (.int many),ρ (.int (n:Int)),ρ (.ref dl),ρ (.ref y),ρ (.ref b),ρ (.ref r),v7]/\a8 H H'/\H' dl=ρ (.dK (bK (cF f ls)))/\cp K L.aD (gG H' b) y R C a/\fI g bw ss ls many n f j R C a/\H' b=ρ (.lst u)/\bz K (gG H' b) (j.map A7) u/\r≠b/\H' r=ρ (.lst ((nI G).map V.int))/\p7 a many G,?_,?_}
  .rintro σ' H' ⟨y,r,R,C,a,j,u,G,v7,e1,rfl,s',Lf,S',L',JZ,r',nk',Lb,Xg⟩;have:=L'.len;exact{_,(),y,r,R,C,a,j,u,G,v7,rfl,rfl,s',Lf,S',L',JZ,r',nk',Lb,Xg}
  refine{2,y,many,v,C,a,rfl,S7.same wx,O.b,hK,Dc,(),λl hl=>by have:=W7.m l hl;lia,(),(),λt l d ns w H8 s8 fl ft Zg Zh ok KA Q0=>?_};have hT:=gM.of (K:=K) Zg;have S8:=(S7.same wx).same s8;refine{3,t,_,_,1,rfl,hT,rfl,1,t,_,_,1,rfl,hT,rfl,1,t,_,_,1,rfl,hT,rfl,y,l,many,(d:Int),w,nI ns,v,C,a,rfl,S8,aO.of Zh,by rw[cM];lia,W7,(),(),.inl {ok,λy' H9 s9 S9=>?_}};rw[ç]at S9;have Zi:=s8 _ _ Z;have Zj:=s9 _ _ Zi;have L9:=O.step ok Q0;have W9:=L9.whole X Le;have Xh:(dU a d (nI ns)).9<=1000:=by rw[W9.l];exact W9.n
  have nlb:l≠b:=λz=>by rw[z,Z]at fl;cases fl
  have ntb:t≠b:=λz=>by rw[z,Z]at ft;cases ft
  have r9:bz K (gG H9 b) ((j++[(d,ns,w)]).map A7) (u++[.ref t]):=by
   rw[Ü];exact iF (bz.same (qe (s8.trans s9)) _ _ r7) (F5 (fY (s9 _ _ Zg) ntb) (fY (s9 _ _ Zh) nlb))
  have Uu:cp K L.aD (gG H9 b) y' _ _ _:=S9.same (F4 Zi);refine{1,.inl {rfl,_,aO.of Zj},1,b,_,1,rfl,Zj,bB (),?_};have eo:gG (upd H9 b (.lst (u++[.ref t]))) b=gG H9 b:=M5;rw[<-eo]at r9 Uu;have KS:a8 H (upd H9 b (.lst (u++[.ref t]))):=λc o e=>by rw[ae (af e W4)];exact s9 _ _ (s8 _ _ (s7 _ _ e))
  have Zk:(upd H9 b (.lst (u++[.ref t]))) dl=ρ (.dK (bK (cF f ls))):=by rw[ae SU];exact s9 _ _ (s8 _ _ Zf)
  have Xi:(upd H9 b _) b=ρ (.lst (u++[.ref t])):=a6;generalize upd H9 b _=Nf at KS Zk Xi r9 Uu;refine{2,y',many,_,_,1,Uu.same wx,Xh,λl hl=>by have:=W9.m l hl;lia,λkl' ks' Ng S I Y Xg=>?_};refine{y',kl',_,_,_,j++[(d,ns,w)],u++[.ref t],ks',_,?_,rfl,KS.trans S,S _ _ Zk,Uu.same (qe S),L9,S _ _ Xi,bz.same (qe S) _ _ r9,(λz=>by rw[z,Xi]at I;cases I),Y,Xg};unfold dG;rw[É];rfl
 .refine{1,r,1,.inl (aO.of Xf),rfl,false,congrArg V.bl (decide_eq_false λz=>T3 (Ŵ (by have:=V.int.inj z;rw[À,cM]at this;lia))),bo ?_};refine{4,?_};intro z dz nz Uv Zm;have sm:a8 M (upd (upd M dz (.own z)) z (.ins L.aW dz [])):=fP nz Uv;refine{z,dz,dl,y,.ref b,.ref r,cF f ls,j,G,v,C,a,rfl,a6,.inl (sm _ _ Zf),{b,u,rfl,.inl (sm _ _ Z),bz.same (wx.trans sm) _ _ r7},jS (sm _ _ Xf),(S7.same wx).same sm,(),(),(),λl hl=>by have:=W7.m l hl;lia,(),λa' b' c' y' H8 h8 fa h8a r8 r8c S8 kp8=>{rfl,?_}};have s8:a8 M H8:=λc o e=>kp8 _ _ (sm _ _ e) (af e nz);have nw:a8 (aM (upd (upd M dz (.own z)) z (.ins L.aW dz [])) H8) (aM H H8):=f9 (s7.trans sm);refine k Tn z f0 f j G v C a H8 (s7.trans s8) {dz,a',b',c',y',cg (none_of s7 nz) h8,cg (none_of (s7.trans sm) fa) h8a,bN.same nw _ _ r8,bN.same nw _ _ r8c,S8.same nw} hL hle {Ze,λp hp=>?_,GF,Um,X,O.rn,O.b,O.cv,(),hK,T3,(),O.sb};have h1:=hle p hp;have h2:=hG.le p hp
  lia
theorem pC(L:Lk K mg):aR P w K mg base (uM P w) 10 L.gv L.jl ["self","band","many","wide"] (Hv K L.aq L.aB L.aW L.aD L.cz L.nE):=by
 refine L.jr.F.wH (N:=["self","band","many","wide","sheet","kept","found"]) (λhU A outer s H vs Q E nd hr h=>?_)
 let{x,a,j,many,n,g,bw,ss,ls,rfl,hx,B,Ld,Ue,hes,Ta,Fp,Fo,Fl,KL,k,kS,kO}:=h
 refine{_,(a5 (dq (0) (kE (Ef L) (hr.mono ⋯) rfl L.nV.g L.nV.F.kp L.nV.b .nil (o4 bE) (a7 (1) (a7 (2) (aH (3))))) rfl)
  (a5 (dq (0) (1) rfl)
  (a5 (dq (0) (2) rfl)
  (a5 (dq (0) (3) rfl)
  (a5 (ai (i:=4) (gH (az (0) rfl) L.ee.cl L.rk (xZ L)))
  (a5 (ai (i:=5) (az (az (0) rfl) rfl))
  (a5 (dq (0) (cK rfl (ax ["sheet"] [4]) (aS (5)) (λ_ _ _ _ _ _=>bf) (λ_ _ _ _ _ _=>(bp (hX (K:=K) rfl) (nO (K:=K) rfl (1) rfl) (0) (λ_ _=>rfl)))) rfl)
  (a5 (dq (0) (cK rfl (ax ["sheet","kept","many"] [4,5,2]) (aS (5)) (λ_ _ _ _ _ _=>bf) (λ_ _ _ _ _ _=>(ao (ki L) L.gz (a7 (bp (hX (K:=K) rfl) (nO (K:=K) rfl (1) rfl) (0) (λ_ _=>rfl)) (a7 (2) (aH (3))))))) rfl)
  (a5 (ai (i:=6) (ao (zr L) L.xc (a7 (az (0) rfl) (a7 aj (aH (aA IG (bI (aH aj)) (gH (0) L.ag.cl L.cD (cS L))))))))
  (a5 (dq (0) (bp g9 (6) aj (λ_ _=>rfl)) rfl)
  (a9 (dq (0) (bp g9 (6) aj (λ_ _=>rfl)) rfl)))))))))))),?_}
 ac_rfl
 let{ra,rb,rc,rd,re}:=id KL
 have nxb:j≠x:=λz=>by
  let{dx',b,d,q,mv,h1,_}:=id B.ex
  rw[z,hx]at h1;have:=Ò h1;injection this with _ _ q2
  cases q2
 refine{3,j,many,n,g,bw,ss,ls,rfl,B,λw hw=>(Ld w hw).1,Ta,Fp,Fo,Fl,KL,λTn p f0 f rB u O ws m H1 s1 P1 hL hle C=>?_,kS,kO};have W0:=SQ (n:=n) C.ko C.ne (show 0<=many by lia) (C.cv.word C.b.l (λq I=>B.lv.sub.subset (C.sb q I)) hes);have P1':=P1.same (ck _ _);have zcL:=C.ln;have hwL:=C.b.w;have Vp:=C.b.l
 have Le:g.length^n<=64:=by
  rw[ç]at re;have:((g.length^n:Nat):Int)<=64:=by rw[we0];exact re
  lia
 have Qa:∀l∈m,l.9<=10000:=λl hm=>by
  have h1:=C.cv.line C.b.l (b:=64) (λp=>Í (gR g bw ss ls n p) Le) l hm;have h2:64*O.9<=64*40:=Ũ _ ()
  lia
 have Y5:u.9<=40:=by have:=C.ko.ab.sub.length_le;rw[ì]at this;lia
 have Zn:∀d∈u,d<m.9:=λd hd=>(C.ko.st d hd).1;refine{1,x,L.aq,a,[],rfl,s1 _ _ hx,L.ag.cl,L.ag.qh,(show 0<1000 by decide),?_};rw[S0];refine{2,x,L.aq,a,1,a6,L.ag.cl,L.ag.p9,(show 1<1000 by decide),?_};rw[S2];refine{2,x,L.aq,a,1,a6,L.ag.cl,L.ag.K8,(show 2<1000 by decide),?_};rw[Sa];refine{2,x,L.aq,a,1,a6,L.ag.cl,L.ag.kZ,(show 3<1000 by decide),?_};rw[Sb];have x2:(upd (upd (upd (upd H1 x (.ins L.aq a (Qs p))) x (.ins L.aq a (RX p j))) x (.ins L.aq a (Qt p j many))) x _) x=ρ (.ins L.aq a (Qu p j many (n:Int))):=a6;have k2:∀c o,H1 c=ρ o->c≠x->(upd (upd (upd (upd H1 x (.ins L.aq a (Qs p))) x (.ins L.aq a (RX p j))) x (.ins L.aq a (Qt p j many))) x (.ins L.aq a (Qu p j many (n:Int)))) c=ρ o:=λc o e hc=>by rw[ae hc,ae hc,ae hc,ae hc];exact e
 generalize upd (upd (upd (upd H1 x _) x _) x _) x _=H2 at x2 k2;have Xj:∀c o,H c=ρ o->c≠x->H2 c=ρ o:=λc o e hc=>k2 c o (s1 _ _ e) hc;have n2:a8 (aM H H1) (aM H H2):=bV hx k2;have P2:=P1.same (n2.trans (ck _ _))
 let{dp,wa,wb,R,wz,Tc,_,_,rc2,_}:=id P2
 refine{1,x,L.aq,a,_,1,x2,L.ag.cl,L.ag.qh,pV p j many n,p,dp,1,Tc,pU (by show ("sheet":Str)∉[("weights":Str),"splits","kept","last"];decide+kernel),p,cF f ls,rB,u,O,ws,m,rfl,P2,(),(),(),Qa,λy H3 s3 S3=>?_};have x3:=s3 _ _ x2;refine{1,x,L.aq,a,_,1,x3,L.ag.cl,L.ag.qh,pV p j many n,p,L.aW,dp,_,1,s3 _ _ Tc,L.ee.cl,L.ee.Jp,Dk wa wb R wz,?_}
 have Xk:aO K H3 R ((nI u).map V.int):=by
  let{c',e,h}:=iR (bN.same s3 _ _ rc2)
  cases e;exact h
 have S3':=S3.same (ck _ _)
 let{dy,ah,Zo,cl,hy,rh,rwt,rl}:=id S3'
 have hh:=uS rh
 let{SK,xs,ec,hc,yC}:=id rl
 cases ec;refine{1,R,rfl,{_,Xk},λr QK=>?_};refine et (λ_=>true) (λv=>match v with |.int d=>.str (O.getD d.toNat "") |_=>.non) (aT K R _) QK (ak (by rw[À,cM];lia)) (λH' s'=>s'.seq Xk) (λv H8 Q' hy s8 qq=>qq H8 (a8.refl _)) (λv H4 Q' hv _ J qq=>?_) (λH4 J h4=>?_)
 .let{n',Cj,rfl}:=vV hv
  have S:n'<O.9:=by rw[<-Vp];exact Zn n' Cj
  exact{1,y,L.aD,dy,_,1,J _ _ hy,L.aC.cl,L.aC.gm,fN ah Zo cl,1,ah,_,_,1,rfl,J.seq (.inl hh),bL (v:=.str (O.getD n' "")) (by rw[Ç,Ã S,Ë,Ã S];rfl),qq H4 (a8.refl _)}
 have e4:(((nI u).map V.int).filter λ_=>true).map (λv=>match v with |.int d=>V.str (O.getD d.toNat "") |_=>.non)=(u.map λd=>O.getD d "").map V.str:=by
  rw[ĝ.mpr (λ_ _=>rfl)];unfold nI;rw[Î,Î,Î];rfl
 rw[e4]at h4;have T:r≠x:=æ (af x3 QK);refine{1,x,L.aq,a,1,J _ _ x3,L.ag.cl,L.ag.gm,(show 4<1000 by decide),?_};rw[Sd];have x5:(upd H4 x _) x=ρ (.ins L.aq a (Qv p j many (n:Int) r)):=a6;have k5:∀c o,H4 c=ρ o->c≠x->(upd H4 x (.ins L.aq a (Qv p j many (n:Int) r))) c=ρ o:=λc o e hc=>by rw[ae hc];exact e
 generalize upd H4 x _=H5 at x5 k5;have x4:=J _ _ x3
 have nyx:y≠x:=λz=>by
  let{_,_,_,_,h,_}:=id S3
  rw[z]at h;unfold aM at h;rw[x2]at h;cases h
 have Q9:aO K H5 R ((nI u).map V.int):=(fE k5).seq (zB x4 (J.seq Xk));have Wq:=k5 _ _ (J _ _ hy) nyx;have rl5:bN K H5 (kR m) (.ref cl):=bN.same (fE k5) _ _ (bN.off x4 _ _ (bN.same J _ _ rl))
 let{YW,xs5,ec5,hc5,Xl}:=id rl5
 cases ec5;refine{1,R,rfl,{_,Q9},λD DT=>?_};refine wK (K:=K) ((fH m u many.toNat).map cj) (aT K R _) DT (ak (by rw[À,cM];lia)) (by unfold fH;rw[À,À,À,cM]) (λH' s'=>s'.seq Q9) (λi v dd H6 Q' hv QG U qq=>?_) (λH6 U r6=>?_)
 .have hi:i<u.9:=by have:=(Ñ.mp hv).1;rwa[À,cM]at this
  rw[zU (Ã hi)]at hv;cases hv;unfold fH at QG;rw[Ç,Ç,Ã hi]at QG;cases QG;have KA:=Zn _ (ñ hi);generalize u[i]=d at qq KA;have I:=d9 KA
  let{v',Q1,rd'}:=Xl.at (i:=d) (d:=cj (m.getD d [])) (by rw[Ç,I];rfl)
  exact{1,y,L.aD,dy,_,1,U _ _ Wq,L.aC.cl,L.aC.d2,bX ah Zo cl,1,cl,xs5,_,1,rfl,U.seq (.inl hc5),bL Q1,2,v',R,many,u,m.getD d [],rfl,bN.same U _ _ rd',U.seq Q9,(),Qa _ (Ð I),(),λz X s7 r7=>qq z X s7 r7}
 have x6:=U _ _ x5;refine{1,x,L.aq,a,1,x6,L.ag.cl,L.ag.d2,(show 5<1000 by decide),?_};rw[Se];have x7:(upd H6 x _) x=ρ (.ins L.aq a (M6 p j many (n:Int) r D)):=a6;have k7:∀c o,H6 c=ρ o->c≠x->(upd H6 x (.ins L.aq a (M6 p j many (n:Int) r D))) c=ρ o:=λc o e hc=>by rw[ae hc];exact e
 generalize upd H6 x _=X at x7 k7;have Zq:∀c o,H c=ρ o->c≠x->H5 c=ρ o:=λc o e hc=>k5 _ _ (J _ _ (s3 _ _ (Xj c o e hc))) hc;have kH7:∀c o,H c=ρ o->c≠x->X c=ρ o:=λc o e hc=>k7 _ _ (U _ _ (Zq c o e hc)) hc;have r7:bN K X (kR (fH m u many.toNat)) (.ref D):=bN.same ((F4 x5).trans (fE k7)) _ _ r6;have B7:b4 L.aB X j g bw ss ls:=(KB B hx nxb).same (fE kH7);refine{1,x,L.aq,a,_,1,x7,L.ag.cl,L.ag.d2,Bh p j r D many n,by show 1<=sizeLine;decide,λl0 NY=>?_}
 let{s8,h8}:=dk (H:=X) (o:=.lst [V.int 0]) NY
 generalize upd X l0 _=H8 at s8 h8;have x8:=s8 _ _ x7;refine{1,x,a,1,x8,A0 p j r D many n,x,j,a,_,n,g,bw,ss,ls,rfl,x8,Dm p j r D many n,Dn p j r D many n,B7.same s8,(),(),λw hw=>(Ld w hw).2,Ue,λb H9 s9 hb=>?_};have To:=hb.le;refine{l0,(b:Int),[V.int 0],rfl,rfl,s9 _ _ h8,(),(),ak (by show 1*((b:Int)).toNat<=_;lia),λpr Xm=>?_};rw[ç,w9]
 let{KS,Qb}:=dk (H:=H9) (o:=.lst ((nI (Ý b 0)).map V.int)) Xm
 generalize upd H9 pr _=Nf at KS Qb;have Y:=s8.trans (s9.trans KS);refine⟨.ref D,0,pr,many,n,fH m u many.toNat,Ý b 0,rfl,bN.same Y _ _ r7,aO.of Qb,W0,Š.mpr W0.ne,λt ht=>by rw[(η.mp ht).2];lia,by rw[č];lia,(),λq M Lg I=>?_⟩;have Z:=Y.trans Lg;have Zr:=Z _ _ x7;have W2:q≠x:=λz=>by rw[z,Zr]at I;cases I
 generalize hwk:cP (fH m u many.toNat) 0 (Ý b 0)=wk at I;refine{1,q,_,_,1,rfl,gM.of I,rfl,1,x,L.aq,a,1,Zr,L.ag.cl,L.ag.sy,(show 6<1000 by decide),?_};rw[Sf];refine{1,q,_,_,1,rfl,gM.of (by rw[ae W2];exact I),rfl,1,x,L.aq,a,1,a6,L.ag.cl,L.ag.F7,(show 7<1000 by decide),?_};rw[Sz];have Xn:(upd (upd M x (.ins L.aq a (RY p j many (n:Int) r D wk.1))) x _) x=ρ (.ins L.aq a (nW p j many (n:Int) r D wk.1 (wk.2:Int))):=a6;have Zt:∀c o,M c=ρ o->c≠x->(upd (upd M x (.ins L.aq a (RY p j many (n:Int) r D wk.1))) x (.ins L.aq a (nW p j many (n:Int) r D wk.1 (wk.2:Int)))) c=ρ o:=λc o e hc=>by rw[ae hc,ae hc];exact e
 generalize upd (upd M x _) x _=G at Xn Zt;have Tp:∀c o,X c=ρ o->c≠x->G c=ρ o:=λc o e hc=>Zt _ _ (Z _ _ e) hc;have Xo:∀c o,H5 c=ρ o->c≠x->G c=ρ o:=λc o e hc=>Tp _ _ (k7 _ _ (U _ _ e) hc) hc;have Tq:∀c o,H4 c=ρ o->c≠x->G c=ρ o:=λc o e hc=>Xo _ _ (k5 _ _ e hc) hc;have Tr:∀c o,H2 c=ρ o->c≠x->G c=ρ o:=λc o e hc=>Tq _ _ (J _ _ (s3 _ _ e)) hc
 have fla:H r=τ:=by
  cases e:H r with
  |none=>rfl
  |some o=>have:=s3 _ _ (Xj r o e T);rw[QK]at this;cases this
 have m5:∀c o,H c=ρ o->∃o',H5 c=ρ o':=λc o e=>by
  by_cases z:c=x
  .rw[z];exact{_,x5}
  .exact{o,Zq c o e z}
 rw[<-hwk]at Xn;refine k Tn p r D f0 f rB u O ws m b G (λc o e hc=>Tr _ _ (Xj c o e hc) hc) Xn (P1.same (n2.trans (bV hx Tr))) (qa (cg fla (Tq _ _ h4 T))) (bN.same ((Dl m5).trans (bV hx λc o e hc=>Tp _ _ (k7 _ _ e hc) hc)) _ _ r6) hL hle C W0 hb
theorem Az(L:Lk K mg):aR P w K mg base d4 12 L.tR L.u9 ["_law_signs","_law_words","_law_many","_law_wide"] (N6 K L.aq L.aB L.aW L.aD):=by
 refine L.ug.F.dM (N:=["_law_signs","_law_words","_law_many","_law_wide","_law_told_here"]) (λY A outer s H vs Q E nd T h=>?_)
 let{g,a,many,n,bw,rfl,Z,q,m,d,v,k}:=h
 refine{_,(a5 (ai (i:=4) eO)
  (a5 (N3 ⟨rfl,rfl⟩ (mx (Ms (i:=4) nd rfl (ğ rfl) (Jw L.GV (pC L) (T.mono ⋯) rfl L.Kk L.jr.b (a7 (nN L.MY (sG L) (T.mono ⋯) rfl L.PX L.lY.b .nil pJ (a7 (0) (aH (1)))) (a7 (2) (aH (3))))))) rfl L.xm rfl L.Ak L.ia L.xn (L.ia.ne L.xn ∅) (L.ia.neT L.XT ∅) nd (i:=4) rfl (ğ rfl))
  (a9 (aw (4))))),?_}
 ac_rfl
 have g2:=q.lo;have g4:=q.hi;have w1:∀w∈bw,1<=w.9/\w.9<=900:=λw h=>{(d w h).lo,by have:=(d w h).hi;lia};refine{2,λy z l j U=>?_};refine{y,z,g,a,bw,rfl,a6,(fP l j).seq Z,q,m,d,λss ls r t B=>{rfl,?_}};have C:a8 H r:=λb o e=>B b o (fP l j _ _ e) (af e l);have Fl:ss.9<=25:=t.few m d;have D:("":Str)∈ss:=t.pm.mem_iff.mpr ((jA _).mpr (.inl rfl));refine{2,λx u nx G nex=>?_};have sm:a8 r (upd (upd r u (.own x)) x (.ins L.aq u [])):=fP nx G;refine{x,u,y,many,n,g,bw,ss,ls,rfl,a6,t.same sm,w1,(),D,q.nd,g2,(),(),v,λI p la ll f0 f J ks hs ws M b V k2 x2 P2 r2 l2 hL O hP W0 hB=>{rfl,?_},?_,?_}
 .have X:a8 r V:=λc o e=>k2 _ _ (sm _ _ e) (af e nx);refine{1,k _ V (C.trans X) (.inr {x,rfl,y,ss,ls,f0,f,J,ks,hs,ws,M,b,t.same X,{u,p,la,ll,x2,P2.same (ck _ _),bN.same (ck _ _) _ _ r2,bN.same (ck _ _) _ _ l2},I,hL,O,hP,W0,hB})}
 .exact λk' d' R _ S _ _=>{.inl rfl,1,k .non R (C.trans (sm.trans S)) (.inl rfl)}
 .exact λ_ _ R S=>{.inr rfl,1,k .non R (C.trans (sm.trans S)) (.inl rfl)}
theorem Qh{f:Addr}{fd:ï}(L:Lk K mg)(F:zy K "law" "law" (top 95) f fd):aR P w K mg base d4 13 f fd ["_law_script"] (EW K):=by
 have T:=L.T;refine F.dM (N:=["_law_script","_law_signs","_law_words","_law_many","_law_wide","_law_told_here","_law_data","_law_reader","_law_row","_law_cell","_law_at","_law_sign","_law_room","_law_window","_law_least","_law_less","_law_size","_law_longer","_law_number"]) (λhU A outer s H vs Q E nd hr h=>?_)
 let{a,ns,rfl,hS,hlen,k}:=h
 have SJ:(A.deeper (wda "law" (aL (top 95)) s.heap.objs.size f hU)).units<ò:=hr.vq
 refine{_,(a5 (vm (ao (Aw L) L.ue (aH (0))) (eE rfl (aQ (ay (i:=1)) (aQ (ay (i:=2)) d1))))
  (a5 (vm (ao (Ax L) L.uf (a7 (0) (aH (1)))) (eE rfl (aQ (ay (i:=3)) (aQ (ay (i:=4)) d1))))
  (a5 (ai (i:=5) (ao (Az L) L.ug (a7 (1) (a7 (2) (a7 (3) (aH (4)))))))
  (a5 (b7 (cC Cz (5) eO) (a9 (aw dN)) aJ)
  (a5 (dS (i:=6) rfl (ax ["_law_many"] [3]) nd rfl rfl (aS (bq jv (0) (b9 aj) (b9 aj))) (λ_ _ _ _ _ _=>bf) (λ_ _ _ _ _ _=>(aA cJ (0) (1))))
  (a5 (ai (i:=7) (nN L.GU (pA L) (hr.mono ⋯) rfl L.Kj L.jn.b .nil pJ (aH (5))))
  (a5 (ai (i:=8) (Fn (5) L.ag.cl L.nD (uE L) (aH (bx dQ (by rfl) T.list iz (aH (6))))))
  (a5 (ai (i:=9) (aA cJ (ao (iE L) L.i9 (a7 (0) (aH aj))) aj))
  (a5 (ai (i:=10) (aA cJ (aA j9 (9) aj) (aA bZ (xH T.len (8)) aj)))
  (a5 (ai (i:=11) (ao (xX L) L.rj (a7 (1) (aH (9)))))
  (a5 (b7 (cH (bS (ao (cE L) L.cy (a7 (ao (cZ L) L.cQ (a7 (7) (a7 aj (a7 (aA cV (aA cV (bq fq (8) dh (b9 (10))) (11)) (bq fq (8) (b9 (10)) dh)) (aH aj))))) (a7 aj (aH (10))))))) (a9 (aw dN)) aJ)
  (a5 (ai (i:=12) (aA fo (4) (aA bZ (aA bZ (gH (5) L.ag.cl L.cD (cS L)) aj) (gH (5) L.ag.cl L.cX (dg L)))))
  (a5 (ai (i:=13) (bq fq (aA cV (aA cV (8) (gH (5) L.ag.cl L.eB (eV L))) (aA EA (1) (12))) dh (b9 (12))))
  (a5 (ai (i:=10) (aA cJ (aA j9 (9) aj) (12)))
  (a5 (b7 (cH (bS (ao (cE L) L.cy (a7 (ao (cZ L) L.cQ (a7 (7) (a7 aj (a7 (aA cV (aA cV (bq fq (13) dh (b9 (10))) (11)) (bq fq (13) (b9 (10)) dh)) (aH aj))))) (a7 aj (aH (10))))))) (a9 (aw dN)) aJ)
  (a5 (b7 (cH (bS (ao (cE L) L.cy (a7 (ao (cZ L) L.cQ (a7 (7) (a7 aj (a7 (aA cV (13) (bp CY (1) aj (λ_ _=>rfl))) (aH aj))))) (a7 aj (aH (aA bZ (12) aj))))))) (a9 (aw dN)) aJ)
  (a5 (b7 (cH (bS (ao (cE L) L.cy (a7 (ao (cZ L) L.cQ (a7 (7) (a7 aj (a7 (bq fq (13) (b9 aj) dh) (aH aj))))) (a7 aj (aH (aA gf (12) aj))))))) (a9 (aw dN)) aJ)
  (a5 (ai (i:=14) (aA bZ (xH T.len (gH (5) L.ag.cl L.eB (eV L))) (aA fo (4) (gH (5) L.ag.cl L.cX (dg L)))))
  (a5 (ai (i:=15) (bI (a7 (aA gf (14) aj) (aH (aA bZ (aA bZ (xH T.len (8)) aj) (aA cJ (9) (aF (nM rfl) (by rfl) T.max yR (a7 aj (aH (aA gf (4) aj))))))))))
  (Ex (b7 (cC iM (4) aj) (a9 (ai (i:=15) (bI (aH (aA gf (14) aj))))) aJ)
  (a5 (forA (aS (15)) (ay (i:=16)) (a5 (ai (i:=17) (aA cV (8) (aA EA (1) (aF (nM rfl) (by rfl) T.max yR (a7 aj (aH (16)))))))
  (a5 (b7 (PW.pt (CI (cC AK (16) aj) (zE (cH (bS (ao (cE L) L.cy (a7 (ao (cZ L) L.cQ (a7 (7) (a7 aj (a7 (bq fq (17) dh (b9 (16))) (aH aj))))) (a7 aj (aH (16)))))))))) (a9 (aw dN)) aJ)
  (a9 (b7 (cH (bS (ao (cE L) L.cy (a7 (ao (cZ L) L.cQ (a7 (7) (a7 aj (a7 aj (aH (16)))))) (a7 aj (aH (16))))))) (a9 (aw dN)) aJ)))))
  (a5 (forA (aS (bI (a7 (xH T.len (8)) (a7 (aA bZ (aA bZ (xH T.len (8)) aj) (9)) (a7 (aA gf (Nu Iy aj) (aA cJ (9) aj)) (a7 dN (a7 dN (a7 eO (aH cI))))))))) (ay (i:=18)) (a9 (b7 (cH (bS (ao (cE L) L.cy (a7 (ao (cZ L) L.cQ (a7 (7) (a7 aj (a7 (18) (aH (xH T.len (8))))))) (a7 aj (aH eO)))))) (a9 (aw dN)) aJ)))
  (a9 (aw (fZ (CT SJ) (jb (7) L.au.cl L.fC.m (nK L) (hr.mono ⋯) L.fC.b .nil CF (aH (8))) (6) (kr _)))))))))))))))))))))))))),?_}
 ac_rfl
 refine mj λR1 c1=>?_;refine{1,a,ns,rfl,hS,λpt M g ws H1 s1 fpt flw hpt Q8 sg Ua Uw=>?_};have g2:=sg.lo;have g4:=sg.hi;refine{pt,1,gM.of hpt,rfl,_,1,_,1,rfl,?_};refine c1 _ _ (mj λR2 c2=>?_);refine{2,a,ns,g,rfl,s1.seq hS,g2,g4,λpr many wide H2 s2 fpr Xm KL=>?_};refine{pr,1,gM.of Xm,rfl,_,1,_,1,rfl,?_};refine c2 _ _ (mj λR3 c3=>?_)
 let{ra,rb,rc,rd,re}:=id KL
 obtain⟨wd,rfl⟩:∃w:Nat,wide=(w:Int):={wide.toNat,()};have QE:=s1.trans s2;refine{4,g,M,many,wd,ws,rfl,aO.of (s2 _ _ Q8),sg,Ua,Uw,KL,λv H3 s3 hv=>?_};have Au:=QE.trans s3;refine c3 _ _ (mj λR4 c4=>?_);rcases hv with rfl |⟨x,rfl,hT⟩
 .exact{1,rfl,true,rfl,cU (k H3)}
 refine{_,rfl,rfl,false,rfl,bo ?_};refine c4 _ _ (mj λR5 c5=>?_)
 obtain⟨R,Wv,rfl,rfl,rfl,rfl,Xp⟩:∃R:Wr,sF K L.aq L.aB L.aW H3 x R/\many=R.many/\wd=R.n/\g=R.g/\ws=R.bw/\R.c<=40:=by
  let{xb,ss,ls,f0,f,rB,ks,hs,wss,lns,b,B,Wv,Tn,hL,hle,hP,W0,hB}:=hT
  exact{_,N0 B Wv hP W0 hB sg.nd (λw h=>{(Uw w h).lo,by have:=(Uw w h).hi;lia}) () () () rb () (),rfl,rfl,rfl,rfl,hP.sl}
 have ok:=Wv.ok;have n1:=ok.n1;have uj:=ok.uj;have n6:R.n<=6:=();have X7:=KH ok;have w5:∀w∈R.bw,w.9<=5:=λw h=>(Uw w h).hi;have hob:=Ss ok.bh w5 n1;have hnc:R.n*R.c<=6*40:=Ĕ n6 Xp;have Ts:R.n*(R.b+1+R.c)=R.n*R.b+R.n+R.n*R.c:=by rw[ĩ,ĩ,whV]
 let{ms,em,Uj}:=Ch ns (ρ 7) (ρ 47)
 refine{3,a,1,Au.seq hS,?_};rw[em];refine λla QK=>{la,rfl,{_,aO.of a6},λld QH=>?_}
 let{t1,g1}:=dk (H:=H3) (o:=.lst (ms.map V.int)) QK
 generalize upd H3 la _=H4 at QH t1 g1;refine comp_map (RZ R.many) (aT K la _) QH (by rw[À];exact ak ()) (λH' s'=>aO.of (s' _ _ g1)) (λy H7 Q' hy s7 q=>?_) (λH5 s5 h5=>?_)
 .let{c,hc,rfl}:=Æ.mp hy
  exact{2,_,1,rfl,(),q H7 (a8.refl _)}
 let{ts,e1,tl,tm}:=J5 ra ms
 rw[e1]at h5;have SZ:=t1.trans s5;clear t1 g1 s5 QK QH e1;refine c5 [ρ (.ref a),ρ (.str R.g),ρ (.ref M),ρ (.int R.many),ρ (.int (R.n:Int)),ρ (.ref x),ρ (.ref ld),τ,τ,τ,τ,τ,τ,τ,τ,τ,τ,τ,τ] _ (mj λR6 c6=>?_);refine{1,λz dz nz Uv Zm=>?_};have sm:a8 H5 (upd (upd H5 dz (.own z)) z (.ins L.aE dz [])):=fP nz Uv;refine{z,dz,x,R,rfl,a6,(Wv.same SZ).same (Bf sm nz),λH6 kp D6=>{rfl,?_}};have s6:a8 H5 H6:=λc o e=>kp _ _ (sm _ _ e) (af e nz);clear kp sm nz Uv Zm;have Zu:=SZ.trans s6;have h6:=s6 _ _ h5;have W6:=Wv.same Zu
 let{{dx,p,xb',aa,ll,dp,wa,wb,wc,wz,ys,hx,_},_}:=id W6
 let{dz',x',a',hz,_}:=id D6
 refine c6 (Ph R a M x ld z τ τ τ τ τ τ τ τ τ τ τ) _ (mj λR7 c7=>?_);refine{1,x,dx,1,hx,eU,1,ld,1,.inl (aO.of h6),λl7 QF=>?_}
 let{s7,h7}:=dk (H:=H6) (o:=.lst ((nI ts).map V.int)) QF
 generalize upd H6 l7 _=H7 at s7 h7;refine{x,l7,R,ts,rfl,W6.same s7,h7,tm,(),λH8 s8=>?_}
 let{A1,r1}:=VW ok tm
 rw[r1.row];have Am:(cat A1).length=R.n*(R.b+ts.9+R.c):=by rw[fD λu h=>(r1.u u h).1,r1.l]
 have zcY:R.n*(R.b+ts.9+R.c)=R.n*R.b+R.n*ts.9+R.n*R.c:=by rw[ĩ,ĩ]
 have Vi:R.n*ts.9<=6*63:=Ĕ n6 ();have Ux:∀c∈ch (cat A1),c∈ch R.g:=Ag λu h=>(r1.u u h).2;have Z:=s7.trans s8;have W8:=W6.same Z;have D8:=D6.same Z;have Tu:=Z _ _ hx;have hz8:=Z _ _ hz;have h8:=Z _ _ h6;have hS8:aO K H8 a (ns.map V.int):=(Au.trans (Zu.trans Z)).seq hS;refine c7 (Ph R a M x ld z (ρ (.str (cat A1))) τ τ τ τ τ τ τ τ τ τ) _ (mj λR8 c8=>?_);clear c5 c6 c7;refine⟨_,rfl,a,ns,5,rfl,hS8,λc0 H9 s9=>?_⟩;refine{_,1,rfl,(by show (0:Int)<1000003;decide),?_}
 let{cell,Zv,Tv}:=Pg c0 (n:=1000003) ()
 show bR 9 (V.int (c0%((1000003:Nat):Int))) _ _ _;rw[Tv];refine c8 (Ph R a M x ld z (ρ (.str (cat A1))) (ρ (.int (cell:Int))) τ τ τ τ τ τ τ τ τ) _ (mj λR9 c9=>?_);clear c8
 let{X,Xq,Tw}:=Pg ((cell:Int)/6) (n:=(cat A1).length+1) ()
 refine{1,_,1,rfl,{⋯,⋯},1,cat A1,rfl,ak (),_,1,rfl,_,1,rfl,(),?_};show bR 10 (V.int ((cell:Int)/6%(((cat A1).length+1:Nat):Int))) _ _ _;rw[Tw];refine c9 (Ph R a M x ld z (ρ (.str (cat A1))) (ρ (.int (cell:Int))) (ρ (.int (X:Int))) τ τ τ τ τ τ τ τ) _ (mj λR10 Zw=>?_);clear c9;refine{2,R.g,(cell:Int),rfl,λkc Nf KS hkc=>?_};have Zx:=PD sg hkc;have Qi:=s9.trans KS;refine Zw (Ph R a M x ld z (ρ (.str (cat A1))) (ρ (.int (cell:Int))) (ρ (.int (X:Int))) (ρ (.str {#[kc]})) τ τ τ τ τ τ τ) _ (mj λR11 Xr=>?_);clear Zw;generalize Q6:cat A1=row at Am Ux Xq Tw Xr
 let{f1,f2,f3}:=F0 (k:=kc) (r:=row) (i:=X) () ()
 refine{4,row,rfl,ak (),1,_,1,rfl,ak (Í f1 ⋯),3,row,rfl,ak (),_,1,rfl,ak (Í f2 ⋯),?_};refine⟨z,R,0,_,0,0,.int (X:Int),rfl,D8.same Qi,.inl {_,X,.inl rfl,rfl,f3,F6 Ux Zx (),rfl,rfl},λe C nm od Ng Lg O S=>?_⟩;refine⟨_,rfl,e,C,nm,od,0,_,rfl,O,S,λO2 HH=>{true,rfl,bo ?_}⟩;have Qj:=Qi.trans (Lg.trans HH);clear O S Lg HH Qi s9 KS;refine Xr _ _ (mj λR12 Zy=>?_);clear Xr;refine{2,x,dx,1,Qj _ _ Tu,eU,Aq (W8.same Qj) λXc WM=>?_};have I:=Qj.trans WM;refine{_,1,rfl,1,x,dx,1,I _ _ Tu,eU,x,R,rfl,W8.same I,_,1,rfl,_,1,rfl,.inl {(),()},?_};show bR 12 (V.int ((R.n:Int)*((R.b:Int)+1+(R.c:Int)))) _ _ _;rw[show (R.n:Int)*((R.b:Int)+1+(R.c:Int))=((R.n*(R.b+1+R.c):Nat):Int) by rw[ą];rfl];obtain⟨t,O4⟩:∃t,R.n*(R.b+1+R.c)=t:={_,rfl};rw[O4];rw[O4]at Ts;refine Zy (Ph R a M x ld z (ρ (.str row)) (ρ (.int (cell:Int))) (ρ (.int (X:Int))) (ρ (.str {#[kc]})) (ρ (.int (t:Int))) τ τ τ τ τ τ) _ (mj λR13 Zz=>?_);clear Zy;have ZA:=sg.hi;have hgr:R.g.9*t<=4*300:=Ĕ ZA ();have Xs:=Ai R.g t;rw[whw]at Xs;refine{2,x,dx,1,I _ _ Tu,eU,x,R,rfl,W8.same I,_,1,rfl,ak (),2,R.g,(t:Int),rfl,rfl,J6 () (),_,1,rfl,ak (by rw[len_app];lia),3,ak (by rw[len_app,len_app];lia),?_};show bR 13 (V.str (bT (row++R.o.1++Ĝ R.g (t:Int)) t)) _ _ _
 let{xQ,Uy}:=Ki (m:=t) (show 1<=R.g.length by lia) (Ka Ux (W5 ok))
 generalize bT (row++R.o.1++Ĝ R.g (t:Int)) t=D at xQ Uy;refine Zz (Mq R a M x ld z row cell X kc t D τ τ τ τ τ) _ (mj λR14 ZB=>?_);clear Zz
 let{G,zd2,Xu}:=Pg ((cell:Int)/6) (n:=t) ()
 refine{1,_,1,rfl,{⋯,⋯},1,_,1,rfl,(),?_};show bR 10 (V.int ((cell:Int)/6%(t:Int))) _ _ _;rw[Xu];refine ZB (Mq R a M x ld z row cell G kc t D τ τ τ τ τ) _ (mj λR15 ZC=>?_);clear ZB
 let{f1,f2,f3}:=F0 (k:=kc) (r:=D) (i:=G) () ()
 refine{4,D,rfl,ak (),1,_,1,rfl,ak (Í f1 ⋯),3,D,rfl,ak (),_,1,rfl,ak (Í f2 ⋯),?_};refine⟨z,R,1,_,0,0,.int (G:Int),rfl,D8.same I,.inl {_,G,.inr rfl,rfl,f3,F6 Uy Zx (),rfl,rfl},λe C nm od WN ZD O S=>?_⟩;refine⟨_,rfl,e,C,nm,od,0,_,rfl,O,S,λH15 Uq=>{true,rfl,bo ?_}⟩;have Tx:=I.trans (ZD.trans Uq);clear O S ZD Uq;refine ZC _ _ (mj λR16 c16=>?_);clear ZC;obtain⟨g0,ZE⟩:∃c,(ch R.g)[0]?=ρ c:={_,Ã (by rw[aP];lia)};have hg0:g0∈ch R.g:=Ð ZE;have Ld:(D++({#[g0]}:Str)).length=t+1:=by rw[len_app,xQ];rfl
 refine⟨_,rfl,_,rfl,_,rfl,R.g,0,g0,rfl,rfl,ak (),bL (j:=0) ZE,_,_,rfl,rfl,ak (by show D.9+1<=_;lia),?_⟩;refine⟨z,R,1,_,0,1,.int ((D++({#[g0]}:Str)).length:Int),rfl,D8.same Tx,.inr (.inr (.inl {1,rfl,(),Ka Uy (λc h=>by rw[Þ.mp h];exact hg0),(),rfl,rfl})),λe C nm od H16 ZF O S=>?_⟩;refine⟨_,rfl,_,_,rfl,rfl,e,C,nm,od,1,_,by rw[Ld];rfl,O,S,λH17 ZG=>{true,rfl,bo ?_}⟩;have Tz:=Tx.trans (ZF.trans ZG);clear O S ZF ZG;refine c16 _ _ (mj λR17 ZH=>?_);clear c16;have hw2:(cm D 1).9=t-1:=by rw[<-aP,hH,ē,aP,xQ]
 refine{3,D,rfl,ak (),?_};refine⟨z,R,1,.str (cm D 1),0,1,.int ((cm D 1).9:Int),rfl,D8.same Tz,.inr (.inr (.inl {1,rfl,(),(λc h=>by rw[hH]at h;exact Uy c (wh1 h)),(),rfl,rfl})),λe C nm od H18 Tl O S=>?_⟩;refine⟨_,rfl,_,_,rfl,rfl,e,C,nm,od,1,_,by rw[hw2,Int.ofNat_sub ()];rfl,O,S,λH19 ZI=>{true,rfl,bo ?_}⟩;have J:=Tz.trans (Tl.trans ZI);clear O S Tl ZI;refine ZH _ _ (mj λR18 ZJ=>?_);clear ZH;refine{1,x,dx,1,J _ _ Tu,eU,x,R,rfl,W8.same J,R.o.1,rfl,ak (),2,x,dx,1,J _ _ Tu,eU,x,R,rfl,W8.same J,_,1,rfl,.inl {(),()},_,1,rfl,?_};show bR 14 (V.int ((R.o.1.9:Int)+(R.n:Int)*(R.c:Int))) _ _ _;rw[X7];have To:=G8 n1;obtain⟨le,ZK⟩:∃le,((R.n*R.b:Nat):Int)+(R.n:Int)*(R.c:Int)=le:={_,rfl};rw[ZK];rw[ZK]at To;refine ZJ (Mq R a M x ld z row cell G kc t D (ρ (.int le)) τ τ τ τ) _ (mj λR19 ZL=>?_);clear ZJ
 let{d,hd,ed}:=Pb cell n1
 refine⟨_,rfl,_,_,rfl,rfl,_,rfl,row,rfl,ak (),_,_,rfl,rfl,_,rfl,_,rfl,_,_,rfl,rfl,1,_,rfl,_,_,rfl,rfl,?_,_,_,rfl,rfl,(by show 2<=sizeLine;decide),λl1 KM=>?_⟩
 .show (0:Int)<if (R.n:Int)-1>1 then(R.n:Int)-1 else 1
  split<;>lia
 refine ZL (Mq R a M x ld z row cell G kc t D (ρ (.int le)) (ρ (.ref l1)) τ τ τ) _ ?_;clear ZL;refine{λσ' H'=>∃(ll:Addr) (Uz:List Int),σ'=Mq R a M x ld z row cell G kc t D (ρ (.int le)) (ρ (.ref ll)) τ τ τ/\a8 H8 H'/\H' ll=ρ (.lst (Uz.map V.int))/\∀s∈Uz,q0 R s/\s.natAbs<=1000,?_,?_}
 .refine{1,rfl,1,uo (λh=>?_) (λh=>?_)}
  .refine{1,_,1,rfl,(by show 1<=sizeLine;decide),λl2 N9=>?_};exact{l2,[le-1],rfl,(J.trans (a8.upd KM)).trans (a8.upd N9),a6,λs hs=>by rw[Þ.mp hs];exact{To,()}}
  .refine{l1,[le-1,(row.9:Int)+1+(cell:Int)%(if (R.n:Int)-1>1 then(R.n:Int)-1 else 1)],rfl,J.trans (a8.upd KM),a6,λs hs=>?_};rw[ed]at hs;have hn:R.n≠1:=λz=>h (decide_eq_true (by rw[z];rfl));have hd:=hd hn;rcases à.mp hs with rfl |hs
   .exact{To,()}
   .rw[Þ.mp hs,Am];exact{Jt hd,()}
 clear To KM;rintro _ H20 ⟨ll,Uz,rfl,Qk,ZM,hsz⟩;refine mj λR20 ZN=>?_;refine{1,ll,rfl,{_,aO.of ZM},di (K:=K) (a:=ll) (xs:=Uz.map V.int) (λi σ H2=>a8 H20 H2/\∃Qx Qy,σ=Mq R a M x ld z row cell G kc t D (ρ (.int le)) (ρ (.ref ll)) Qx Qy τ) {a8.refl _,τ,τ,rfl} (λi σ H' _ q=>aO.of (q.1 _ _ ZM)) ?_ ?_}
 .rintro i y σ Xv hy ⟨TC,Qx,Qy,rfl⟩
  let{sz,hm,rfl}:=Æ.mp (Ð hy)
  let{hb,hab}:=hsz sz hm
  have Y:=Qk.trans TC;show bR 16 (V.int sz) _ _ _;refine mj λR21 TF=>?_;have em:(if sz>0 then sz else 0)=((sz.toNat:Nat):Int):=by split<;>lia
  have hgm:R.g.9*sz.toNat<=4*1000:=Ĕ ZA ();have TH:=Ai R.g sz.toNat;rw[whw]at TH;refine⟨_,rfl,_,rfl,_,rfl,0,sz,rfl,R.g,_,rfl,rfl,by rw[em];exact J6 () (),_,_,rfl,rfl,ak (by rw[em];lia),?_⟩;show bR 17 (V.str (row++Ĝ R.g (if sz>0 then sz else 0))) _ _ _;rw[em];refine TF (Mq R a M x ld z row cell G kc t D (ρ (.int le)) (ρ (.ref ll)) (ρ (.int sz)) (ρ (.str (row++Ĝ R.g (sz.toNat:Int)))) τ) _ (mj λR22 c22=>?_);clear TF em
  have key:∀H',a8 Xv H'->R22 (Mq R a M x ld z row cell G kc t D (ρ (.int le)) (ρ (.ref ll)) (ρ (.int sz)) (ρ (.str (row++Ĝ R.g (sz.toNat:Int)))) τ) H':=by
   intro H22 ZO;refine c22 _ _ ?_;refine⟨_,rfl,_,rfl,z,R,2,_,sz,1,.int sz,rfl,D8.same (Y.trans ZO),.inr (.inr (.inr (.inl ⟨rfl,hb,hab,rfl,rfl⟩))),λe C nm od UA QL O S=>?_⟩;refine⟨_,rfl,e,C,nm,od,1,_,rfl,O,S,λUB U=>{true,rfl,bo ?_}⟩;exact{TC.trans (ZO.trans (QL.trans U)),_,1}
  refine{1,_,1,rfl,1,uo (λh=>?_) (λh=>bo (key Xv (a8.refl _)))};have h:=of_decide_eq_true h;obtain⟨m,rfl⟩:∃m:Nat,sz=(m:Int):={sz.toNat,()};rw[ç]at TH key hgm
  let{KM,N9}:=Ki (m:=m) (show 1<=R.g.length by lia) Ux
  refine{5,ak (by rw[len_app,ç];lia),?_};refine⟨z,R,0,.str (bT (row++Ĝ R.g (m:Int)) m),0,1,.int (m:Int),rfl,D8.same Y,.inr (.inl {1,rfl,(),N9,by rw[KM];exact hb,rfl,by rw[KM]}),λe C nm od UA QL O S=>?_⟩;exact⟨_,rfl,e,C,nm,od,1,_,rfl,O,S,λUB U=>{true,rfl,bo (key UB (QL.trans U))}⟩
 rintro σ Xv ⟨TC,Qx,Qy,rfl⟩;have Y:=Qk.trans TC;refine ZN _ _ (mj λR21 TF=>?_);clear ZN Qk TC;refine{1,row,rfl,ak (),1,row,rfl,ak (),_,1,rfl,1,_,1,rfl,2,_,1,rfl,(by show (0:Int)<9;decide),_,1,rfl,(by show 7<=sizeLine;decide),λl3 FN=>?_};refine{l3,rfl,{_,aO.of a6},di (K:=K) (a:=l3) (xs:=[.int (row.9:Int),.int ((row.9:Int)+1+(cell:Int)),.int (-1-(cell:Int)%9),.bl true,.bl false,.non,.str "0"]) (λi σ H2=>aO K H2 l3 [.int (row.9:Int),.int ((row.9:Int)+1+(cell:Int)),.int (-1-(cell:Int)%9),.bl true,.bl false,.non,.str "0"]/\a8 H8 H2/\∃Sr,σ=Mq R a M x ld z row cell G kc t D (ρ (.int le)) (ρ (.ref ll)) Qx Qy Sr) {aO.of a6,Y.trans (a8.upd FN),τ,rfl} (λi σ H' _ q=>q.1) ?_ ?_}
 .rintro i y σ UA hy ⟨q23,QL,Sr,rfl⟩
  have hbd:OW UA (row.9:Int) y:=by
   have ZP:=Ð hy;simp only[à,ŋ,or_false]at ZP;rcases ZP with rfl |rfl |rfl |rfl |rfl |rfl |rfl
   .exact{.flat rfl,.inr {1,.inr ()}}
   .exact{.flat rfl,.inr {1,.inr ()}}
   .exact{.flat rfl,.inr {1,.inl ()}}
   .exact{.flat rfl,.inl rfl}
   .exact{.flat rfl,.inl rfl}
   .exact{.flat rfl,.inl rfl}
   .exact{.flat rfl,.inl rfl}
  show bR 18 y _ _ _;refine{3,row,rfl,ak (),?_};refine⟨z,R,2,y,(row.9:Int),2,.non,rfl,D8.same QL,.inr (.inr (.inr (.inr {ts.9,rfl,by rw[Am],hbd,rfl}))),λe C nm od UB U O S=>?_⟩;exact⟨e,C,nm,od,2,_,rfl,O,S,λH25 ZQ=>{true,rfl,bo {(U.trans ZQ).seq q23,QL.trans (U.trans ZQ),1}}⟩
 rintro σ UA ⟨_,Ql,Sr,rfl⟩;refine TF _ _ ?_;clear TF;refine{1,z,dz',1,Ql _ _ hz8,gP,1,z,R,row,rfl,D8.same Ql,.inl {A1,ts.9,_,Q6.symm,r1.u,r1.l,(),r1.res ok,λlf UB U ff ZR=>?_}};rw[Gm]at ZR;refine{1,lf,ld,_,1,rfl,aO.of ZR,aO.of (U _ _ (Ql _ _ h8)),fM _,fM _,?_};rw[su,decide_eq_true rfl];exact k _
end
end K54
end
namespace K54
open PySem PySem.W _L _B _S
theorem nz{K:Frag}{mg:Str->Option Value}{hp:Heap}{x:Str}(X:K.In hp)(G:hp.Ns ó mg)(a:nsIn K ó x=some none:=by k_is):mg x=none:=mg_none_of X G a
theorem na{K:Frag}{C:Addr}{f:Str}(a:findIn K (.ref C) f=some none:=by k_is):bY K C f:=a
theorem fnA{K:Frag}{mg:Str->Option Value}{hp:Heap}{f:Addr}{oc:Value}{od an:Option Addr}{HS:Array (Option Value)}{kV doc pm hU ct:Value}{nm:Str}{st:Stmt}{ps:List Str}(X:K.In hp)(G:hp.Ns ó mg)(a:nsIn K ó nm=some (some (.ref f)):=by k_is)(l:K.lookup f=some ⟨oc,od,.func (fnOf nm nm (dP st) (cn st) (aL st) .none kV doc pm an hU ct),HS⟩:=by k_is)(c:codeIn K hU nm=true:=by k_is)(k:keepIn K (.ref f)=true:=by k_is)(b:∀(kV doc pm:Value) (an:Option Addr) (hU ct:Value) (us:List Value),us.length=ps.length->bindArgs (fnOf nm nm (dP st) (cn st) (aL st) .none kV doc pm an hU ct) ⟨us,[]⟩=pure (ps.zip us):=by intro _ _ _ _ _ _;refine _L.Cw _ _ ?_;(repeat refine λ_=>?_);rfl):∃fd,FnAt K mg nm st ps f fd:=Raw.at_ X G a (Dq l c k) b
theorem meA{K:Frag}{C f:Addr}{oc:Value}{od an:Option Addr}{HS:Array (Option Value)}{kV doc pm hU ct:Value}{nm q:Str}{st:Stmt}{ps:List Str}(a:findIn K (.ref C) nm=some (some (.ref f)):=by k_is)(i:isFn K (.ref f)=true:=by k_is)(l:K.lookup f=some ⟨oc,od,.func (fnOf nm q (dP st) (cn st) (aL st) .none kV doc pm an hU ct),HS⟩:=by k_is)(c:codeIn K hU q=true:=by k_is)(k:keepIn K (.ref f)=true:=by k_is)(b:∀(kV doc pm:Value) (an:Option Addr) (hU ct:Value) (us:List Value),us.length=ps.length->bindArgs (fnOf nm q (dP st) (cn st) (aL st) .none kV doc pm an hU ct) ⟨us,[]⟩=pure (ps.zip us):=by intro _ _ _ _ _ _;refine _L.Cw _ _ ?_;(repeat refine λ_=>?_);rfl):∃fd,cG K C nm q st ps f fd:=by
 obtain⟨fd,F,B⟩:=(Dq l c k).fn b;exact⟨fd,F,B,a,i,k⟩
theorem knA{K:Frag}{mg:Str->Option Value}{hp:Heap}{x:Str}{t:Tok}(X:K.In hp)(G:hp.Ns ó mg)(a:nsIn K ó "KNOWN_SIGNS"=some (some (.str x t)):=by k_is)(e:x=fQ:=by first |rfl |decide+kernel):∃t,mg "KNOWN_SIGNS"=some (.str fQ t):=⟨t,e ▸ mg_of X G a⟩
theorem QM{K:Frag}{f:Addr}{oc:Value}{od an:Option Addr}{HS:Array (Option Value)}{kV doc pm hU ct:Value}{nm q:Str}{st:Stmt}{ps:List Str}(l:K.lookup f=some ⟨oc,od,.func (fnOf nm q (dP st) (cn st) (aL st) .none kV doc pm an hU ct),HS⟩:=by k_is)(c:codeIn K hU q=true:=by k_is)(k:keepIn K (.ref f)=true:=by k_is)(b:∀(kV doc pm:Value) (an:Option Addr) (hU ct:Value) (us:List Value),us.length=ps.length->bindArgs (fnOf nm q (dP st) (cn st) (aL st) .none kV doc pm an hU ct) ⟨us,[]⟩=pure (ps.zip us):=by intro _ _ _ _ _ _;refine _L.Cw _ _ ?_;(repeat refine λ_=>?_);rfl):∃fd,zy K nm q st f fd/\Binds K fd ps []:=(Dq l c k).fn b
theorem walk{l:Μ}{q:Ê}{loose:List Str}{XP:(Str->Option Value)->Heap->Prop}{YP:World->Heap->Prop}{d:DefRec}{K:Params->Á}(hn:l.most=some 63)(hdf:d.params.defaults=[])
 (hY:∀(w:World) (h:Heap),YP w h->(K w.params).In h)
 (F:∀(w:World) (mg:Str->Option Value) (fa:Addr) (h:Heap),(K w.params).In h->h.Ns ó mg->mg d.name=some (.ref fa) ->
   ∃fd:ï,(∀(s:Shared) (u:Value),BindsTo s fd ⟨[u],[]⟩ [("_law_script",u)])/\∀base:Heap,(K w.params).In base->base.Ns ó mg->aR l.prog w (K w.params) mg base d4 13 fa fd ["_law_script"] (EW (K w.params))) :
 wic q loose XP YP l.row.toRowW d [] (λf vs=>wim f vs):=
 _L.N7 (n:=63) (k:=13) (x:="_law_script") (CX:=λ_=>d4) (sp:=λw=>EW (K w.params)) hn (by decide) hdf ⟨rfl,by decide,by decide⟩ hY F (λ_ _ a ns hl _ hS=>⟨a,ns,rfl,hS,hl,λ_=>rfl⟩) λ_ _ _ _ _ z=>z
theorem Xw{K:Frag}{mg:Str->Option Value}{hp:Heap}{f:Addr}{oc:Value}{od an:Option Addr}{HS:Array (Option Value)}{kV doc pm hU ct:Value}(l:Μ)(w:World)(fa:Addr)(hfa:mg "law"=some (.ref fa))(X:K.In hp)(G:hp.Ns ó mg)(L:Lk K mg)(a:nsIn K ó "law"=some (some (.ref f)):=by k_is)(lk:K.lookup f=some ⟨oc,od,.func (fnOf "law" "law" (dP (top 95)) (cn (top 95)) (aL (top 95)) .none kV doc pm an hU ct),HS⟩:=by k_is)(c:codeIn K hU "law"=true:=by k_is)(k:keepIn K (.ref f)=true:=by k_is) :
 ∃fd:ï,(∀(s:Shared) (v:Value),BindsTo s fd ⟨[v],[]⟩ [("_law_script",v)])/\∀base:Heap,K.In base->base.Ns ó mg->aR l.prog w K mg base d4 13 fa fd ["_law_script"] (EW K):=by
 have e:=hfa.symm.trans (mg_of X G a);cases e;exact⟨_,λs v=>.of_eq rfl,λbase _ _=>Qh L (Iz (st:=top 95) lk c k)⟩
end K54
open PySem PySem.W PyProof.Rows
set_option maxRecDepth 100000 in
set_option maxHeartbeats 0 in
theorem PySem.Challenge.cw_bandscribe_k54_rows_refused_by_readers_holds : PySem.Challenge.rw_bandscribe_k54_rows_refused_by_readers.Holds := by
 w_on;o_law;(refine PySem.W.holds_open (q:=K54.view) (loose:=[]) (Xt:=λs=>ĳ K54.view [] s&&ľ (į (ĭ (ļ Ğ))) s) (XP:=PySem.W.XL K54.view []) (Yf:=PySem.W.Hook.obs (wez K54.pre.heap_39 K54.addrs (λ_=>by kernel_rfl))) (Ya:=PySem.W.Hook.val (wez K54.pre.heap_39 K54.addrs (λ_=>by kernel_rfl))) (YP:=PySem.W.Hook.says (wez K54.pre.heap_39 K54.addrs (λ_=>by kernel_rfl))) (N:=8100) ?hl (PySem.W.Hook.of (wez K54.pre.heap_39 K54.addrs (λ_=>by kernel_rfl))) (PySem.W.Hook.keeps (wez K54.pre.heap_39 K54.addrs (λ_=>by kernel_rfl))) (λs e=>PySem.W.xl_of s (wh2.mp e).1) PySem.W.XL.keeps (by rfl) (by rfl) (by rfl) (λs e=>PySem.W.recFacts_of (wh2.mp e).2) (by rfl) (by first |assumption |decide+kernel) (by decide+kernel) ⟨rfl,rfl,rfl,rfl,rfl,by decide+kernel⟩ ?hw ?hc;(case hl=>(intro w;exact K54.whole w)));(case hw=>w_witness2)
 k_fill
 refine K54.walk (l:=Ğ) rfl rfl (λw h Y=>PySem.W.kIn_of Y) ?F
 case F=>
  intro w mg fa h X G hmg;refine K54.Xw _ w fa hmg X G ?L;constructor
  all_goals try first |exact(K54.fnA X G).choose_spec |exact(K54.meA).choose_spec |exact mg_of X G (by k_is) |exact K54.na |k_is |exact⟨_,mg_of X G (by k_is)⟩ |exact K54.knA X G |exact _S.MV (by k_is) |exact _S.F8 (by k_is) |exact⟨(_S.F8 (by k_is)).lk,by k_is,by k_is,by k_is,by k_is⟩ |exact⟨by k_is,by k_is,by k_is⟩ |exact⟨by k_is,by k_is,by k_is,by k_is⟩ |(constructor;exact K54.nz X G;all_goals exact K54.nz X G) |(constructor;exact⟨by k_is,by k_is,by k_is,by k_is⟩;all_goals exact K54.na)
  case L.Fg=>exact(K54.QM (ps:=["self","number"])).choose_spec.1
  case L.Fh=>exact(K54.QM (nm:="__init__") (q:="NoRow.__init__") (st:=_L.inClass (K54.top 6) 0)).choose_spec.2
  case L.xk=>exact(K54.QM (ps:=["self","length"])).choose_spec.1
  case L.pk=>exact(K54.QM (nm:="__init__") (q:="NoLength.__init__") (st:=_L.inClass (K54.top 12) 0)).choose_spec.2
  case L.C6=>exact(K54.QM (ps:=["self","length","rows"])).choose_spec.1
  case L.C7=>exact(K54.QM (nm:="__init__") (q:="Scarce.__init__") (st:=_L.inClass (K54.top 13) 0)).choose_spec.2
#print axioms PySem.Challenge.cw_bandscribe_k54_rows_refused_by_readers_holds
