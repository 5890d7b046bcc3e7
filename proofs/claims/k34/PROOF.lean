import PyProof.Rows.All
import KE.KDictOf
import KE.KIsAll
import KE.KFromBytes
import KE.KDictSum
import KE.KEqDict
import KE.LcSums
import KE.KItem
import Lean
import PyProof.EqAt
import PyProof.EqKinds
import PyProof.TupleCall
import PyProof.Rows.SortStr
import PyProof.StrLawsReplace
import PyProof.StrLawsIdx
import PyProof.StrLawsIn
import PyProof.StrBlockI
import PyProof.StrBlockL
import PyProof.SliceList
import PyProof.InstStoreFacts
import PyProof.NsDelKeeps
import PyProof.StationsW
import PyProof.ExcArgs
import PyProof.ExcBaseAll.ValueError
import PyProof.StrCalls
import PyProof.ListRange
import PyProof.EnumMake
import PyProof.Draws
import PyProof.FactsAll.dict
import PyProof.StrBlock2
import PyProof.Rows.SumAny
import PyProof.NeKinds
import PyProof.Rows.MinMaxN
import PyProof.Rows.Range3
import PyProof.StrLawsFirst
import PyProof.AttrMissHeap
import PyProof.Rows.CallKwBuiltin
import KE.KMinKey
import PyProof.FString2
import KE.KDictLaws
import KE.KRevIter
import PyProof.DictItems
import PyProof.ZipIter
import KE.KIntText
import PyProof.Rows.StrKeys3
import PyProof.StrCalls2
import PyProof.StrLawsTight
import PyProof.FactsAll.set
import PySem.Challenge.RW_bandscribe_k34_whole_plans_walked
set_option genInjectivity false
set_option compiler.extract_closed false
set_option genSizeOf false
open PySem.Challenge renaming pw_bandscribe_k34_whole_plans_walked->Ê,rw_bandscribe_k34_whole_plans_walked->å
open List renaming length_map->Z4,getElem?_eq_getElem->Z5,getD_eq_getElem?_getD->Z8,getElem?_map->Z9,getElem?_eq_some_iff->Za,length_append->Zd,mem_map->Ze,mem_cons_of_mem->Zh,map_map->Zj,map_append->Zk,mem_cons_self->Zm,length_take->Zq,mem_of_getElem?->Zv,map_cons->Zw,mem_singleton->Zz,size_toArray->ZB,mem_cons->ZD,range->ZF,mem_filter->ZG,mem_append->ZH,take_length->ZI,length_range->ZJ,getElem?_append_right->ZL,all_eq_true->ZM,getElem?_append_left->ZN,length_cons->ZP,getElem_mem->ZQ,append_assoc->ZU,mem_append_right->ZV,mem_range->Í,eq_nil_of_length_eq_zero->Đ,take_add_one->Ô,lookup_cons->Ñ,sum_cons->Î,append_nil->Ó,filter_cons_of_pos->ā,filter_cons_of_neg->Ć,filterMap_cons->ç,nodup_cons->Ü,length_filter_le->ă,filter_eq_self->ù,map_congr_left->ú,mem_append_left->ĝ,filter_append->Ĉ,not_mem_nil->þ,length_eq_zero_iff->ĵ,any_eq_true->Ē,getElem_of_mem->ĥ,length_drop->Ğ,take_sublist->ī,length_set->ě,getElem?_set_self->ŋ,take_of_length_le->Š,length_singleton->Ŏ,mem_or_eq_of_mem_set->ų,length->ð,getElem?_set_ne->Ś,map->Ú,mem_of_mem_take->ś,getElem_inj->ň,replicate->Ġ,dropLast_concat_getLast->wbT,getElem?_eq_none->Ž,filter_map->Ļ,map_take->Ĭ,any_cons->ĺ,find?_cons->Ŧ,range_succ->Œ,flatMap_cons->Δ,take_append_drop->wcA,getElem?_toArray->wcD,map_id'->Ń,filter_sublist->Ι,map_nil->ŏ,all_map->œ,length_filterMap_le->wd6,nodup_nil->ξ,ext_getElem?->wdd,flatten_cons->wdh,getElem_take->Μ,filter_congr->wdj,map_drop->Γ,mem_flatMap->Ν,length_replicate->wdy,length_nil->wdH,nodup_iff_count->wdO,foldl_cons->wdP,mem_iff_getElem->wdS,mem_filterMap->we7,count_pos_iff->wea,prefix_append->web,contains_cons->wee,all_cons->wei,length_eraseIdx_of_lt->wep,foldl_append->weu,pairwise_map->wev,nodup_append->wez,drop_sublist->weA,extract_eq_take_drop->weH,getElem?_eq_none_iff->weJ,any_map->Κ,length_erase_of_mem->weX,suffix_refl->weY,of_mem_zip->wfc,lookup->wfn,pairwise_lt_range->wfq,range'->wfs,drop_of_length_le->wfy,singleton_append->wfI,eq_nil_or_concat->wfJ,concat_eq_append->wfK,drop_zero->wfL,filterMap_append->wfM,take_zero->wfS,set_append_left->wfZ,mem_erase_of_ne->wg2,getElem_toArray->wg4,flatMap_append->wgj,length_flatten->wgk,replicate_succ->wgl,getElem?_range->wgo,count_eq_zero->wgD,pairwise_cons->wgE,map_set->wgJ,any_eq_false->wgN,mem_range'_1->wgR,map_dropLast->wgS,range'_succ->whb,nodup_range->whc,take_prefix->whd,append_inj'->whf,nil_append->whj,sum_append->whp
open PySem.W renaming Frag->Z6,findIn->Û,kia_one->ô,emptyDict->Ę,recOk->ø,xlAt->ó,instObj->Ħ,fnOf->ē,keepIn->ğ,callWith_K->ť,boot_heap->đ,looks_findIn->ő,kdu_collect->wcT,codeIn->η,kitOne->ſ,looks_clsIn->wdg,kHook->υ,plainGet->wdt,methodCall_KW->wdA,OpenLaw->Ŝ,plainGet_of->wdY,lookIn->Θ,mroIn->Ε,hasDictIn->wes,methodObj->wew,set_plain->wey,isFn->weP,kdl_dict->weR,takerIn->wfb,cellsFrom_some->wfo,looks_mroIn->Η,SharedT->Ũ,KdlSrc->wfT,check_slot->wgm,kdl_values->wgz,specialIn->wgK,plainOver->wgM,kitx_list->wgP,kitx_dict->wgQ,boot_o_0->wh6,handedIn->wh7,kdl_call->wha,WalkO->whh,KeqHits->whm,makesIn->whn
open PySem renaming wpAny_bind->Z7,wpAny_pure->Zc,Program->ZC,bootBuiltins->ZW,wpAny_holding->ZX,mainGlobals->Ç,wpAny_mono->Å,SetTable->Ã,intKind->Ò,compareOp->Æ,scanBound->É,codeAny_builtin->ä,wpAny_loadPart_at->ÿ,FuncData->Ë,sizeLine_eq->Ö,wpAny_truthy_bool->ď,foldedSetIterable->č,codeAny_mono->Þ,importedModules->ñ,wpAny_Call_Name_kw->ę,Builtin->È,cLine->À,wpAny_call_entry->Č,codeAny_call_builtin->ĩ,strKind->î,excClassObj->Ý,OsState->Ì,wpAny_newObj_type->Ģ,wpAny_call->â,plainId_quiet->ĉ,lookup_relabel_local->Ō,wpAny_pyIter_list->ļ,wpAny_setState_of->Ł,attributeBase->ė,mem_of_lookup->Ő,wpAny_isSubtype_exc->ō,wpAny_setEntries_of->Ş,boot_len->Ī,wpAny_askSetting->ĸ,swapsWith->ë,wpAny_setField_rec->ŝ,wpAny_execs_nil->ņ,wpAny_passesOwn->Ľ,keywordEach->Ĝ,Scope->Ð,plainObj_wpAny_Assign_Attribute->wcd,wpAny_getItem_str_slice->Λ,wpAny_callSpecial?_slot->wcg,behindInMarks->ŀ,wpAny_attempt->ŉ,sysModules->ĕ,GenState->õ,wpAny_tryCatch->Ţ,assignEach->Į,wpAny_execs_cons->Ű,checkBuiltinCall->ū,Result->à,wpAny_standAt->Ŕ,codeAny_of_tree->μ,wpAny_updateSeq->Ÿ,tupleKind_room_in1->wd5,onTheHeap->į,isSubtype_type->θ,wpAny_pyIter_enum->Ψ,fits_of_scanBound->Χ,wpAny_field->ŕ,getMethod->ķ,weight_type_call_type->wdC,letOwnedTupleGo->Υ,Within->ű,post_val_or_str->Τ,isInstance->š,wpAny_setField->we2,wpAny_loadPart->΢,wpAny_fieldsOf->we5,wpAny_of_eq->Ż,pickOrder->Ū,wpAny_newList->Ξ,wpAny_letOwnedTupleGo_enum->wem,wpAny_Assign_Name->wex,wpAny_pyIter_slot->weB,wpAny_load->ż,typeLookup->δ,wpAny_rule->ŷ,setsByText->ź,Keyword->Ň,wpAny_lookBehind->weS,pastItsLine_dict->weT,wpAny_comprehension_free->weU,treeTable->Β,setFlight->ž,tupleKind->Ů,seqItems?->ι,wpAny_ite_split->wfl,wpAny_loadPart'->wfm,subscripted->wfp,wpAny_letGo->Ο,wpAny_isTrue_Compare1->wfD,wpAny_runValue->wfH,wpAny_seqItems->wfN,builtinLookup_eq_fast->wfO,wpAny_loadName_local->wfV,PlainAttrs->wfW,wpAny_loadName_cell->wgh,wpAt_of_wpAny->wgn,seqIndex_neg->wgu,wpAny_nsSet1->wgB,updateSeq->wgG,seqIndex_of->wh1,sliceBounds->wh4,wpAt_bind->whs,call->wht
open PySem.Heap renaming get?_push_of_some->Zb,lt_size->Zg,get?_push_size->Zr,get?_update_other->ZY,size_push->ã,get?_update_self->ħ,SameBut->ć,get?_update_ne->wgp,ExtBut->wh5
open Nat renaming le_refl->Zf,le_trans->Zn,ne_of_lt->Zt,lt_of_lt_of_le->Zx,zero_le->ZE,lt_of_le_of_lt->ß,lt_irrefl->Ø,lt_succ_of_lt->Ă,lt_succ_self->Ď,sub_self->ü,ne_of_gt->ö,le_succ->í,add_sub_cancel_left->Ρ,not_lt_zero->Ť,succ_le_succ->wdv,le_of_eq->Ŷ,mul_le_mul_right->wdQ,zero_add->ŵ,mul_le_mul_left->wdZ,lt_or_eq_of_le->wef,le_of_lt->weQ,le_antisymm->wfi,min_eq_left->wfj,pow_le_pow_right->wg1,add_le_add_left->wgi,pos_of_ne_zero->wgA,lt_trichotomy->wgU,le_of_not_lt->whg,max_le->whq,mod_lt->whr
open Option.some renaming inj->Zi
open PySem.Value renaming ref->Zo,none->Ï,builtin->Ċ,type->ï,int->ĳ,isInt_shape->wer,str->χ,bool->wfU,isStrOf->wg7,isStrOf_shape->wgf,float->wh0
open Bool renaming false_ne_true->Zu,and_eq_true->è,false_eq_true->ġ,and_false->ĭ,false_and->Ŀ,and_eq_true_iff->wcM,false_or->Ŋ,true_and->ν,eq_iff_iff->Ω,not_true->wge,eq_false_iff->wgY,or_eq_true->whi
open Int renaming toNat_natCast->Zy,emod_nonneg->ģ,zero_add->Ą,emod_lt_of_pos->ţ,le_refl->ľ,natCast_mul->ε,natCast_pow->Ź,le_ediv_iff_mul_le->wdn,natCast_add->wdN,pow_succ->ο,le_of_mul_le_mul_right->wen,le_trans->weW,add_mul->wfw
open Sum renaming inr->ZA,inl->Â
open PySem.F renaming plainAttrs_list->ZK,slot_list_append->ZS,type_list_append->ZT,called_set->Ù,plain_min_loop->Ņ,excBase_ValueError->γ,slot_set_iter->Φ,slot_dict_values->wd4,slot_list_index->wdc,entry_min_loop->wdo,plainAttrs_str->wdp,entry_type_call->wdB,slot_str_join->wdD,type_str_join->wdE,called_enumerate->wec,excAttr_ValueError->weq,plain_extend_loop->weM,type_dict_values->weZ,plainAttrs_dict->wf4,args_set_iter_1->wf5,type_list_index->wf7,plain_list_iadd->wf8,typeCall_set_1->wfu,entry_set_init->wfv,entry_bexc_ga->wfP,plain_set_new->wfQ,args_bexc_ga->wg3,slot_list_pop->wgC
open Array renaming getElem?_eq_getElem->ZO,length_toList->ZR,getElem?_toList->á,getElem?_eq_some_iff->ŗ,getElem?_eq_none->Ķ,toArray_toList->Ĳ,getD_eq_getD_getElem?->ς,size_extract->Α,getElem?_append_left->weo,toList_inj->weV,size_push->wfd,toList_extract->wfY,getD->wg0,toList_push->wgX
open PySem.Txt renaming slice->ZZ,join->û,mul->é,slice_le->Ĺ
open False renaming elim->Ä
open PySem.W.OpenRow renaming toRowW->ý
open PySem.W.RowW renaming records->Ā
open Ne renaming symm->Á
open PySem.W.OpenLaw renaming row->ò
open PySem.Around renaming under_plainId->ą,under_plain->we9,under->wgs
open PySem.SetTable renaming below->æ,insertAt->Ĕ,grown->Ĵ,has->wgF,Probe->whu,slot->whx
open PyProof.Rows.F renaming plain_set_update_loop->ŧ,entry_set_update_loop->wbK
open True renaming intro->Õ
open PySem.Builtin.Str renaming strSliceIndices->ũ,occurrences->wf2,subAt->wgT
open PySem.NameKind renaming free->ì,cell->ń
open PyProof.Rows renaming envOfC->İ,sortedS->ş,callWith_type1->wbX,callWith_builtin1->wdL,int_text_len_1921->wdV,size_push'->ω,entry_list_sort->wfg,subscriptTail_builtinR->wfr,slot_list_sort->wfE,args_list_sort->wfF,sortedHeap_old->wfG,kws_cons->wfR,kws_nil->wg5,subscriptTail->wg9,sortedHeap_at->wga,firstMet_succ->wgd,plain_sorted->wgw,entry_sorted->wgx,args_sorted1->wgy,kind_sorted->wh3
open PySem.Obj renaming mapSeq->ê,mapFields->ı,data_mapFields->ů,isFreed_of_fields->wdx,putSet->whl
open Sum.inr renaming inj->Ě
open PySem.Str renaming ofString->Ĩ,length->Ĥ
open PySem.Heap.SameBut renaming update->ŭ
open ForInStep renaming yield->Ř
open PySem.PassesOwn renaming never->Ŗ,leaving->wgZ
open PySem.Code renaming quiet_builtin->Ų,isFrame->wgt
open Option renaming map_eq_some_iff->Ζ,bind_some->ζ,isSome_map->wet,getD_some->wh9
open PySem.Builtin.List renaming listExtendWith->wcH,listLengthHint->weg,listSameRef->wf1
open PySem.SeqAt.EqAt renaming same->Ŵ,str_str->wfC,int_str->wgq,str_int->wgr,of_refs->wgI
open PySem.Calls renaming call_function_entry->wcW,call_len_list->wdX,Name_function_global->wej,callWith_builtin->wft,Constant_str->wgv
open Eq renaming trans->Ė
open List.Sublist renaming refl->wde
open Prod.mk renaming inj->ř,injEq->wg6
open Or renaming inl->ċ
open Prod renaming ext->ł
open PySem.Builtin.Frozenset renaming updateFrom->we4,sizeOf->wf0,slot0->wf6,newClass->why
open PySem.W.Looks renaming here->we8
open PySem.Builtin.Builtins renaming bindParams->weh
open PySem.SeqAt renaming EqAt->π,eq_list_lengthsAt->wf3,eq_listAt->whk
open PySem.Walks renaming list->Ŭ
open Classical renaming byContradiction->weI,choose->whe
open PySem.Within renaming cons->wfh
open PySem.StrLaws renaming sliceText_from->wfx,sliceText_to->wfX
open PySem.Paired renaming length->wg8
open PySem.Shared renaming TypeIs->wgb
open List.cons renaming inj->wgc
open PySem.EntryCells renaming newEntry->wgg
open PySem.SeqAt.RcNeAt renaming lists->wgH
open PySem.Flt renaming mathRow->wgL
open PySem.Heap.Ns1 renaming of_empty->wgO
open PySem.SetTable.below renaming go->wgV
open PySem.SetTable.probe renaming go->wgW
open PySem.Data renaming fields->wh2,cell->whw
open PySem.P renaming add_list->wh8
open List.Perm renaming refl->whv
open PySem.Moved renaming eq_with->whz
open PySem.pickOrder renaming go->whA
set_option Elab.async false
set_option linter.all false
set_option maxRecDepth 100000
set_option maxHeartbeats 4000000
namespace Tt
open PySem PySem.W PySem.Calls PyProof.Rows
noncomputable def E2(tb:String->Option È)(p:ZC)(w:World)(n₀:Nat)(ann:Option Value):Nat->Ũ->Thread->Option Ũ
 |0,_,_=>none
 |n+1,s,t=>match through t with
  |true=>some s
  |false=>match stepOk n₀ ann t with
   |false=>none
   |true=>match stepT (denote tb) p w s t with
    |some (s',t')=>E2 tb p w n₀ ann n s' t'
    |none=>none
theorem E3{tb:String->Option È}{p:ZC}{w:World}{n₀:Nat}{ann:Option Value}:∀{n:Nat} {s s':Ũ} {t:Thread},E2 tb p w n₀ ann n s t=some s'->topRun tb p w n₀ ann n s.abs t=some s'.abs
 |0,_,_,_,h=>by cases h
 |n+1,s,s',t,h=>by
  unfold E2 at h;unfold topRun
  cases ht:through t with
  |true=>rw[ht]at h;cases h;rfl
  |false=>
   rw[ht]at h
   cases hk:stepOk n₀ ann t with
   |false=>rw[hk]at h;cases h
   |true=>
    rw[hk]at h
    cases hs:stepT (denote tb) p w s t with
    |none=>rw[hs]at h;cases h
    |some r=>obtain⟨s₂,t₂⟩:=r;rw[hs]at h;rw[stepT_spec hs];exact E3 h
noncomputable def sound(p:ZC)(h₀:Heap)(s:Ũ):Bool:=staticsOk (ñ p.main.body) h₀ s.abs.heap&&namesBound p s.abs.heap&&gensDone s.abs&&laidKept h₀ s.abs.heap
theorem Hm{p q:ZC}{loose:List Str}{Xt:Shared->Bool}{α:Type}{Yf:Shared->α}{Ya:World->α}{N n m₀:Nat}{life:Params->Life}{g0:Bool}{H₀:Params->Heap}{T₀:Params->BT}{Og:Array õ}{d₀:Drawn}{k₀:Nat}{ann:Option Value}
 (Mq:∀w:World,(fencedOpening Β p w N).map (λs=>(s.heap,s.gens,s.drawn,s.toks))=some (H₀ w.params,Og,d₀,k₀))
 (size:∀P:Params,((H₀ P).isNs Ç&&Og.size==0,(H₀ P).objs.size,(H₀ P).nsMap Ç "__annotations__")=(true,m₀,ann))
 (tree:∀P:Params,absHeap (T₀ P) n (life P)=H₀ P)
 (run:∀(w:World) (os:Ì),∃s,E2 Β p w m₀ ann N ⟨T₀ w.params,n,life w.params,Og,d₀,k₀,os⟩ (topStub p)=some s/\sound p (H₀ w.params) s=true/\openSeen q loose (ñ p.main.body) Xt g0 s.abs=openGood q loose/\Yf s.abs=Ya w):LeftO p q loose Xt Yf Ya N g0:=λw=>by
 obtain⟨⟨h,gs,d,k,os⟩,e,e'⟩:=Ζ.mp (Mq w);obtain⟨rfl,rfl,rfl,rfl⟩:h=H₀ w.params/\gs=Og/\d=d₀/\k=k₀:=by simpa using e'
 obtain⟨z1,z2,z3⟩:_/\_/\_:=by simpa only[wg6] using size w.params
 obtain⟨s,r,l1,l2,l3⟩:=run w os;have r:=E3 r
 have ea:(SharedT.mk (T₀ w.params) n (life w.params) gs d k os).abs=⟨H₀ w.params,gs,d,k,os⟩:=by
  unfold SharedT.abs;rw[tree]
 rw[ea]at r
 have t:topFrom Β p w N ⟨H₀ w.params,gs,d,k,os⟩=some s.abs:=by
  unfold topFrom;dsimp only;rw[z1,z2,z3,r];show (match sound p (H₀ w.params) s with |true=>_ |false=>_)=_;rw[l1]
 unfold openEnds;rw[e];show (topFrom Β p w N _).map _=_;rw[t];exact congrArg some (ł l2 l3)
theorem JY{S A B C:Type}{o:Option S}{f:S->A}{g:S->B}{h:S->C}{a:A}{b:B}{c:C}(x:o.map f=some a)(y:o.map g=some b)(z:o.map h=some c):∃s,o=some s/\f s=a/\g s=b/\h s=c:=by
 cases o with
 |none=>cases x
 |some s=>exact⟨s,rfl,Zi x,Zi y,Zi z⟩
theorem four{S A B C D E F G:Type}{o:Option S}{f:S->A×B×C×D×E×F×G}{a:A×B×C×D×E×F×G}(h1:o.map (λs=>(f s).1)=some a.1)(h2:o.map (λs=>((f s).2.1,(f s).2.2.1))=some (a.2.1,a.2.2.1))(h3:o.map (λs=>((f s).2.2.2.1,(f s).2.2.2.2.1))=some (a.2.2.2.1,a.2.2.2.2.1))(h5:o.map (λs=>(f s).2.2.2.2.2.1)=some a.2.2.2.2.2.1)(h4:o.map (λs=>(f s).2.2.2.2.2.2)=some a.2.2.2.2.2.2):o.map f=some a:=by
 cases o with
 |none=>cases h1
 |some s=>
  have e1:(f s).1=a.1:=Zi h1;have e2:((f s).2.1,(f s).2.2.1)=(a.2.1,a.2.2.1):=Zi h2;have e3:((f s).2.2.2.1,(f s).2.2.2.2.1)=(a.2.2.2.1,a.2.2.2.2.1):=Zi h3;have e5:(f s).2.2.2.2.2.1=a.2.2.2.2.2.1:=Zi h5;have e4:(f s).2.2.2.2.2.2=a.2.2.2.2.2.2:=Zi h4;exact congrArg some (ł e1 (ł (ř e2).1 (ł (ř e2).2 (ł (ř e3).1 (ł (ř e3).2 (ł e5 e4))))))
theorem cut(n:Nat){o:Option Ũ}{as:List Addr}{v:List (Option Obj)}(h:o.map (λs=>(as.take n).map s.abs.heap.get?)=some (v.take n))(h':o.map (λs=>(as.drop n).map s.abs.heap.get?)=some (v.drop n)):o.map (λs=>as.map s.abs.heap.get?)=some v:=by
 cases o with
 |none=>cases h
 |some s=>
  have h1:(as.take n).map s.abs.heap.get?=v.take n:=Zi h;have h2:(as.drop n).map s.abs.heap.get?=v.drop n:=Zi h';show some (as.map s.abs.heap.get?)=some v;rw[<-wcA n as,Zk,h1,h2,wcA]
end Tt
namespace K34
open PySem PySem.W
noncomputable def tp(i:Nat):Stmt:=Ê.main.body.getD i (.Pass ⟨0,0,0,0⟩)
noncomputable def view:ZC:={Ê with main:={Ê.main with body:=[tp 0,tp 2,tp 3,tp 4,tp 5,tp 6,tp 7,tp 8,tp 9,tp 10,tp 11,tp 12,tp 13,tp 14,tp 15,tp 16,tp 17,tp 18,tp 20,tp 22,tp 23,tp 24,tp 25,tp 26,tp 28,tp 29,tp 30,tp 31,tp 32,tp 34,tp 35,tp 36,tp 37,tp 38,tp 40,tp 41,tp 42,tp 43,tp 44,tp 45,tp 46,tp 48,tp 49,tp 50,tp 51,tp 52,tp 53,tp 54,tp 55,tp 56,tp 57,tp 58,tp 59,tp 60,tp 61,tp 62,tp 64,tp 65,tp 66,tp 67,tp 68,tp 69,tp 70,tp 71,tp 72,tp 73,tp 74,tp 75,tp 77,tp 78,tp 79,tp 80,tp 81,tp 82,tp 83,tp 84,tp 85,tp 86,tp 87,tp 88,tp 89,tp 90,tp 91,tp 92,tp 93,tp 94,tp 95,tp 96,tp 97,tp 98]}}
noncomputable def tree0(P:Params):BT:=(.node (boot_o_0 P) (.node (boot_o_1 P) (.node (boot_o_3 P) (.node (boot_o_7 P) .nil .nil) .nil) (.node (boot_o_5 P) (.node (boot_o_9 P) .nil .nil) .nil)) (.node (boot_o_2 P) (.node (boot_o_4 P) (.node (boot_o_8 P) .nil .nil) .nil) (.node (boot_o_6 P) (.node (boot_o_10 P) .nil .nil) .nil)))
noncomputable def run(w:World)(os:Ì):Option Ũ:=(Tt.E2 Β Ê w 11 (some (Zo 6)) 8100 ⟨tree0 w.params,11,(đ w.params).life,Array.mk [],boot_drawn,boot_toks,os⟩ (topStub Ê))
noncomputable def lhsS(w:World)(os:Ì):=(run w os).map (λs=>Tt.sound Ê (đ w.params) s)
noncomputable def lhsA1(w:World)(os:Ì):=(run w os).map (λs=>(openSeen view [] (ñ Ê.main.body) (λs=>ó view [] s&&ø (Ā (ý (ò å))) s) true s.abs).1)
noncomputable def lhsA2(w:World)(os:Ì):=(run w os).map (λs=>((openSeen view [] (ñ Ê.main.body) (λs=>ó view [] s&&ø (Ā (ý (ò å))) s) true s.abs).2.1,(openSeen view [] (ñ Ê.main.body) (λs=>ó view [] s&&ø (Ā (ý (ò å))) s) true s.abs).2.2.1))
noncomputable def lhsA3(w:World)(os:Ì):=(run w os).map (λs=>((openSeen view [] (ñ Ê.main.body) (λs=>ó view [] s&&ø (Ā (ý (ò å))) s) true s.abs).2.2.2.1,(openSeen view [] (ñ Ê.main.body) (λs=>ó view [] s&&ø (Ā (ý (ò å))) s) true s.abs).2.2.2.2.1))
noncomputable def lhsA5(w:World)(os:Ì):=(run w os).map (λs=>(openSeen view [] (ñ Ê.main.body) (λs=>ó view [] s&&ø (Ā (ý (ò å))) s) true s.abs).2.2.2.2.2.1)
noncomputable def lhsA4(w:World)(os:Ì):=(run w os).map (λs=>(openSeen view [] (ñ Ê.main.body) (λs=>ó view [] s&&ø (Ā (ý (ò å))) s) true s.abs).2.2.2.2.2.2)
noncomputable def lhsB(as:List Addr)(w:World)(os:Ì):=(run w os).map (λs=>as.map s.abs.heap.get?)
end K34
noncomputable def PySem.W.Fast.tw14598715356260435866:=wh6
theorem PySem.W.Fast.te14598715356260435866:wh6=PySem.W.Fast.tw14598715356260435866:=rfl
noncomputable def PySem.W.Fast.tw3926899253808053939:=Ê
theorem PySem.W.Fast.te3926899253808053939:Ê=PySem.W.Fast.tw3926899253808053939:=rfl
noncomputable def PySem.W.Fast.tw13899100880601395773:=wgL
theorem PySem.W.Fast.te13899100880601395773:wgL=PySem.W.Fast.tw13899100880601395773:=rfl
lay_quick K34.lhsS K34.lhsA1 K34.lhsA2 K34.lhsA3 K34.lhsA4 K34.lhsA5 K34.lhsB
section
open PySem PySem.W PyProof.Rows
local macro_rules |`(tactic|o_head $H)=>`(tactic|(refine PySem.W.holds_open (q:=K34.view) (loose:=[]) (Xt:=λs=>PySem.W.xlAt K34.view [] s&&PySem.W.recOk (PySem.W.RowW.records (PySem.W.OpenRow.toRowW (PySem.W.OpenLaw.row PySem.Challenge.rw_bandscribe_k34_whole_plans_walked))) s) (XP:=PySem.W.XL K34.view []) (Yf:=PySem.W.Hook.obs $H) (Ya:=PySem.W.Hook.val $H) (YP:=PySem.W.Hook.says $H) (N:=8100) ?hl (PySem.W.Hook.of $H) (PySem.W.Hook.keeps $H) (λs e=>PySem.W.xl_of s (Bool.and_eq_true_iff.mp e).1) PySem.W.XL.keeps (by rfl) (by rfl) (by rfl) (λs e=>PySem.W.recFacts_of (Bool.and_eq_true_iff.mp e).2) (by rfl) (by first |assumption |decide+kernel) (by decide+kernel) ⟨rfl,rfl,rfl,rfl,rfl,by decide+kernel⟩ ?hw ?hc;(case hl=>(intro w;contradiction))))
theorem K34.pre(h:False):(å).Holds:=by
 w_on;o_law;k_head
 all_goals contradiction
end
namespace K34
open PySem PySem.W
noncomputable def addrs:List Addr:=[2,3,15,17,18,20,21,22,29,30,31,32,35,42,43,44,47,54,56,57,59,60,61,62,63,66,73,75,76,78,79,80,81,82,85,92,94,95,97,98,99,100,101,104,111,113,114,116,117,118,119,120,123,130,132,133,135,136,137,138,139,142,149,150,151,154,161,162,163,166,173,174,175,178,185,187,188,190,191,192,193,194,197,204,206,207,209,210,211,212,213,216,223,224,225,228,235,237,238,240,241,242,243,244,247,254,255,256,259,266,267,268,271,278,279,280,283,285,286,288,289,290,292,293,295,296,297,299,300,302,303,304,306,307,309,310,311,313,314,316,317,318,321,322,323,326,327,328,330,331,333,334,335,338,339,340,342,343,345,346,347,349,350,352,353,354,357,358,359,362,363,364,366,367,369,370,371,373,374,376,377,378,380,381,383,384,385,388,389,397,400,401,402,403,404,405,406,409,412,413,414,416,417,419,420,421,424,425,426,428,429,431,432,433,436,437,438,440,441,443,444,452,455,456,457,459,460,462,463,464,465,466,467,468,471,473,474,476,477,478,480,481,483,484,485,487,488,490,491,492,495,496,497,500,501,502,505,506,507,509,510,512,513,514,516,517,519,520,521,524,525,526,528,529,531,532,533,536,537,538,540,541,543,544,545,547,548,550,551,552,554,555,557,558,559,562,563,564,566,567,569,570,571,573,574,576,577,578,580,581,583,584,585,588,589,590,593,594,602,604,605,607,608,609,611,612,614,615,616,618,619,621,622,623,625,626,628,629,630,632,633,635,636,637,639,640,642,643,644,646,647,649,650,651,653,654,656,657,658,660,661,663,664,665,667,668,670,671,672,673,674,675,676,679,681,682,684,685,686,688,689,691,692,693,696,697,698,701,702,703,705,706,708,709,710,712,713,715,716,717,720,721,722,725,726,727,730,731,732,735,736,737,740,741,742,745,746,747,750,751,752,754,755,757,758,759,761,762,764,765,766,769,770,771,773,774,776,777,778,780,781,783,784,785,787,788,790,791,792,795,796,797,799,800,802,803,804,806,807,809,810]
open PyProof.Rows in
theorem pS(w:World)(os:Ì):lhsS w os=some true:=Ė (congrFun (congrFun PySem.W.Fast.te14761897800632641119 w) os) (by kernel_rfl)
open PyProof.Rows in
theorem UO(w:World)(os:Ì):lhsA5 w os=some (plainGoodE view (looseW view [])):=Ė (congrFun (congrFun PySem.W.Fast.te13781764999702214802 w) os) (by kernel_rfl)
open PyProof.Rows in
theorem UP(w:World)(os:Ì):lhsA3 w os=some (true,pinGoodD (drecsOf view)):=Ė (congrFun (congrFun PySem.W.Fast.te6269848847706478032 w) os) (by kernel_rfl)
open PyProof.Rows in
theorem UQ(w:World)(os:Ì):lhsA4 w os=some (plainGoodD view [],wideGood view,clsGoodW view []):=Ė (congrFun (congrFun PySem.W.Fast.te6562721817789272861 w) os) (by kernel_rfl)
open PyProof.Rows in
theorem UR(w:World)(os:Ì):lhsA1 w os=some (expectedOf view):=Ė (congrFun (congrFun PySem.W.Fast.te17797800940646764094 w) os) (by kernel_rfl)
open PyProof.Rows in
theorem UT(w:World)(os:Ì):lhsA2 w os=some (bltViewBooted,true):=Ė (congrFun (congrFun PySem.W.Fast.te17092748888195876466 w) os) (by kernel_rfl)
theorem UU(w:World)(os:Ì):lhsB (K34.addrs.take 160) w os=some (((K34.pre.heap_39 w.params).map λp=>some p.2).take 160):=Ė (congrFun (congrFun (congrFun PySem.W.Fast.te11358461497435759956 _) w) os) (by kernel_rfl)
theorem UW(w:World)(os:Ì):lhsB (K34.addrs.drop 160) w os=some (((K34.pre.heap_39 w.params).map λp=>some p.2).drop 160):=Ė (congrFun (congrFun (congrFun PySem.W.Fast.te11358461497435759956 _) w) os) (by kernel_rfl)
theorem op:opening Ê=plainProg Ê.main.scope.names:=by kernel_rfl
theorem fe(s:Shared):fenceModules? Ê s=some s:=by kernel_rfl
theorem tr(P:Params):absHeap (tree0 P) 11 (đ P).life=đ P:=by kernel_rfl
theorem sz(P:Params):((đ P).isNs Ç&&(Array.mk []:Array õ).size==0,(đ P).objs.size,(đ P).nsMap Ç "__annotations__")=(true,11,(some (Zo 6))):=by kernel_rfl
theorem whole:LeftO Ê view [] (λs=>ó view [] s&&ø (Ā (ý (ò å))) s) (λs=>K34.addrs.map s.heap.get?) (λw=>((K34.pre.heap_39 w.params).map λp=>some p.2)) 8100:=Tt.Hm (H₀:=đ) (T₀:=tree0) (life:=λP=>(đ P).life) (boot_open op (by decide+kernel) fe) sz tr λw os=>Tt.JY (o:=run w os) (f:=λs=>Tt.sound Ê (đ w.params) s) (g:=λs=>openSeen view [] (ñ Ê.main.body) (λs=>ó view [] s&&ø (Ā (ý (ò å))) s) true s.abs) (h:=λs=>K34.addrs.map s.abs.heap.get?) (pS w os) (Tt.four (o:=run w os) (f:=λs=>openSeen view [] (ñ Ê.main.body) (λs=>ó view [] s&&ø (Ā (ý (ò å))) s) true s.abs) (a:=openGood view []) (UR w os) (UT w os) (UP w os) (UO w os) (UQ w os)) (Tt.cut (o:=run w os) 160 (UU w os) (UW w os))
end K34
open PySem
open AutoSeq1 (wpAny_loadPart')
open PySem.W (Looks looks_findIn looks_typeIn InitBack bind_fn findIn clsIn specialIn readsIn findCls keepIn isFn typeIn InstAt looks_find looks_hook looks_mroIn takesIn mroIn subIn KitX kitOne kitCls kia_one findObj findObj_data class_get handed_on handedOut_of)
open _root_.Option renaming some->ρ,none->τ
section
def fqq(x:Array Lean.Syntax)(a b:Lean.MacroM Lean.Syntax)(f:Lean.Syntax->Lean.MacroM Lean.Syntax):Lean.MacroM (Array Lean.Syntax):=do
 let mut y:=#[]
 for e in x do
  match e.isNatLit? with
  |some n=>for _ in [0:n] do y:=(y.push (←a)).push (←b)
  |none=>y:=y.push (←f e)
 return y
local macro_rules|`(tactic|lia)=>`(tactic|lia-abstractProof)
local macro_rules(kind:=«term{_}»)|`({$x,*})=>do
 let y:=(←fqq x.getElems (`(_)) (`(rfl)) pure).map λe=>(⟨e⟩:Lean.Term)
 `(⟨$y,*⟩)
def fpp:Nat->Lean.Syntax->Lean.MacroM Lean.Syntax
 |0,_=>Lean.Macro.throwUnsupported
 |k+1,s=>do
  let s:=if s.getKind==Lean.choiceKind then (s.getArgs.find? (·.getKind==`«term{_}»)).getD s else s
  if s.isIdent then `(rcasesPat|$(⟨s⟩):ident)
  else if s.getKind==`«term{_}» then
   let y:=(←fqq s[1].getSepArgs (`(rcasesPat|_)) (`(rcasesPat|$(Lean.mkIdent `rfl):ident)) (fpp k)).map λe=>(⟨e⟩:Lean.TSyntax `rcasesPat)
   `(rcasesPat|⟨$[$y:rcasesPat],*⟩)
  else if s.isOfKind `Lean.Parser.Term.hole then `(rcasesPat|_) else Lean.Macro.throwUnsupported
local macro_rules|`(tactic|let $p:term:=$e)=>do
 let q:Lean.TSyntax `rcasesPat:=⟨←fpp 9 p⟩
 `(tactic|obtain $q:rcasesPat:=$e)
local macro_rules|`(($n:num))=>`($(Lean.mkIdent `_L.pv) $n)
local macro_rules|`($x.$i:fieldIdx)=>match i.raw.isFieldIdx? with
 |some 8=>`($(x).heap.objs.size)
 |some 7=>`($(x).objs.size)
 |some 9=>`($(x).length)
 |some 6=>`($(x).toArray)
 |some 5=>`($(x).env)
 |_=>Lean.Macro.throwUnsupported
local macro_rules|`(())=>`(by lia)
local macro_rules|`($x:scientific)=>`(by omega)
local macro_rules|`(∅)=>`(by decide+kernel)
local macro_rules|`(⋯)=>`(by decide)
namespace _L
open PySem.Spec PyProof.Rows
noncomputable abbrev Key:=Sum Int Str
noncomputable def uV:Key->Value->Bool
 |.inl k,v=>Value.isInt k v
 |.inr x,v=>wg7 x v
noncomputable def Pg(w:World):Key->Int
 |.inl k=>hashInt k
 |.inr x=>hashStr w x
theorem cm:∀{k:Key} {v:Value},uV k v=true->(∃i t,k=Â i/\v=ĳ i t)\/(∃x t,k=ZA x/\v=χ x t)
 |.inl i,v,h=>by
  let{t,e}:=wer (k:=i) (v:=v) h
  exact .inl ⟨i,t,rfl,e⟩
 |.inr x,v,h=>by
  let{t,e}:=wgf (x:=x) (v:=v) h
  exact .inr ⟨x,t,rfl,e⟩
theorem C8(i:Int)(t:Tok):uV (.inl i) (.int i t)=true:=by simp[uV,Value.isInt]
theorem C9(x:Str)(t:Tok):uV (.inr x) (.str x t)=true:=by simp[uV,wg7]
theorem JZ(a b:Int):decide ((Â a:Key)=Â b)=(a==b):=by
 grind
theorem K0(a b:Str):decide ((ZA a:Key)=ZA b)=decide (a=b):=by simp_all [Key,Ě,decide_eq_false]
theorem K1(a:Int)(b:Str):decide ((Â a:Key)=ZA b)=false:=decide_eq_false (λq=>nomatch q)
theorem K2(a:Str)(b:Int):decide ((ZA a:Key)=Â b)=false:=decide_eq_false (λq=>nomatch q)
noncomputable def bG(prog:ZC)(w:World):PySem.KeyKind prog w Key where
 is:=uV
 hash:=Pg w
 inj:=λv a b ha hb=>by
  rcases cm ha with⟨i,t,rfl,rfl⟩ |⟨x,t,rfl,rfl⟩
  .rcases cm hb with⟨j,u,rfl,e⟩ |⟨y,u,rfl,e⟩
   .injection e with e1 _;rw[e1]
   .exact nomatch e
  .rcases cm hb with⟨j,u,rfl,e⟩ |⟨y,u,rfl,e⟩
   .exact nomatch e
   .injection e with e1 _;rw[e1]
 byValue:=λk v h=>by
   rcases cm h with⟨i,t,rfl,rfl⟩ |⟨x,t,rfl,rfl⟩<;>rfl
 pyHash:=λhv h=>by
  rcases cm hv with⟨i,t,rfl,rfl⟩ |⟨x,t,rfl,rfl⟩
  .exact wpAny_pyHash_int h
  .exact wpAny_pyHash_str h
 eqBool:=λhu hv h=>by
  rcases cm hu with⟨i,t,rfl,rfl⟩ |⟨x,t,rfl,rfl⟩
  .rcases cm hv with⟨j,u,rfl,rfl⟩ |⟨y,u,rfl,rfl⟩
   .rw[JZ]at h;exact wpAny_eqBool_int h
   .rw[K1]at h;exact wgq i t y u _ _ _ _ h
  .rcases cm hv with⟨j,u,rfl,rfl⟩ |⟨y,u,rfl,rfl⟩
   .rw[K2]at h;exact wgr x t j u _ _ _ _ h
   .rw[K0]at h;exact wpAny_eqBool_str h
 «strs»:=λk x t v h=>by
  rcases cm h with⟨i,u,rfl,e⟩ |⟨y,u,rfl,e⟩
  .exact nomatch e
  .injection e with e1 _
   subst e1;cases v<;>rfl
theorem xJ(prog:ZC)(w:World)(i:Int)(t:Tok):(bG prog w).is (.inl i) (.int i t)=true:=C8 i t
theorem xK(prog:ZC)(w:World)(x:Str)(t:Tok):(bG prog w).is (.inr x) (.str x t)=true:=C9 x t
set_option genInjectivity true in
inductive V where
 |non |bl (b:Bool) |int (i:Int) |str (x:Str) |byt (b:Array UInt8) |flt (b:UInt64) |ref (a:Addr) |ty (n:String)
 deriving DecidableEq
def RelV:V->Value->Prop
 |.non,u=>u=Ï
 |.bl b,u=>u=wfU b
 |.int i,u=>∃t,u=ĳ i t
 |.str x,u=>∃t,u=χ x t
 |.byt b,u=>∃t,u=Value.bytes b t
 |.flt b,u=>∃t,u=wh0 b t
 |.ref a,u=>u=Zo a
 |.ty n,u=>u=ï n
abbrev Vals:List V->List Value->Prop:=Paired RelV
theorem Vals.length{xs:List V}{us:List Value}(r:Vals xs us):xs.9=us.9:=wg8 r
theorem Vals.get:∀{xs:List V} {us:List Value} {i:Nat} {x:V},Vals xs us->xs[i]?=ρ x->∃u,us[i]?=ρ u/\RelV x u
 |_,_,_,_,.nil,e=>by simp at e
 |_,_,0,_,.cons r _,e=>by simp at e;subst e;exact{_,rfl,r}
 |_,_,i+1,x,.cons _ t,e=>by
  let{u,a,b}:=Vals.get (i:=i) (x:=x) t (by simpa using e)
  exact{u,by simpa using a,b}
theorem Vals.set(r:RelV x u):∀{xs:List V} {us:List Value} (i:Nat),Vals xs us->Vals (xs.set i x) (us.set i u)
 |_,_,_,.nil=>.nil
 |_,_,0,.cons _ t=>.cons r t
 |_,_,i+1,.cons q t=>.cons q (Vals.set r i t)
theorem Vals.append:∀{xs ys:List V} {us ws:List Value},Vals xs us->Vals ys ws->Vals (xs++ys) (us++ws)
 |_,_,_,_,.nil,s=>s
 |_,_,_,_,.cons r t,s=>.cons r (Vals.append t s)
theorem Vals.take:∀{xs:List V} {us:List Value} (n:Nat),Vals xs us->Vals (xs.take n) (us.take n)
 |_,_,0,_=>.nil
 |_,_,_+1,.nil=>.nil
 |_,_,n+1,.cons r t=>.cons r (Vals.take n t)
theorem Vals.drop:∀{xs:List V} {us:List Value} (n:Nat),Vals xs us->Vals (xs.drop n) (us.drop n)
 |_,_,0,r=>r
 |_,_,_+1,.nil=>.nil
 |_,_,n+1,.cons _ t=>Vals.drop n t
def iY:Option V->Option Value->Prop
 |some v,ρ u=>RelV v u
 |none,τ=>True
 |_,_=>False
def KV{κ:Type}:List (κ×V)->List (κ×Value)->Prop:=Paired λ(p:κ×V) (q:κ×Value)=>p.1=q.1/\RelV p.2 q.2
noncomputable def kV:Key->V
 |.inl i=>.int i
 |.inr x=>.str x
set_option genInjectivity true in
inductive HO where
 |lst (xs:List V)
 |tup (xs:List V)
 |dK (kvs:List (Key×V)) |dT (kvs:List (List Key×V))
 |set (S:Int->Bool) (n:Nat)
 |ins (C dx:Addr) (fs:List (Str×V))
 |own (x:Addr)
 |xd (fs:List (Str×V))
 |met (f x:Addr)
 |rng (lo hi:Int)
 |frz (o:Obj) (u:HO)
 |tbl (ps:Array Value)
 |ext (φ:Heap->Prop)
noncomputable abbrev Hp:=Addr->Option HO
noncomputable def upd(H:Hp)(a:Addr)(o:HO):Hp:=λb=>if b=a then ρ o else H b
theorem a7:upd H a o a=ρ o:=by delta upd;rw[if_pos rfl]
theorem af(h:b≠a):upd H a o b=H b:=by delta upd;rw[if_neg h]
theorem Be:upd (upd H a o) a u=upd H a u:=by
 funext b;delta upd;split<;>rfl
theorem Mr{H:Hp}{a b:Addr}{o u:HO}(h:H a=ρ o)(h':H b=ρ u)(d:o≠u):a≠b:=by grind [Zi]
theorem aa{H:Hp}{a b:Addr}{o:HO}(h:H a=ρ o)(h':H b=τ):a≠b:=by
 grind
def Rd(H:Hp)(a:Addr)(u:HO):Prop:=H a=ρ u\/∃o,H a=ρ (.frz o u)
def Ms:Option HO->Prop
 |some (.lst _)=>True
 |some (.dK _)=>True
 |some (.dT _)=>True
 |some (.set _ _)=>True
 |some (.ins _ _ _)=>True
 |some (.ext _)=>True
 |_=>False
structure Un(fs ex:List Addr)(H H':Hp)(h h':Heap):Prop where
 keep:∀b o,h.get? b=ρ o->H b=τ->b∉fs->b∉ex->h'.get? b=ρ o
 slot:∀b o,h.get? b=ρ o->H b=τ->b∈fs->b∉ex->∃sl,h'.get? b=ρ {o with slots:=sl}
 free:∀b o,h.get? b=ρ o->H b=τ->b∉ex->H' b=τ
 there:∀b o,h.get? b=ρ o->b∉ex->∃o',h'.get? b=ρ o'
 pj:∀b xs,H b=ρ (.tup xs)->H' b=ρ (.tup xs)
 nc:∀b o u,H b=ρ (.frz o u)->H' b=ρ (.frz o u)
 pk:∀b ps,H b=ρ (.tbl ps)->∃more,H' b=ρ (.tbl (ps++more))
noncomputable def Ph(h:Heap)(H:Hp):List Addr:=(ZF h.7).filter λa=>(H a).isSome
noncomputable def wD(h:Heap)(H:Hp):Heap:=PySem.W.hideAll h (Ph h H)
theorem Ca(h:Heap)(H:Hp):(wD h H).objs.size=h.7:=PySem.W.hideAll_size _ _
theorem E4(e:h.get? b=ρ o)(n:H b=τ):(wD h H).get? b=ρ o:=
 PySem.W.hideAll_get _ e λa=>by
  have q:(H b).isSome=true:=(ZG.mp a).2;rw[n]at q;simp at q
theorem Hn(e:(wD h H).get? b=ρ o):h.get? b=ρ o/\H b=τ:=by
 have a:h.get? b=ρ o:=PySem.W.of_hideAll (Ph h H) e;refine{a,?_}
 cases q:H b with
 |none=>rfl
 |some x=>
  grind [Ph,Zg,wD,PySem.W.hideAll_none]
noncomputable def Ho(g h:Heap)(L:Addr):List (Addr×Obj):=(ZF h.7).filterMap λa=>if a=L\/(g.get? a).isSome=true then τ else(h.get? a).map λo=>(a,o)
noncomputable def rest(g h:Heap)(L d:Addr):List (Addr×Obj):=(Ho g h L).filter λp=>decide (p.1≠d)
structure Mod(K:Z6)(mg:Str->Option Value)(base:Heap):Prop where
 Jq:K.In base
 glob:base.Ns Ç mg
 blt:∃mb,base.Ns builtinsNs mb/\∀x:Str,x≠"__name__"->mb x=ZW x
 nolimit:base.NoLimit
structure Cx where
 prog:ZC
 w:World
 K:Z6
 mg:Str->Option Value
 base:Heap
 A:Around
 N:List Str
 s₀:Shared
 H₀:Hp
 env:Env
 outer:List Env
 stack:List Env
 ex:List Addr
 fn:Str->Bool
 calm:Bool
 pn:List (Addr×Obj)
 xe:Value->Shared->Prop
noncomputable def qW(l:List Env):List Addr:=l.filterMap (·.frame)
noncomputable abbrev Cx.fs(X:Cx):List Addr:=qW X.outer
def LY(sc:Ð)(x:Str):Prop:=sc.names.lookup x=ρ .local\/sc.names.lookup x=ρ .cell\/sc.names.lookup x=ρ .free
def Loc(sc:Ð)(x:Str):Prop:=sc.names.lookup x=ρ .local\/sc.names.lookup x=ρ .cell
def Look(env:Env)(h:Heap)(m:Str->Option Value)(x:Str)(u:Value):Prop:=
 (env.kindOf x=ρ .local/\m x=ρ u)\/((env.kindOf x=ρ .cell\/env.kindOf x=ρ .free)/\∃c,env.cells.lookup x=ρ c/\h.IsCell c (ρ u))
structure Cx.Ok(X:Cx):Prop where
 mod:Mod X.K X.mg X.base
 kind:X.env.scope.kind=.function
 glob:X.env.globals=Ç
 blt:X.env.builtins=builtinsNs
 above:X.s₀.8<=X.env.locals
 inj:∀x y c,X.env.cells.lookup x=ρ c->X.env.cells.lookup y=ρ c->x=y
 has:∀x,(X.env.kindOf x=ρ .cell\/X.env.kindOf x=ρ .free)->∃c,X.env.cells.lookup x=ρ c
 K3:∀x c,X.fn x=true->X.env.cells.lookup x=ρ c->X.s₀.8<=c
 hd:X.calm=true->X.A.handled=τ
 frames:X.A.frames=ρ X.stack
 LZ:X.stack=X.outer\/(X.stack=X.5::X.outer/\X.env.frame=ρ X.env.locals)
 Oh:∀b∈X.ex,b≠X.env.locals/\∀x c,X.env.cells.lookup x=ρ c->c≠b
 bs:∀b o,X.base.get? b=ρ o->X.s₀.heap.get? b=ρ o/\X.H₀ b=τ
 E5:X.base.7<=X.s₀.8
 zf:∀b o,X.base.get? b=ρ o->b∉X.ex
 Cb:∀b∈X.ex,b∉X.fs
 ng:X.s₀.heap.FunFrames X.base X.outer
 Hq:∀b∈X.fs,X.H₀ b=τ
theorem rQ{N:List Str}(g:N.Nodup){i j:Nat}{x:Str}(a:N[i]?=ρ x)(b:N[j]?=ρ x):i=j:=by
 let{e,c}:=Za.mp a
 let{f,d}:=Za.mp b
 exact(ň g).mp (c.trans d.symm)
noncomputable abbrev XK:=Value->Option Addr->Hp->Prop
noncomputable abbrev St:=List (Option V)
noncomputable abbrev VK:=V->Hp->Prop
noncomputable abbrev TE:=St->Hp->VK->Prop
noncomputable abbrev TT:=St->Hp->(Bool->Hp->Prop)->Prop
noncomputable abbrev TA:=St->Hp->(List V->Hp->Prop)->Prop
structure Bx(p:Prop):Prop where
 go:p
instance {p:Prop}:CoeFun (Bx p) λ_=>p:=⟨Bx.go⟩
theorem cj{α:Type}{t:Sem α}{Q g:α->Shared->Prop}{M:Model}{A:Around}{E:Value->Shared->Prop}{s:Shared}(h:wpAny M A t Q E s)(j:∀a s,Q a s->g a s):wpAny M A t g E s:=Å h j λ_ _ x=>x
inductive Hr(i:Nat)(σ:St)(H:Hp)(Q:VK):Prop
 |mk (v) (_:σ[i]?=ρ (ρ v)) (_:Q v H)
def tC(v:V):TE:=λ_ H Q=>Q v H
inductive Sn(x:V)(H:Hp)(Q:Bool->Hp->Prop):Prop
 |mk (c) (_:x=.bl c) (_:Q c H)
def tB(t:TE):TT:=λσ H Q=>t σ H λx H1=>Sn x H1 Q
def Pj(t u:TT):TT:=λσ H Q=>t σ H λc H1=>if c=true then u σ H1 Q else Q false H1
def UX(t u:TT):TT:=λσ H Q=>t σ H λc H1=>if c=true then Q true H1 else u σ H1 Q
def Pk(t:TT):TT:=λσ H Q=>t σ H λc H1=>Q (!c) H1
def aM(K:Z6)(H:Hp)(a:Addr)(xs:List V):Prop:=
 Rd H a (.lst xs) \/
  ∃(o:Obj) (its:Array Value) (n:Nat),K.lookup a=ρ o/\o.cls=.type "list"/\o.dict=τ/\o.data=.seq its n/\its.size<=sizeLine/\Vals xs its.toList
def g8(K:Z6)(H:Hp)(a:Addr)(xs:List V):Prop:=
 Rd H a (.tup xs) \/
  ∃(o:Obj) (its:Array Value) (n:Nat),K.lookup a=ρ o/\o.cls=.type "tuple"/\o.data=.seq its n/\its.size<=sizeLine/\Vals xs its.toList
noncomputable def Pm:Value->Option V
 |.none=>ρ .non
 |.bool b=>ρ (.bl b)
 |.int i _=>ρ (.int i)
 |.str x _=>ρ (.str x)
 |.bytes b _=>ρ (.byt b)
 |.float b _=>ρ (.flt b)
 |.ref a=>ρ (.ref a)
 |.type n=>ρ (.ty n)
 |_=>τ
theorem RelV.abs{x:V}{u:Value}(r:RelV x u):Pm u=ρ x:=by
 cases x with
 |non=>cases r;rfl
 |bl _=>cases r;rfl
 |int _=>let{t,rfl}:=r;rfl
 |str _=>let{t,rfl}:=r;rfl
 |byt _=>let{t,rfl}:=r;rfl
 |flt _=>let{t,rfl}:=r;rfl
 |ref _=>cases r;rfl
 |ty _=>cases r;rfl
theorem RelV.inj{x y:V}{u:Value}(r:RelV x u)(q:RelV y u):x=y:=Zi (r.abs.symm.trans q.abs)
theorem Vals.inj:∀{xs ys:List V} {us:List Value},Vals xs us->Vals ys us->xs=ys
 |_,_,_,.nil,.nil=>rfl
 |_,_,_,.cons r t,.cons a b=>by rw[r.inj a,Vals.inj t b]
noncomputable abbrev Cx.nh(X:Cx)(E:Value->Shared->Prop):Cx:={X with xe:=E}
noncomputable abbrev Cx.Hs(X:Cx):Cx:=X.nh λ_ _=>False
noncomputable abbrev TG:=V->St->Hp->(St->Hp->Prop)->Prop
noncomputable abbrev Oi:=List V->St->Hp->(St->Hp->Prop)->Prop
noncomputable abbrev K4:=V->V->V->Hp->(Hp->Prop)->Prop
noncomputable abbrev Mt:=V->V->Hp->VK->Prop
def dA(i:Nat):TG:=λv σ H Q=>Q (σ.set i (ρ v)) H
inductive E6(vs:List V)(σ:St)(H:Hp)(Q:St->Hp->Prop):Prop
 |mk (_:vs=[]) (_:Q σ H)
inductive k4(t:TG)(u:Oi)(vs:List V)(σ:St)(H:Hp)(Q:St->Hp->Prop):Prop
 |mk (v r) (_:vs=v::r) (_:t v σ H λσ' H'=>u r σ' H' Q)
inductive E7(K:Z6)(n:Nat)(t:Oi)(v:V)(σ:St)(H:Hp)(Q:St->Hp->Prop):Prop
 |mk (a xs) (_:v=.ref a) (_:g8 K H a xs) (_:xs.9=n) (_:t xs σ H Q)
def Pn(to ti:TE)(t:K4):TG:=λv σ H Q=>to σ H λo H1=>ti σ H1 λi H2=>t o i v H2 λH3=>Q σ H3
noncomputable def UY(f:Int->Int->Int):Mt:=λx y H Q=>∃i j,x=.int i/\y=.int j/\Q (.int (f i j)) H
structure It where
 go:Nat->Hp->Prop
 ur:Nat->Hp->V->Hp->Prop
 stop:Nat->Hp->Prop
def rR(X:Cx)(pins:List (Addr×Obj))(H:Hp)(b:Addr):Prop:=
 H b=τ/\b≠X.env.locals/\b∉X.fs/\(b∈X.ex\/X.s₀.8<=b)/\(∀x c,X.env.cells.lookup x=ρ c->c≠b)/\∀p∈X.pn++pins,p.1≠b
noncomputable abbrev TI:=St->Hp->(It->Hp->Prop)->Prop
theorem Bg{E:Value->Shared->Prop}{Q:Unit->Shared->Prop}(j:s.heap.get? it=ρ o)(hc:o.cls=.type n)(hd:o.data=.fields vs)
 (hn:["enumerate","zip","dict_itemiterator","dict_reverseitemiterator","odict_iterator","itertools.zip_longest","itertools.pairwise"].contains n=false) (g:Q .unit s):wpAny M A (Υ l (.ref it) u) Q E s:=by
 unfold Υ
 cases l<;>first
  |exact Zc g
  |(cases u<;>first
     |exact Zc g
     |(refine Z7 (ż j ?_)
       rw[hc,hd];show wpAny M A (if (["enumerate","zip","dict_itemiterator","dict_reverseitemiterator","odict_iterator","itertools.zip_longest","itertools.pairwise"].contains n&&vs[0]?==ρ (rawInt _))=true then _ else _) Q E s;rw[if_neg (by grind)]
       exact Zc g))
noncomputable def M0(K:Z6)(a:Addr):It:=
 {λi H=>∃xs x,aM K H a xs/\xs[i]?=ρ x,λi H x H'=>H'=H/\∀xs,aM K H a xs->xs[i]?=ρ x,λi H=>∃xs,aM K H a xs/\xs.9<=i}
noncomputable def Jr(lo:Int)(n:Nat):It:={λi _=>i<n,λi H x H'=>H'=H/\x=.int (lo+i),λi _=>n<=i}
def Js(K:Z6)(tl:TE):TI:=λσ H R=>tl σ H λx H1=>∃a,x=.ref a/\(∃xs,aM K H1 a xs)/\R (M0 K a) H1
def Mu(ta:TA):TI:=λσ H R=>ta σ H λvs H1=>∃j:Int,vs=[.int j]/\-(2^62)<=j/\j<2^62/\R (Jr 0 j.toNat) H1
def Mv(ta:TA):TI:=λσ H R=>ta σ H λvs H1=>∃i j:Int,vs=[.int i,.int j]/\(-(2^62)<=i/\i<2^62/\-(2^62)<=j/\j<2^62)/\R (Jr i (j-i).toNat) H1
noncomputable def rS(fp:List Addr)(h:Heap):List (Addr×Obj):=fp.filterMap λb=>(h.get? b).map λo=>(b,o)
theorem iZ(g:b∈j)(e:h.get? b=ρ o):(b,o)∈rS j h:=we7.mpr {b,g,by rw[e];rfl}
theorem Cd(g:p∈rS j h):p.1∈j/\h.get? p.1=ρ p.2:=by
 let{b,a,e}:=we7.mp g
 cases q:h.get? b with
 |none=>grind
 |some o=>
  grind
noncomputable abbrev R2:=V->V->Hp->VK->Prop
def Mw(r:R2)(ta tb:TE):TE:=λσ H Q=>ta σ H λx H1=>tb σ H1 λy H2=>r x y H2 Q
def UZ(r:V->Hp->VK->Prop)(ta:TE):TE:=λσ H Q=>ta σ H λx H1=>r x H1 Q
inductive rI(C:Int->Int->Prop)(g:Int->Int->V)(x y:V)(H:Hp)(Q:VK):Prop
 |mk (i j) (_:x=.int i) (_:y=.int j) (_:C i j) (_:Q (g i j) H)
inductive Jt(g:Int->Int->V)(x y:V)(H:Hp)(Q:VK):Prop
 |mk (i j) (_:x=.int i) (_:y=.int j) (_:Q (g i j) H)
inductive rU(g:Int->V)(x:V)(H:Hp)(Q:VK):Prop
 |mk (i) (_:x=.int i) (_:Q (g i) H)
def Pp(i j:Int):Prop:=0<j/\j<1073741824
def Hu(i j:Int):Prop:=(-(2^64)<i/\i<2^64)\/(-(2^64)<j/\j<2^64)
noncomputable def Mx:V->V->Bool
 |.non,.non=>true |.non,.int _=>true |.int _,.non=>true |.non,.bl _=>true |.bl _,.non=>true |.non,.str _=>true |.str _,.non=>true
 |.int _,.int _=>true |.bl _,.bl _=>true |.str _,.str _=>true |.byt _,.byt _=>true
 |.int _,.str _=>true |.str _,.int _=>true |.bl _,.str _=>true |.str _,.bl _=>true
 |_,_=>false
inductive V0(x y:V)(H:Hp)(Q:VK):Prop
 |mk (_:Mx x y=true) (_:Q (.bl (decide (x=y))) H)
inductive V1(x y:V)(H:Hp)(Q:VK):Prop
 |mk (_:Mx x y=true) (_:Q (.bl (!decide (x=y))) H)
theorem Bh:decide (V.int i=V.int j)=(i==j):=by
 rw[Ω];simp
theorem E8:decide (V.bl i=V.bl j)=(i==j):=by
 rw[Ω];simp
theorem Bi:decide (V.str i=V.str j)=(i==j):=by
 rw[Ω];simp
theorem Bj:decide (V.byt i=V.byt j)=(i.toList==j.toList):=by
 rw[Ω];cases i;cases j;simp
def Ju(t:TE):TT:=λσ H Q=>t σ H λx H'=>Sn x H' Q
theorem mE:(sizeLine:Nat)<2^63:=by rw[Ö];decide
theorem vals1(r:Vals [x] us):∃u,us=[u]/\RelV x u:=by
 cases r with
 |cons a b=>cases b;exact{_,rfl,a}
theorem vals2(r:Vals [x,y] us):∃u g,us=[u,g]/\RelV x u/\RelV y g:=by
 cases r with
 |cons a b=>
  cases b with
  |cons c d=>cases d;exact{_,1,a,c}
structure zg(h:Heap)(x dx C:Addr)(mA:Str->Option Value):Prop where
 obj:h.get? x=ρ (Ħ C dx)
 ns:h.Ns1 dx mA
 ne:dx≠x
noncomputable def dQ(f:Str)(v:V):List (Str×V)->List (Str×V)
 |[]=>[(f,v)]
 |(g,x)::r=>if g=f then(g,v)::r else(g,x)::dQ f v r
theorem aE(f g:Str)(v:V):∀fs:List (Str×V),(dQ f v fs).lookup g=if g=f then ρ v else fs.lookup g
 |[]=>by
  show wfn g [(f,v)]=_
  by_cases h:g=f
  .grind
  .grind
 |(k,x)::r=>by
  have a:=aE f g v r;rw[show dQ f v ((k,x)::r)=(if k=f then(k,v)::r else(k,x)::dQ f v r) from rfl]
  by_cases hk:k=f
  .grind
  .grind
theorem pq(f:Str)(v:V):∀fs:List (Str×V),f∈(dQ f v fs).map (·.1)/\∀g,g∈fs.map (·.1)->g∈(dQ f v fs).map (·.1)
 |[]=>{by simp[dQ],λg h=>by simp at h}
 |(k,x)::r=>by
  let{a,b}:=pq f v r
  rw[show dQ f v ((k,x)::r)=(if k=f then(k,v)::r else(k,x)::dQ f v r) from rfl]
  by_cases hk:k=f
  .grind
  .grind
theorem q4(f:Str)(v:V):∀fs:List (Str×V),(dQ f v fs).9<=fs.9+1
 |[]=>by simp[dQ]
 |(k,x)::r=>by
  have a:=q4 f v r;rw[show dQ f v ((k,x)::r)=(if k=f then(k,v)::r else(k,x)::dQ f v r) from rfl]
  by_cases hk:k=f
  .grind
  .grind
theorem iY.rA(r:iY (ρ v) o):∃u,o=ρ u/\RelV v u:=by
 cases o with
 |none=>exact(show False from r).elim
 |some u=>exact⟨u,rfl,r⟩
theorem iY.none_of(r:iY τ o):o=τ:=by grind [iY,cases False]
theorem uW(r:RelV v u):wh7 u=true:=by
 cases v with
 |non=>cases(show u=Ï from r);rfl
 |bl b=>cases(show u=wfU b from r);rfl
 |int i=>let{t,e}:=(show ∃t,u=ĳ i t from r);cases e;rfl
 |str x=>let{t,e}:=(show ∃t,u=χ x t from r);cases e;rfl
 |byt b=>let{t,e}:=(show ∃t,u=Value.bytes b t from r);cases e;rfl
 |flt b=>let{t,e}:=(show ∃t,u=wh0 b t from r);cases e;rfl
 |ref a=>cases(show u=Zo a from r);rfl
 |ty n=>cases(show u=ï n from r);rfl
structure z8(K:Z6)(C:Addr):Prop where
 pg:wdt K C Str.empty=true
 hd:wes K C=true
 po:wgM K C=true
 sa:Û K (.ref C) "__setattr__"=ρ (ρ (.builtin "object.__setattr__"))
theorem z8.get{K:Z6}{C:Addr}(c:z8 K C)(f:Str):wdt K C f=true:=c.pg
def dH(K:Z6)(C:Addr)(f:Str):Prop:=Û K (.ref C) f=ρ τ
theorem dH.My{K:Z6}{C:Addr}{f:Str}(n:dH K C f):wfb K C f=ρ τ:=by
 unfold wfb;rw[show Û K (.ref C) f=ρ τ from n];rfl
inductive V2(K:Z6)(f:Str)(x:V)(H:Hp)(Q:VK):Prop
 |mk (a C dx fs v) (_:x=.ref a) (_:H a=ρ (.ins C dx fs)) (_:z8 K C) (_:dH K C f) (_:fs.lookup f=ρ v) (_:Q v H)
def Mz(K:Z6)(ta:TE)(f:Str):TE:=λσ H Q=>ta σ H λx H1=>V2 K f x H1 Q
theorem zh{A:Around}{C:Addr}{us:List Value}{g:List (Str×Value)}:(A.under (.builtin "type.__call__" {.ref C::us,g})).depth=A.depth+1:=by
 first |rfl |simp[wgs,Code.weight,Code.isCreation,Code.isGuard,Code.isCaller,Code.frames,wgt,guardIds]
theorem zi{A:Around}{C:Addr}{us:List Value}{g:List (Str×Value)}:(A.under (.builtin "type.__call__" {.ref C::us,g})).units=A.units+1:=by
 first |rfl |simp[wgs,Code.cUnits,Code.frames,wgt]
def Ce:TA:=λ_ H Q=>Q [] H
def Bk(ta:TE)(tr:TA):TA:=λσ H Q=>ta σ H λx H1=>tr σ H1 λxs H2=>Q (x::xs) H2
inductive V3(xs:List V)(H:Hp)(Q:VK):Prop
 |mk (_:xs.9<=sizeLine) (_:∀p,H p=τ->Q (.ref p) (upd H p (.tup xs)))
inductive V4(xs:List V)(H:Hp)(Q:VK):Prop
 |mk (_:xs.9<=sizeLine) (_:∀p,H p=τ->Q (.ref p) (upd H p (.lst xs)))
noncomputable abbrev Sp:=List V->Hp->VK->XK->Prop
noncomputable abbrev DW:=List Env->Hp->Shared->XK->Value->Shared->Prop
def Jv(sp:Sp)(uv:List V)(E:XK)(t:TA):TE:=λσ H Q=>t σ H λvs H1=>sp (vs++uv) H1 Q E
inductive V5(C:Addr)(m:Str)(x:V)(H:Hp)(k:Prop):Prop
 |mk (a dx fs) (_:x=.ref a) (_:H a=ρ (.ins C dx fs)) (_:fs.lookup m=τ) (_:k)
def Bl(C:Addr)(m:Str)(sp:Sp)(uv:List V)(E:XK)(ta:TE)(t:TA):TE:=λσ H Q=>ta σ H λx H1=>V5 C m x H1 (t σ H1 λvs H2=>sp (x::(vs++uv)) H2 Q E)
def MA(C:Addr)(sp:Sp)(uv:List V)(E:XK)(t:TA):TE:=λσ H Q=>t σ H λvs H1=>∀x dx,H1 x=τ->H1 dx=τ->dx≠x ->
 sp (.ref x::(vs++uv)) (upd (upd H1 dx (.own x)) x (.ins C dx [])) (λv H2=>v=.non/\Q (.ref x) H2) E
def Binds(K:Z6)(fd:Ë)(ps:List Str)(ds:List Value):Prop:=
 ∀(s:Shared) (us:List Value),K.In s.heap->(us++ds).9=ps.9->BindsTo s fd {us,[]} (ps.zip (us++ds))
theorem Binds.all{K:Z6}{fd:Ë}{ps:List Str}(h:∀us:List Value,us.9=ps.9->bindArgs fd {us,[]}=pure (ps.zip us)):Binds K fd ps []:=λs us _ hl=>by
 rw[Ó]at hl ⊢;exact .of_eq (h us hl)
structure rB(N P:List Str)(sc:Ð):Prop where
 kind:sc.kind=.function
 co:sc.isCoroutine=false
 gen:sc.isGenerator=false
 nd:N.Nodup
 pre:N.take P.9=P
 par:∀x∈P,sc.names.lookup x=ρ .local\/sc.names.lookup x=ρ .cell
 K5:∀y∈sc.names,y.2≠.free
theorem uX{kindOf:Str->Option NameKind}:∀{binds:List (Str×Value)} {m:Str->Option Value},(∀v,(x,v)∉binds)->bindL kindOf binds m x=m x
 |[],_,_=>rfl
 |(n,v)::r,m,h=>by
  unfold bindL;rw[uX λw hw=>h w (Zh _ hw)];split
  .grind
  .rfl
theorem uY{kindOf:Str->Option NameKind}:∀{binds:List (Str×Value)} {m:Str->Option Value},(∀v,(x,v)∉binds)->bindC kindOf binds m x=m x
 |[],_,_=>rfl
 |(n,v)::r,m,h=>by
  unfold bindC;rw[uY λw hw=>h w (Zh _ hw)];split
  .rfl
  .grind
theorem uZ{kindOf:Str->Option NameKind}:∀{P:List Str} {vs:List Value} {i:Nat} {m:Str->Option Value},P.Nodup->P[i]?=ρ x->vs[i]?=ρ v->kindOf x=ρ .local ->
 bindL kindOf (P.zip vs) m x=ρ v
 |[],_,_,_,_,h,_,_=>by simp at h
 |_::_,[],_,_,_,_,h,_=>by simp at h
 |p::P,w::vs,0,m,nd,a,b,hk=>by
  simp at a b;subst a;subst b;show bindL kindOf ((p,w)::P.zip vs) m p=_;unfold bindL;rw[uX λv c=>(Ü.mp nd).1 (wfc c).1,if_pos hk];simp
 |p::P,w::vs,i+1,m,nd,a,b,hk=>by
  show bindL kindOf ((p,w)::P.zip vs) m x=_;unfold bindL;exact uZ (i:=i) (Ü.mp nd).2 (by simpa using a) (by simpa using b) hk
theorem va{kindOf:Str->Option NameKind}:∀{P:List Str} {vs:List Value} {i:Nat} {m:Str->Option Value},P.Nodup->P[i]?=ρ x->vs[i]?=ρ v->kindOf x≠ρ .local ->
 bindC kindOf (P.zip vs) m x=ρ v
 |[],_,_,_,_,h,_,_=>by simp at h
 |_::_,[],_,_,_,_,h,_=>by simp at h
 |p::P,w::vs,0,m,nd,a,b,hk=>by
  simp at a b;subst a;subst b;show bindC kindOf ((p,w)::P.zip vs) m p=_;unfold bindC;rw[uY λv c=>(Ü.mp nd).1 (wfc c).1,if_neg hk];simp
 |p::P,w::vs,i+1,m,nd,a,b,hk=>by
  show bindC kindOf ((p,w)::P.zip vs) m x=_;unfold bindC;exact va (i:=i) (Ü.mp nd).2 (by grind) (by grind) hk
noncomputable def start(N:List Str)(vs:List V):St:=vs.map ρ++Ġ (N.9-vs.9) τ
theorem xM{g:Ð}{n:Nat}{x:Str}(h:g.names.lookup x=ρ .cell):∃c,(cellsFrom n g.names []).lookup x=ρ c:=by
 have q:=wfo g.names n [] (.inl h);exact Option.isSome_iff_exists.mp q
noncomputable abbrev TO:=St->Hp->(Option Int->Hp->Prop)->Prop
noncomputable def Hw:TO:=λ_ H Q=>Q τ H
inductive V6(x:V)(H:Hp)(Q:Option Int->Hp->Prop):Prop
 |mk (i) (_:x=.int i) (_:Q (ρ i) H)
noncomputable def MB(t:TE):TO:=λσ H Q=>t σ H λx H1=>V6 x H1 Q
noncomputable def zj(n:Nat)(i:Int):Option Nat:=if 0<=i then(if i<n then ρ i.toNat else τ) else if -(n:Int)<=i then ρ (i+n).toNat else τ
noncomputable def lQ{α:Type}(xs:List α)(i:Int):Option α:=(zj xs.length i).bind λj=>xs[j]?
theorem Bm(h:zj n i=ρ j):seqIndex? i n=ρ j/\j<n/\-(n:Int)<=i/\i<n:=by
 unfold zj at h
 by_cases b:0<=i
 .rw[if_pos b]at h
  by_cases a:i<n
  .rw[if_pos a]at h;have e:i.toNat=j:=Zi h;exact{by rw[wh1 b a,e],(),(),a}
  .rw[if_neg a]at h;cases h
 .rw[if_neg b]at h
  by_cases a:-(n:Int)<=i
  .rw[if_pos a]at h;have e:(i+n).toNat=j:=Zi h;exact{by rw[wgu () a,e],(),a,()}
  .rw[if_neg a]at h;cases h
theorem wF{α:Type}{xs:List α}{i:Int}{v:α}(h:lQ xs i=ρ v):∃j,seqIndex? i xs.9=ρ j/\xs[j]?=ρ v/\j<xs.9/\-(xs.9:Int)<=i/\i<xs.9:=by
 unfold lQ at h
 cases e:zj xs.length i with
 |none=>rw[e]at h;cases h
 |some j=>
  rw[e]at h
  let{a,b,c,d}:=Bm e
  exact⟨j,a,h,b,c,d⟩
theorem bz{α:Type}{xs:List α}{j:Nat}{v:α}(h:xs[j]?=ρ v):lQ xs (j:Int)=ρ v:=by
 have a:j<xs.9:=(Za.mp h).1
 have e:zj xs.length (j:Int)=ρ j:=by
  unfold zj;rw[if_pos (),if_pos ()];simp
 unfold lQ;rw[e];exact h
theorem xN{α:Type}(xs:List α)(v:α):lQ (xs++[v]) (-1)=ρ v:=by
 have hl:(xs++[v]).9=xs.9+1:=by simp
 have e:zj (xs++[v]).length (-1)=ρ xs.9:=by
  unfold zj;rw[hl,if_neg ⋯,if_pos ()];congr 1
  lia
 unfold lQ;rw[e];show (xs++[v])[xs.9]?=ρ v;simp
def Hy(b:Expr):Prop:=∀o i,wfp b false o i=operate [o,i] (getItem o i)
inductive MC(K:Z6)(x y:V)(H:Hp)(Q:VK):Prop
 |mk (p xs i v) (_:x=.ref p) (_:y=.int i) (_:aM K H p xs) (_:lQ xs i=ρ v) (_:Q v H)
inductive MD(K:Z6)(x y:V)(H:Hp)(Q:VK):Prop
 |mk (p xs i v) (_:x=.ref p) (_:y=.int i) (_:g8 K H p xs) (_:lQ xs i=ρ v) (_:Q v H)
inductive Pq(x y:V)(H:Hp)(Q:VK):Prop
 |mk (z i c) (_:x=.str z) (_:y=.int i) (_:z.9<=sizeLine) (_:lQ z.cps.toList i=ρ c) (_:Q (.str ⟨#[c]⟩) H)
noncomputable def d7:V->Bool
 |.non=>true
 |.bl _=>true
 |.int _=>true
 |.str _=>true
 |_=>false
theorem Vals.one:∀{x:V} {us:List Value},Vals [x] us->∃u,us=[u]/\RelV x u
 |_,_,.cons r .nil=>{_,rfl,r}
theorem Vals.zero:∀{us:List Value},Vals [] us->us=[]
 |_,.nil=>rfl
theorem Vals.dropLast(h:Vals xs us):Vals xs.dropLast us.dropLast:=by
 induction h with
 |nil=>exact .nil
 |cons r t a=>
  cases t with
  |nil=>exact .nil
  |cons q b=>exact .cons r a
theorem vc(r:RelV (kV k) u):(bG P w).is k u=true:=by grind [RelV,kV,bG,xJ,xK]
theorem vd:∀{g:List Key} {us:List Value},Vals (g.map kV) us->ItemsAre (bG P w) g us
 |[],_,r=>by rw[ŏ]at r;cases r;exact .nil
 |k::g,_,r=>by
  rw[Zw]at r
  cases r with
  |cons h t=>exact .cons (vc h) (vd t)
abbrev KT(H:Hp):List (List Key×V)->List (List Key×Addr×Value)->Prop:=Paired λp q=>p.1=q.1/\H q.2.1=ρ (.tup (p.1.map kV))/\RelV p.2 q.2.2
def ME(i:Expr):Prop:=∀ov iv,wfp i false ov iv=operate [ov,iv] (getItem ov iv)
theorem HA{prog:ZC}{w:World}{A:Around}{E:Value->Shared->Prop}{s:Shared}{env:Env}{value slice:Expr}{pos:Pos}{T id:String}{Q:Value->Shared->Prop}
 (hl:δ (.type T) "__getitem__"=pure (ρ (.builtin id))) (hs:ME slice)
 (h:wpAny (model prog w) A (eval value env) (λo j=>wpAny (model prog w) A (eval slice env) (λi g=>g.TypeIs o T/\wpAny (model prog w) A (getItem o i) Q E g) E j) E s) :
 wpAny (model prog w) A (eval (.Subscript value slice pos) env) Q E s:=by
 refine Subscript_ (Å h (λo j c=>Å c (λi g a=>?_) λ_ _ x=>x) λ_ _ x=>x)
 let{e,a}:=a
 unfold wg9;refine Z7 ?_;rw[getitemInPython_of_ne e.not_modules];refine Z7 (wpAny_specialOf e hl ?_)
 have fin:wpAny (model prog w) A (wfp slice false o i) (λr b=>wpAny (model prog w) A (letTemporaryGo value o r >>= λ_=>pure r) Q E b) E g:=by
  rw[hs o i];exact wpAny_operating (Å a (λr b d=>Z7 (wpAny_letTemporaryGo (Zc d))) λ_ _ x=>x)
 first
  |exact Zc (Z7 fin)
  |exact Z7 (Zc (Z7 fin))
  |exact Z7 fin
def K6:TE:=λ_ H Q=>∀p,H p=τ->Q (.ref p) (upd H p (.dK []))
def zk:List (TE×TE)->St->Hp->(List (V×V)->Hp->Prop)->Prop
 |[],_,H,Q=>Q [] H
 |(tk,tv)::r,σ,H,Q=>tk σ H λx H1=>tv σ H1 λy H2=>zk r σ H2 λps H3=>Q ((x,y)::ps) H3
abbrev VV:List (V×V)->List (Value×Value)->Prop:=Paired λp q=>RelV p.1 q.1/\RelV p.2 q.2
theorem ve:∀{vs:List Value} {ns:List Int},IntsAre vs ns->Vals (ns.map V.int) vs
 |_,_,.nil=>.nil
 |_,_,.cons n t h=>.cons ⟨t,rfl⟩ (ve h)
noncomputable abbrev Yh{K:Z6}{h:Heap}(_:K.In h):Z6:=K
noncomputable def inClass(s:Stmt)(j:Nat):Stmt:=match s with
 |.ClassDef _ _ _ body _ _ _ _ _ _ _=>body.getD j (.Pass ⟨0,0,0,0⟩)
 |_=>.Pass ⟨0,0,0,0⟩
noncomputable def da(s:Stmt):Arguments:=match s with
 |.FunctionDef _ a _ _ _ _ _ _ _ _=>a
 |_=>{posonlyargs:=[],args:=[],vararg:=τ,kwonlyargs:=[],kw_defaults:=[],kwarg:=τ,defaults:=[]}
noncomputable def cC(s:Stmt):List Stmt:=match s with
 |.FunctionDef _ _ b _ _ _ _ _ _ _=>b
 |_=>[]
noncomputable def aD(s:Stmt):Ð:=match s with
 |.FunctionDef _ _ _ _ _ _ sc _ _ _=>sc
 |_=>{kind:=.function,names:=[],isGenerator:=false,isCoroutine:=false}
noncomputable abbrev cY:DW:=λ_ _ _ _ _ _=>False
abbrev E0:XK:=λ_ _ _=>False
structure xO(K:Z6)(x qual:Str)(st:Stmt)(f:Addr)(fd:Ë):Prop where
 ex:∃(oc:Value) (od:Option Addr) (kV doc pm:Value) (an:Option Addr) (fI ct:Value) (E9:Array (Option Value)),
  fd=ē x qual (da st) (cC st) (aD st) .none kV doc pm an fI ct/\K.lookup f=ρ {oc,od,.func fd,E9}/\η K fI qual=true
 kp:ğ K (.ref f)=true
theorem bN(h:n<=1000):n<sizeLine:=ß h ⋯
theorem aU{A B:Prop}(h:B):if false=true then A else B:=by
 grind
theorem dC{A B:Prop}(h:A):if true=true then A else B:=by
 grind
theorem rT{c A B:Prop}[Decidable c](g:c->A)(j:¬c->B):if c then A else B:=by
 by_cases h:c
 .rw[if_pos h];exact g h
 .rw[if_neg h];exact j h
def a8(H H':Hp):Prop:=∀b o,H b=ρ o->H' b=ρ o
theorem a8.trans(a:a8 H g)(b:a8 g j):a8 H j:=λc o h=>b c o (a c o h)
theorem a8.free(e:a8 H g)(h:g l=Option.none):H l=Option.none:=by
 cases q:H l with
 |none=>rfl
 |some o=>
  rw[e l o q]at h;cases h
theorem a8.seq{K:Z6}{H g:Hp}{a:Addr}{xs:List V}(e:a8 H g)(h:aM K H a xs):aM K g a xs:=by
 rcases h with(h |⟨o,h⟩) |h
 .exact .inl (.inl (e _ _ h))
 .exact .inl (.inr {o,e _ _ h})
 .exact .inr h
theorem a8.upd(h:H a=τ):a8 H (upd H a o):=λb u e=>by rw[af (aa e h)];exact e
abbrev Jw(nm:String):Prop:=["enumerate","zip","dict_itemiterator","dict_reverseitemiterator","odict_iterator","itertools.zip_longest","itertools.pairwise"].contains nm=false
noncomputable def Bn(z:Str)(i:Nat):V:=.str {#[z.cps.getD i 0]}
noncomputable def df(z:Str):List V:=z.cps.toList.map λc=>V.str {#[c]}
def K7(scope:Ð)(env:Env):Prop:=∀y∈scope.names,y.2=.free->env.kindOf y.1=ρ .cell\/env.kindOf y.1=ρ .free
def rV:TT:=λ_ H Q=>Q true H
def MF{α:Type}:Nat->(List α->Prop)->Prop
 |0,P=>P []
 |n+1,P=>∀a,MF n λus=>P (a::us)
noncomputable def pick(σ:St)(ix:List Nat):St:=ix.map λi=>(σ[i]?).join
theorem zm:∀{us:List Value},Vals (ns.map V.str) us->StrsAre us ns:=by
 induction ns with
 |nil=>intro us r;rw[ŏ]at r;cases r;exact .nil
 |cons n ns a=>
  intro us r;rw[Zw]at r
  cases r with
  |cons b c=>
   let{t,e}:=b
   subst e;exact .cons n t (a c)
theorem pw:∀{vs:List Value} {ns:List Str},StrsAre vs ns->Vals (ns.map V.str) vs
 |_,_,.nil=>.nil
 |_,_,.cons n t h=>.cons ⟨t,rfl⟩ (pw h)
noncomputable def ni(v d:Addr):HO:=.ext λh=>h.IsValuesView v d
theorem Cg{b e i:Addr}(h:b∉[e,i]):b≠e/\b≠i:=by simpa using h
theorem MG{e i n:Nat}(h:e<n)(h':i<n):∀b∈[e,i],b<n:=by simp[h,h']
theorem js:ZW "enumerate"=ρ (.type "enumerate"):=∅
theorem sub_str_set:isSubtype (.type "str") (.type "set")=pure false:=by rw[θ];kernel_rfl
theorem sub_str_frozenset:isSubtype (.type "str") (.type "frozenset")=pure false:=by rw[θ];kernel_rfl
theorem Jx(P:ZC)(w:World)(x:Str)(t:Tok):(î P w).is x (.str x t)=true:=by simp[î,wg7]
noncomputable def f7(x:Str)(i:Nat):Str:={#[x.cps.getD i 0]}
noncomputable def HB(P:ZC)(w:World)(a:Addr)(n:Nat):HO:=.ext λh=>∃S,h.SetOf (î P w) a S n
structure FnAt(K:Z6)(mg:Str->Option Value)(nm:Str)(st:Stmt)(ps:List Str)(f:Addr)(fd:Ë):Prop where
 F:xO K nm nm st f fd
 b:Binds K fd ps []
 g:mg nm=ρ (.ref f)
theorem Ea{c A B:Prop}[Decidable c](h:¬c)(b:B):if c then A else B:=by
 rw[if_neg h];exact b
theorem Pr{c A B:Prop}[Decidable c](h:c)(a:A):if c then A else B:=by
 rw[if_pos h];exact a
theorem av(h:n<=1000000):n<=sizeLine:=Zn h (by rw[Ö];decide)
theorem cR(ps:List Str):(ps.map V.str).all d7=true:=by
 rw[œ];exact ZM.mpr λ_ _=>rfl
noncomputable def bM(mv:List (Str×Addr)):List (Key×V):=mv.map λm=>((ZA m.1:Key),V.ref m.2)
theorem fM(mv:List (Str×Addr)):((bM mv).map λg=>kV g.1)=(mv.map (·.1)).map V.str:=by
 unfold bM;rw[Zj,Zj];rfl
theorem wG{R:Str->Prop}:∀{ys:List V},(∀y∈ys,∃t,y=.str t/\R t)->∃g:List Str,ys=g.map V.str/\∀t∈g,R t
 |[],_=>{[],rfl,λ_ h=>nomatch h}
 |y::ys,h=>by
  let{t,rfl,c}:=h y (Zm ..)
  let{g,rfl,a}:=wG (R:=R) (ys:=ys) λy d=>h y (Zh _ d)
  refine{t::g,rfl,λu b=>?_};rcases ZD.mp b with rfl |b
  .exact c
  .exact a u b
structure GZ(lo:Nat)(H:Hp)(h:Heap)(e C:Addr)(od:Option Addr):Prop where
 ge:lo<=e
 nt:H e=τ
 ob:∃vs sl,h.get? e=ρ {.ref C,od,.fields vs,sl}/\1<vs.size /\
  (vs[1]?=ρ .none\/∃T oT ts,vs[1]?=ρ (.ref T)/\lo<=T/\H T=τ/\T≠e/\h.get? T=ρ oT/\oT.data=.fields ts/\ts[3]?=ρ .none)
noncomputable abbrev rD(C d t:Addr):Obj:={cls:=.ref C,dict:=ρ d,data:=.fields #[.ref t,.none,.none,.none,.bool false,.none]}
noncomputable def XD(x C d:Addr):HO:=.ext λh=>∃t,h.get? x=ρ (rD C d t)
theorem K8(h:H x=ρ o):upd H x o=H:=by
 funext b;delta upd;split
 .rename_i e;rw[e,h]
 .rfl
noncomputable def del(H:Hp)(x:Addr):Hp:=λb=>if b=x then τ else H b
theorem fx:del H x x=τ:=if_pos rfl
theorem gj(h:b≠x):del H x b=H b:=if_neg h
theorem Bo(h:H x=τ):del (upd H x o) x=H:=by
 funext b
 by_cases e:b=x
 .rw[e,fx,h]
 .rw[gj e,af e]
theorem zo(h:d≠x):del (upd H d o) x=upd (del H x) d o:=by
 funext b
 by_cases e:b=x
 .subst e;rw[fx,af (Á h),fx]
 .rw[gj e]
  by_cases a:b=d
  .subst a;rw[a7,a7]
  .rw[af a,af a,gj e]
theorem wH:del (upd H x o) x=del H x:=by
 funext b
 by_cases e:b=x
 .rw[e,fx,fx]
 .rw[gj e,gj e,af e]
noncomputable abbrev TJ:=Str->St->Hp->(Str->Hp->Prop)->Prop
noncomputable abbrev MH:=XK->TE
noncomputable abbrev Cx.marked(X:Cx)(e:Addr):Cx:={X with A:=X.A.mark (ρ (.ref e)),calm:=false}
noncomputable def XC(x C:Addr)(od:Option Addr):HO:=.ext λh=>∃vs sl,h.get? x=ρ ⟨.ref C,od,.fields vs,sl⟩
theorem Eb(v:V):V.bl (decide (v=v))=V.bl true:=by simp
theorem K9(v:V):V.bl (!decide (v=v))=V.bl false:=by simp
theorem mF:∀{ns:List Int} {g:List Value},Vals (ns.map V.int) g->∃xs:List (Int×Tok),g=xs.map (λp=>ĳ p.1 p.2)/\xs.map (·.1)=ns
 |[],g,r=>by cases r;exact{[],rfl,rfl}
 |n::ns,g,r=>by
  cases r with
  |cons h t=>
   let{a,rfl}:=h
   let{xs,rfl,e}:=mF t
   exact{(n,a)::xs,rfl,by rw[Zw,e]}
theorem Ec{κ:Type}:∀{kvs:List (κ×V)} {vs:List (κ×Value)},KV kvs vs->∀{i:Nat} {p:κ×V},kvs[i]?=ρ p->∃q,vs[i]?=ρ q/\p.1=q.1/\RelV p.2 q.2
 |_,_,.nil,i,p,h=>by simp at h
 |_,_,.cons r t,i,p,h=>by
  cases i with
  |zero=>exact{1,by have:=Zi h;subst this;exact r}
  |succ i=>exact Ec t h
noncomputable def zp(v:V):Bool:=!decide (v=.non)
noncomputable def V7:Mt:=λx y H Q=>∃i j,x=.int i/\y=.int j/\Hu i j/\Q (.int (i*j)) H
theorem Pt:ZW "abs"=ρ (.builtin "abs"):=∅
noncomputable def lR(q:V×V):List V:=[q.1,q.2]
def Pu(te:TE):TE:=λσ H Q=>te σ H λx H1=>∃d kvs,x=.ref d/\H1 d=ρ (.dK kvs)/\∀o,Q x (upd H1 d (.frz o (.dK kvs)))
noncomputable def rW(kvs:List (Key×V)):Bool:=kvs.all λkv=>d7 kv.2
noncomputable def mG:V->Bool
 |.non=>true
 |.bl _=>true
 |.int _=>true
 |.str _=>true
 |_=>false
theorem lA(h:mG v=true):d7 v=true:=by
 cases v with
 |non=>rfl
 |bl _=>rfl
 |int _=>rfl
 |str _=>rfl
 |_=>cases h
theorem iE(n:Nat):(ZF n).all (λ_=>true)=true:=by simp
theorem hZ(s:a8 H g)(h:Rd H a o):Rd g a o:=by
 rcases h with e |⟨z,e⟩
 .exact .inl (s _ _ e)
 .exact .inr {z,s _ _ e}
theorem a8.HC{K:Z6}{H g:Hp}{a:Addr}{xs:List V}(s:a8 H g)(h:g8 K H a xs):g8 K g a xs:=by
 rcases h with e |e
 .exact .inl (hZ s e)
 .exact .inr e
noncomputable def aO(H H':Hp):Hp:=λa=>match H a with
 |none=>H' a
 |some _=>τ
theorem cS(H g:Hp):a8 (aO H g) g:=λa o e=>by
 grind [aO]
theorem bO(h:H a=τ)(e:g a=ρ o):aO H g a=ρ o:=by
 unfold aO;rw[h];exact e
noncomputable def eI(H:Hp)(x:Addr):Hp:=λd=>if d=x then τ else H d
theorem gk(h:H d=ρ o)(hd:d≠x):eI H x d=ρ o:=by
 unfold eI;rw[if_neg hd];exact h
theorem Bp{K:Z6}{H:Hp}{x C g:Addr}{fs:List (Str×V)}(j:H x=ρ (.ins C g fs)){d:Addr}{ys:List V}(h:aM K H d ys):aM K (eI H x) d ys:=by
 rcases h with(e |⟨o,e⟩) |e
 .exact .inl (.inl (gk e λz=>by grind))
 .exact .inl (.inr {o,gk e λz=>by grind})
 .exact .inr e
noncomputable def bg{α:Type}(p:Nat->Bool):Nat->List α->List α
 |_,[]=>[]
 |i,x::xs=>if p i then x::bg p (i+1) xs else bg p (i+1) xs
theorem dF(ns:List Int):(ns.map V.int).all d7=true:=ZM.mpr λv a=>by
 let{i,1}:=Ze.mp a
 rfl
set_option genInjectivity true in
inductive Lt where
 |fl (v:V)
 |ls (vs:List V)
 |tp (vs:List V)
 deriving DecidableEq
noncomputable def Ed(P:ZC)(w:World)(a:Addr)(n:Nat):HO:=.ext λh=>∃S,h.SetOf (Ò P w) a S n
def zq(xs:Array Nat):Prop:=∀i j a b:Nat,i<j->xs[i]?=ρ a->xs[j]?=ρ b->a<b
structure Parts(xs:Array Nat)(j p:Nat):Prop where
 le:p<=xs.size
 lo:∀i a,i<p->xs[i]?=ρ a->a<j
 hi:∀i a,p<=i->xs[i]?=ρ a->j<=a
theorem lS{α:Type}(xs:Array α)(p:Nat)(x:α)(g:p<=xs.size):(Ĕ xs p x).size=xs.size+1:=by
 unfold Ĕ;rw[Array.size_append,wfd,Α,Α];omega
theorem fX:entryFor table "set_iterator.__next__"=ρ È.«set_iterator.__next__»:=entryFor_of_tree (by kernel_rfl)
theorem gD(a:Value):argsOk "set_iterator.__next__" {[a],[]}:=by
 unfold argsOk
 kernel_rfl
theorem uA:entryFor table "set_iterator.__iter__"=ρ È.«dict_keyiterator.__iter__»:=entryFor_alias (id':="dict_keyiterator.__iter__") (by kernel_rfl) rfl ∅ (by kernel_rfl)
theorem wI(a:Value):argsOk "set_iterator.__iter__" {[a],[]}:=by
 unfold argsOk
 kernel_rfl
def HD(ys:List Nat)(es:Array (Int×Value))(i:Nat)(v:Value):Prop:=∃p c,ys[i]?=ρ p/\es[p]?=ρ c/\v=c.2
theorem Ch:∀{ns g:List Int},ns.Perm g->ns.Pairwise (·<=·)->g.Pairwise (· < ·)->ns=g:=λc d e=>
 c.eq_of_pairwise (λa b _ _ x y=>Int.le_antisymm x y) d (e.imp Int.le_of_lt)
theorem rX{g:List Int}(j:g.Pairwise (· < ·)):g.Nodup:=j.imp λh=>Int.ne_of_lt h
inductive Pw(K:Z6)(x y:V)(H:Hp)(Q:VK):Prop
 |mk (a b xs) (_:x=.ref a) (_:y=.ref b) (_:aM K H a xs) (_:aM K H b []) (_:xs≠[]) (_:Q (.bl false) H)
section
variable{X:Cx}{a b:Expr}{ta tb:TE}
def Gl(X:Cx)(x:Str):Prop:=X.env.kindOf x=ρ .globalImplicit
theorem Ee(b:Expr)(h:op≠.In)(g:op≠.NotIn):ŀ op b=false:=by
 have a:(op==CmpOp.In)=false:=by grind
 have c:(op==CmpOp.NotIn)=false:=by grind
 cases b<;>simp[ŀ,a,c]
def MI(ta tb:TE):TE:=λσ H Q=>ta σ H λx H1=>∃c,x=.bl c/\if c=true then tb σ H1 Q else Q (.bl false) H1
def Px(ta tb:TE):TE:=λσ H Q=>ta σ H λx H1=>∃c,x=.bl c/\if c=true then Q (.bl true) H1 else tb σ H1 Q
def MJ(ta:TE):TE:=λσ H Q=>ta σ H λx H1=>∃c,x=.bl c/\Q (.bl (!c)) H1
def V8(t:TT)(ta tb:TE):TE:=λσ H Q=>t σ H λc H1=>if c=true then ta σ H1 Q else tb σ H1 Q
theorem ip(b:Expr)(h:op≠.In:=by decide)(g:op≠.NotIn:=by decide):ŀ op b=false:=by
 have a:(op==CmpOp.In)=false:=by grind
 have c:(op==CmpOp.NotIn)=false:=by grind
 cases b<;>simp[ŀ,a,c]
noncomputable def ph:V->V->Bool
 |.non,.non=>true
 |.bl a,.bl b=>a==b
 |.bl a,.int b=>(if a then 1 else 0)==b
 |.int a,.bl b=>a==(if b then 1 else 0)
 |.int a,.int b=>a==b
 |.str a,.str b=>a==b
 |_,_=>false
theorem pz(j:RelV y u)(g:RelV x v)(o:d7 y=true)(l:d7 x=true):π A s u v (ph y x):=by
 cases y with
 |non=>
  cases j
  cases x with
  |non=>cases g;exact Ŵ _
  |bl b=>cases g;exact SeqAt.EqAt.none_bool b
  |int b=>let{t,rfl}:=g;exact SeqAt.EqAt.none_int b t
  |str b=>let{t,rfl}:=g;exact SeqAt.EqAt.none_str b t
  |_=>exact absurd (show false=true from l) Zu
 |bl a=>
  cases j
  cases x with
  |non=>cases g;exact SeqAt.EqAt.bool_none a
  |bl b=>cases g;exact SeqAt.EqAt.bool_bool a b
  |int b=>let{t,rfl}:=g;exact SeqAt.EqAt.bool_int a b t
  |str b=>let{t,rfl}:=g;exact SeqAt.EqAt.bool_str a b t
  |_=>exact absurd (show false=true from l) Zu
 |int a=>
  let{c,rfl}:=j
  cases x with
  |non=>cases g;exact SeqAt.EqAt.int_none a c
  |bl b=>cases g;exact SeqAt.EqAt.int_bool a c b
  |int b=>let{t,rfl}:=g;exact SeqAt.EqAt.int_int a c b t
  |str b=>let{t,rfl}:=g;exact wgq a c b t
  |_=>exact absurd (show false=true from l) Zu
 |str a=>
  let{c,rfl}:=j
  cases x with
  |non=>cases g;exact SeqAt.EqAt.str_none a c
  |bl b=>cases g;exact SeqAt.EqAt.str_bool a c b
  |int b=>let{t,rfl}:=g;exact wgr a c b t
  |str b=>let{t,rfl}:=g;exact wfC a c b t
  |_=>exact absurd (show false=true from l) Zu
 |_=>exact absurd (show false=true from o) Zu
noncomputable def zr(x:V)(u:Value):Bool:=match u with
 |.none=>ph .non x
 |.bool b=>ph (.bl b) x
 |.int i _=>ph (.int i) x
 |.str z _=>ph (.str z) x
 |_=>false
theorem Ef(r:RelV y u)(f:d7 y=true):zr x u=ph y x:=by
 cases y with
 |non=>cases r;rfl
 |bl b=>cases r;rfl
 |int i=>let{t,rfl}:=r;rfl
 |str z=>let{t,rfl}:=r;rfl
 |_=>exact absurd (show false=true from f) Zu
theorem k6(g:RelV x v)(j:d7 x=true):∀{xs:List V} {us:List Value},Vals xs us->xs.all d7=true->∀u∈us,π A s u v (zr x u)
 |_,_,.nil,_=>λu a=>by cases a
 |y::xs,u::us,.cons r t,f=>λb a=>by
  rw[wei,è]at f;rcases ZD.mp a with rfl |a
  .rw[Ef r f.1];exact pz r g f.1 j
  .exact k6 g j t f.2 b a
noncomputable def nj:List V->List V->Bool
 |[],[]=>true
 |x::xs,y::ys=>ph x y&&nj xs ys
 |_,_=>false
theorem vf(h:mG v=true):ph v v=true:=by
 cases v with
 |non=>rfl
 |bl b=>cases b<;>rfl
 |int i=>show (i==i)=true;simp
 |str z=>show (z==z)=true;simp
 |_=>cases h
end
section
variable{κ:Type}[DecidableEq κ]
noncomputable def cZ(kvs:List (κ×V))(k:κ):Option V:=(kvs.find? λkv=>decide (kv.1=k)).map (·.2)
theorem Eg:cZ ([]:List (κ×V)) k=τ:=rfl
theorem fy{p:κ×V}{r:List (κ×V)}{k:κ}(e:p.1=k):cZ (p::r) k=ρ p.2:=by simp[cZ,Ŧ,e]
theorem fz{p:κ×V}{r:List (κ×V)}{k:κ}(e:¬p.1=k):cZ (p::r) k=cZ r k:=by simp[cZ,Ŧ,e]
theorem iY.iF(r:iY o u):o.isSome=u.isSome:=by
 cases o with
 |none=>cases u with
  |none=>rfl
  |some _=>exact(show False from r).elim
 |some _=>cases u with
  |none=>exact(show False from r).elim
  |some _=>rfl
theorem KV.val{kvs:List (κ×V)}{vs:List (κ×Value)}(r:KV kvs vs)(k:κ):iY (cZ kvs k) (valueAt vs k):=by
 unfold KV at r
 induction r with
 |nil=>exact Õ
 |@cons p q ps a h t f=>
  let{d,g}:=h
  by_cases e:p.1=k
  .have c:q.1=k:=d.symm.trans e;have b:valueAt (q::a) k=ρ q.2:=by simp[valueAt,Ŧ,c]
   rw[fy e,b];exact g
  .have c:¬q.1=k:=λz=>e (d.trans z);have b:valueAt (q::a) k=valueAt a k:=by simp[valueAt,Ŧ,c]
   rw[fz e,b];exact f
theorem KV.repl(r:KV kvs vs)(k:κ)(j:RelV y u) :
 KV (kvs.map λg=>if g.1=k then(g.1,y) else g) (vs.map λg=>if g.1=k then(g.1,u) else g):=by
 unfold KV at r ⊢
 induction r with
 |nil=>exact .nil
 |@cons p q ps d h t b=>
  rw[Zw,Zw];refine .cons ?_ b
  let{a,c}:=h
  by_cases e:p.1=k
  .rw[if_pos e,if_pos (a.symm.trans e)];exact⟨a,j⟩
  .rw[if_neg e,if_neg (λz=>e (a.trans z))];exact⟨a,c⟩
theorem KV.keys{kvs:List (κ×V)}{vs:List (κ×Value)}(r:KV kvs vs):kvs.map (·.1)=vs.map (·.1):=by
 unfold KV at r
 induction r with
 |nil=>rfl
 |cons h t a=>grind
theorem KV.length{kvs:List (κ×V)}{vs:List (κ×Value)}(r:KV kvs vs):kvs.9=vs.9:=wg8 r
end
section
variable{t:TA}
def Py(t:TA):TE:=λσ H Q=>t σ H λxs H1=>V3 xs H1 Q
def Pz(t:TA):TE:=λσ H Q=>t σ H λxs H1=>V4 xs H1 Q
theorem KT.val{H:Hp}{kvs:List (List Key×V)}{xs:List (List Key×Addr×Value)}(r:KT H kvs xs)(k:List Key):iY (cZ kvs k) ((atKey xs k).map (·.2)):=by
 induction r with
 |nil=>exact Õ
 |@cons p q ps a h t f=>
  let{d,_,g}:=h
  by_cases e:p.1=k
  .have c:q.1=k:=d.symm.trans e;have b:atKey (q::a) k=ρ q.2:=by simp[atKey,Ŧ,c]
   rw[fy e,b];exact g
  .have c:¬q.1=k:=λz=>e (d.trans z);have b:atKey (q::a) k=atKey a k:=by simp[atKey,Ŧ,c]
   rw[fz e,b];exact f
theorem KT.repl(r:KT H kvs xs)(k:List Key)(j:RelV y u) :
 KT H (kvs.map λg=>if g.1=k then(g.1,y) else g) (xs.map (putAt k u)):=by
 induction r with
 |nil=>exact .nil
 |@cons p q ps f h t c=>
  rw[Zw,Zw];refine .cons ?_ c
  let{a,b,d}:=h
  unfold putAt
  by_cases e:p.1=k
  .rw[if_pos e,if_pos (a.symm.trans e)];exact⟨a,b,j⟩
  .rw[if_neg e,if_neg (λz=>e (a.trans z))];exact⟨a,b,d⟩
def dI(H:Hp)(a:Addr)(y:V)(r:Option V):Prop:=
 (∃kvs k,Rd H a (.dK kvs)/\y=kV k/\r=cZ kvs k)\/∃kvs k b,Rd H a (.dT kvs)/\y=.ref b/\H b=ρ (.tup (k.map kV))/\r=cZ kvs k
theorem dI.k{H:Hp}{a:Addr}{kvs:List (Key×V)}{k:Key}(e:H a=ρ (.dK kvs)):dI H a (kV k) (cZ kvs k):=.inl {kvs,k,.inl e,rfl,rfl}
def MK(td ty:TE):TE:=λσ H Q=>td σ H λx H1=>ty σ H1 λy H2=>∃a v,x=.ref a/\dI H2 a y (ρ v)/\Q v H2
def PB(ty td:TE):TE:=λσ H Q=>ty σ H λy H1=>td σ H1 λx H2=>∃a o,x=.ref a/\dI H2 a y o/\Q (.bl o.isSome) H2
def HE(ty td:TE):TE:=λσ H Q=>ty σ H λy H1=>td σ H1 λx H2=>∃a o,x=.ref a/\dI H2 a y o/\Q (.bl (!o.isSome)) H2
structure M2(X:Cx)(o:Expr)(m:Str)(apos:Pos)(e f:Expr)(gN:Pos):Prop where
 base:ė o m X.env (eval o X.5)=eval o X.5
 few:((backTo gN (starEach [e,f] X.5)).all (λx=>!x.1)&&(backToKw gN (Ĝ [] X.5)).all (λx=>x.1.isSome)
  && decide (([e,f]:List Expr).length+([]:List Ň).9+(if ([]:List Ň).isEmpty then 0 else 1)<30))=true
 line:(apos.endLine==gN.line)=true
 trees:backTo gN (starEach [e,f] X.5)=[(false,eval e X.5),(false,eval f X.5)]
structure jS(J:It)(Ok:Hp->Prop)(xs:List V):Prop where
 go:∀i H,Ok H->i<xs.9->J.go i H
 ur:∀i H x H',Ok H->i<xs.9->J.ur i H x H'->H'=H/\xs[i]?=ρ x
 stop:∀H,Ok H->J.stop xs.length H
theorem aJ(K:Z6)(a:Addr)(xs:List V):jS (M0 K a) (λH=>aM K H a xs) xs:=
 {λi H q hi=>{xs,xs[i],q,by simp[hi]},λi H x b q _ y=>{y.1,y.2 xs q},λH q=>{xs,q,Zf _}}
noncomputable def Oj(n:Nat)(val:Nat->V):It:={λi _=>i<n,λi H x H'=>H'=H/\x=val i,λi _=>n<=i}
theorem Ka{val:Nat->V}(hn:xs.9=n)(g:∀i x,xs[i]?=ρ x->val i=x):jS (Oj n val) (λ_=>True) xs:=by
 subst hn;refine{λi H _ hi=>hi,λi H x a _ hi y=>{y.1,?_},λH _=>Zf _};have e:xs[i]?=ρ xs[i]:=by simp[hi]
 rw[e,y.2,g i _ e]
theorem f9(lo:Int)(n:Nat):jS (Jr lo n) (λ_=>True) ((ZF n).map λi=>V.int (lo+(i:Nat))):=by
 refine{λi H _ hi=>(show i<n by simpa using hi),λi H x b _ hi y=>{y.1,?_},λH _=>?_}
 .have a:i<n:=by simpa using hi
  rw[y.2];simp[a]
 .show n<=_;simp
theorem nk(z:Str):jS (Oj z.cps.size (Bn z)) (λ_=>True) (df z):=by simp_all [Ka,df,Z9,Zi,á,Bn,ς]
def PD(tl:TE):TI:=λσ H R=>tl σ H λx H1=>∃z,x=.str z/\R (Oj z.cps.size (Bn z)) H1
theorem zt{α:Type}:∀n P,MF n P->∀us:List α,us.9=n->P us
 |0,_,h,[],_=>h
 |n+1,_,h,a::us,e=>zt n _ (h a) us (Nat.succ.inj e)
structure bQ(X:Cx)(scope:Ð)(x:Str)(ys:List Str)(ix:List Nat):Prop where
 kind:scope.kind=.function
 Eh:∀y∈scope.names,y.2≠.cell
 names:∀y∈scope.names,y.2=.local->scope.names.lookup y.1=ρ .local
 var:scope.names.lookup x=ρ .local
 free:K7 scope X.5
 nd:(x::ys).Nodup
 len:ix.9=ys.9
 slots:∀(j:Nat) (y:Str),ys[j]?=ρ y->∃i:Nat,ix[j]?=ρ i/\X.N[i]?=ρ y/\(X.env.scope.names.lookup y=ρ .cell\/X.env.scope.names.lookup y=ρ .free)/\scope.names.lookup y=ρ .free
theorem xP(h:xs.length≠ys.9):nj xs ys=false:=by
 induction xs generalizing ys with
 |nil=>cases ys with
  |nil=>exact absurd rfl h
  |cons _ _=>rfl
 |cons x xs a=>cases ys with
  |nil=>rfl
  |cons y ys=>
   show (ph x y&&nj xs ys)=false;rw[a (by simpa using h),ĭ]
theorem mH:∀{xs ys:List V},xs.9=ys.9->nj xs ys=(ZF xs.9).all λj=>ph (xs.getD j .non) (ys.getD j .non)
 |[],[],_=>rfl
 |[],_::_,h=>by simp at h
 |_::_,[],h=>by simp at h
 |x::xs,y::ys,h=>by
  show (ph x y&&nj xs ys)=_;rw[ZP,List.range_succ_eq_map,wei,œ,mH (by simpa using h)];rfl
inductive PF(K:Z6)(x y:V)(H:Hp)(Q:VK):Prop
 |mk (a b xs ys) (_:x=.ref a) (_:y=.ref b) (_:aM K H a xs) (_:aM K H b ys) (_:xs.all d7=true) (_:ys.all d7=true) (_:Q (.bl (nj xs ys)) H)
noncomputable def M1(K:Z6)(a:Addr):It:=
 {λi H=>∃xs x,aM K H a xs/\xs[i]?=ρ x,λi H x H'=>∃T xv,H T=τ/\x=.ref T/\H'=upd H T (.tup [.int (i:Nat),xv])/\∀xs,aM K H a xs->xs[i]?=ρ xv,λi H=>∃xs,aM K H a xs/\xs.9<=i}
def ML(K:Z6)(ta:TA):TI:=λσ H R=>ta σ H λvs H1=>∃a xs,vs=[.ref a]/\aM K H1 a xs/\R (M1 K a) H1
noncomputable def mI(sc scope:Ð)(N:List Str)(x:Str)(ys:List Str)(ix:List Nat):Bool:=
 (match scope.kind with |.function=>true |_=>false) &&
 (scope.names.all λy=>!decide (y.2=.cell))&&(scope.names.all λy=>!decide (y.2=.local) ||decide (scope.names.lookup y.1=ρ .local)) &&
 (scope.names.all λy=>!decide (y.2=.free) ||decide (sc.names.lookup y.1=ρ .cell) ||decide (sc.names.lookup y.1=ρ .free)) &&
 decide (scope.names.lookup x=ρ .local)&&decide ((x::ys).Nodup)&&decide (ix.9=ys.9) &&
 ((ZF ys.9).all λj=>match ys[j]?,ix[j]? with
   |some y,ρ i=>decide (N[i]?=ρ y)&&(decide (sc.names.lookup y=ρ .cell) ||decide (sc.names.lookup y=ρ .free))&&decide (scope.names.lookup y=ρ .free)
   |_,_=>false)
theorem Ei{κ:Type}(f:κ->V)(g:κ->Str)(j:∀a b,g a=g b->f a=f b):∀{l:List κ} {c:κ},c∈l->cZ (l.map λc=>((ZA (g c):Key),f c)) (ZA (g c):Key)=ρ (f c):=by intro a;induction a<;>grind [fy,fz,Ě]
theorem pA:∀(a b:List Str),nj (a.map V.str) (b.map V.str)=decide (a=b)
 |[],[]=>rfl
 |[],_::_=>rfl
 |_::_,[]=>rfl
 |x::c,y::d=>by
  show ((x==y)&&nj (c.map V.str) (d.map V.str))=_;rw[pA c d]
  by_cases e:x=y
  .subst e
   by_cases f:c=d
   .subst f;simp
   .simp[f]
  .have:(x==y)=false:=beq_eq_false_iff_ne.mpr e;rw[this];simp[e]
structure Jy(K:Z6)(CB:Addr):Prop where
 sp:wgK K (.ref CB) "__getattribute__"=ρ (ρ (.builtin "type.__getattribute__"))
 rd:readsIn K CB (.type "type")=true
 fc:findCls K (.ref CB) (.type "type") "__init__"=ρ (.val (.builtin "ValueError.__init__"))
noncomputable def PH:TJ:=λacc _ H Q=>acc.9<=sizeLine/\Q acc H
noncomputable def HF(d:Addr)(o:Obj)(kvs:List (Key×V)):It:={λi H=>H d=ρ (.frz o (.dK kvs))/\i<kvs.9,λi H x H'=>H'=H/\∃kv,kvs[i]?=ρ kv/\x=kV kv.1,λi H=>H d=ρ (.frz o (.dK kvs))/\kvs.9<=i}
def MM(tl:TE):TI:=λσ H R=>tl σ H λx H1=>∃d kvs,x=.ref d/\((H1 d=ρ (.dK kvs)/\∀o,R (HF d o kvs) (upd H1 d (.frz o (.dK kvs))))\/∃o,H1 d=ρ (.frz o (.dK kvs))/\R (HF d o kvs) H1)
inductive PL(K:Z6)(x y:V)(H:Hp)(Q:VK):Prop
 |mk (a b xs ys) (_:x=.ref a) (_:y=.ref b) (_:aM K H a xs) (_:aM K H b ys) (_:xs.all d7=true) (_:ys.all d7=true) (_:Q (.bl (!nj xs ys)) H)
def cA(H:Hp)(rs:List Addr)(Sq:List (List V)):Prop:=rs.9=Sq.length/\∀(i:Nat) (r:Addr) (xs:List V),rs[i]?=ρ r->Sq[i]?=ρ xs->H r=ρ (.tup xs)
theorem cA.nil(H:Hp):cA H [] []:={rfl,λi r a h=>by simp at h}
def Kb(tl:TE):TI:=λσ H R=>tl σ H λx H1=>∃d kvs,x=.ref d/\(H1 d=ρ (.dK kvs)\/∃o,H1 d=ρ (.frz o (.dK kvs)))/\∀o H',H' d=ρ (.frz o (.dK kvs))->(∀c,c≠d->H' c=H1 c)->R (HF d o kvs) H'
noncomputable def hitsD(kb ka:List (Key×V)):Bool:=ka.all λkv=>match cZ kb kv.1 with
 |some y=>ph kv.2 y
 |none=>false
noncomputable def PN(ka kb:List (Key×V)):Bool:=ka.9==kb.length&&hitsD kb ka
inductive PQ(x y:V)(H:Hp)(Q:VK):Prop
 |mk (a b ka kb) (_:x=.ref a) (_:y=.ref b) (_:Rd H a (.dK ka)) (_:Rd H b (.dK kb)) (_:rW ka=true) (_:rW kb=true) (_:Q (.bl (PN ka kb)) H)
theorem rY:∀{j:List Int} {g:List Value},Vals (j.map V.int) g->IntsAre g j
 |[],_,h=>by cases h;exact .nil
 |z::j,_,h=>by
  cases h with
  |cons r a=>
   let{t,rfl}:=r
   exact .cons z t (rY a)
theorem vg:∀{us:List Value} {ns:List Int},IntsAre us ns->Vals (ns.map V.int) us
 |_,_,.nil=>.nil
 |_,_,.cons n t h=>.cons ⟨t,rfl⟩ (vg h)
end
section
variable{fs ex:List Addr}{H H1:Hp}{h h1:Heap}
theorem Un.any(u:Un fs ex H H1 h h1){b:Addr}{ob:Obj}(q:h.get? b=ρ ob)(n:H b=τ)(g:b∉ex):∃sl,h1.get? b=ρ {ob with slots:=sl}:=by
 by_cases a:b∈fs
 .exact u.slot b ob q n a g
 .exact{ob.slots,u.keep b ob q n a g}
theorem nq:∀{xs:List V} {us:List Value},Vals xs us->xs.all d7=true->us.any (zr x)=xs.any λy=>ph y x
 |_,_,.nil,_=>rfl
 |y::xs,u::us,.cons r t,f=>by
  rw[wei,è]at f;rw[ĺ,ĺ,Ef r f.1,nq t f.2]
noncomputable def jY(x:V)(xs:List V):Bool:=xs.any λy=>ph y x
theorem iG(y:Str)(ps:List Str):jY (.str y) (ps.map V.str)=decide (y∈ps):=by
 unfold jY;rw[Κ]
 induction ps with
 |nil=>rfl
 |cons p ps a=>
  rw[ĺ,a];show ((p==y) ||decide (y∈ps))=decide (y∈p::ps)
  by_cases e:p=y
  .subst e;simp
  .have:(p==y)=false:=beq_eq_false_iff_ne.mpr e;have b:¬y=p:=λz=>e z.symm;rw[this,Ŋ];simp[b]
theorem iH(y:Int)(ns:List Int):jY (.int y) (ns.map V.int)=decide (y∈ns):=by
 unfold jY;rw[Κ]
 induction ns with
 |nil=>rfl
 |cons a l b=>
  rw[ĺ,b];show ((a==y) ||decide (y∈l))=decide (y∈a::l)
  by_cases e:a=y
  .subst e;simp
  .have:(a==y)=false:=beq_eq_false_iff_ne.mpr e;rw[this,Ŋ];simp[Á e]
end
section
variable{a:Addr}
theorem Paired.Kc{α β:Type}{F G:α->β->Prop}:∀{l₁:List α} {l₂:List β},Paired F l₁ l₂->(∀a b,F a b->G a b)->Paired G l₁ l₂
 |_,_,.nil,_=>.nil
 |_,_,.cons r t,f=>.cons (f _ _ r) (Paired.Kc t f)
theorem vh{h:Heap}{g:Addr}{j:Str->Option Value}(n:h.Ns1 g j):∃od,h.get? g=ρ od/\∀name,Θ name od=ρ (j name):=by
 let{o,c,l,d,hd,hk,_,f}:=n
 refine{o,d,λname=>?_};have e:=f name;unfold nsFind findBy at e;rw[<-Array.find?_toList]at e;unfold Θ;rw[hd];dsimp only;split
 .rename_i y q;rw[q]at e;exact congrArg ρ e
 .rename_i q;rw[q]at e
  have a:c.toList.any (·.refKey)=false:=by
   rw[wgN];intro y i
   let{z,t,b}:=hk y (Array.mem_toList_iff.mp i)
   simp[DictEntry.refKey,b]
  have k:¬c.toList.any (·.refKey)=true:=by rw[a];exact Zu
  rw[if_neg k];exact congrArg ρ e
theorem zg.look{h:Heap}{x g C:Addr}{j:Str->Option Value}(I:zg h x g C j):∃od,PySem.W.InstAt h x (Ħ C g) C (ρ od)/\∀name,Θ name od=ρ (j name):=
 let ⟨od,a,hl⟩:=vh I.ns
 {od,⟨I.obj,rfl,rfl,a⟩,hl}
inductive Ol(K:Z6)(neg:Bool)(x y:V)(H:Hp)(Q:VK):Prop
 |mk (p xs) (_:y=.ref p) (_:(aM K H p xs\/g8 K H p xs)) (_:d7 x=true) (_:xs.all d7=true) (_:Q (.bl (if neg then !jY x xs else jY x xs)) H)
theorem KT.keeps(r:KT H kvs xs)(g:∀b ys,H b=ρ (.tup ys)->j b=ρ (.tup ys)):KT j kvs xs:=
 Paired.Kc r λ_ _ z=>{z.1,g _ _ z.2.1,z.2.2}
theorem cA.snoc(t:cA H g j)(h:H r=ρ (.tup xs)):cA H (g++[r]) (j++[xs]):=by
 refine{by rw[Zd,Zd,t.1];rfl,λi a b c d=>?_}
 by_cases hi:i<g.9
 .rw[ZN hi]at c;rw[ZN (by rw[<-t.1];exact hi)]at d;exact t.2 i a b c d
 .have e:i=g.9:=by
   have:=(Za.mp c).1;rw[Zd,Ŏ]at this
   lia
  subst e;rw[ZL (Zf _),ü]at c;rw[ZL (by rw[t.1];exact Zf _),t.1,ü]at d;cases c;cases d;exact h
end
section
variable{κ:Type}[DecidableEq κ]
noncomputable def putK(kvs:List (κ×V))(k:κ)(v:V):List (κ×V):=
 if (kvs.any λkv=>decide (kv.1=k))=true then kvs.map (λkv=>if kv.1=k then(kv.1,v) else kv) else kvs++[(k,v)]
theorem k7(k:κ):∀kvs:List (κ×V),(kvs.any λg=>decide (g.1=k))=(cZ kvs k).isSome
 |[]=>rfl
 |p::r=>by
  rw[ĺ]
  by_cases e:p.1=k
  .simp only[fy e,decide_eq_true e,Bool.true_or,Option.isSome_some]
  .rw[fz e,decide_eq_false e,Ŋ];exact k7 k r
theorem k8(kvs:List (κ×V))(k:κ)(v:V):(putK kvs k v).9<=kvs.9+1:=by
 delta putK;split
 .rw[Z4];lia
 .rw[Zd,ZP,wdH];lia
theorem eU{kvs:List (κ×V)}{k:κ}(v:V)(h:cZ kvs k=τ):putK kvs k v=kvs++[(k,v)]:=by simp_all [putK,k7,if_neg]
theorem KV.any{kvs:List (κ×V)}{vs:List (κ×Value)}(r:KV kvs vs)(k:κ):(kvs.any λg=>decide (g.1=k))=vs.any λg=>decide (g.1=k):=by
 unfold KV at r
 induction r with
 |nil=>rfl
 |cons h t a=>rw[ĺ,ĺ,a,h.1]
theorem KV.put{kvs:List (κ×V)}{vs:List (κ×Value)}(r:KV kvs vs)(k:κ){y:V}{u:Value}(g:RelV y u):KV (putK kvs k y) (stored vs k u):=by
 unfold putK stored;rw[r.any k]
 by_cases e:(vs.any λa=>decide (a.1=k))=true
 .rw[if_pos e,if_pos e];exact r.repl k g
 .rw[if_neg e,if_neg e];exact Paired.snoc r ⟨rfl,g⟩
end
section
variable{K:Z6}
theorem KT.put{H:Hp}{kvs:List (List Key×V)}{xs:List (List Key×Addr×Value)}(r:KT H kvs xs)(k:List Key){b:Addr}{y:V}{u:Value}(j:H b=ρ (.tup (k.map kV)))(g:RelV y u) :
 KT H (putK kvs k y) (storedH xs k b u):=by
 have e:(kvs.any λa=>decide (a.1=k))=(atKey xs k).isSome:=by
  rw[k7,(r.val k).iF,wet]
 unfold putK storedH;rw[e]
 by_cases q:(atKey xs k).isSome=true
 .rw[if_pos q,if_pos q];exact r.repl k g
 .rw[if_neg q,if_neg q];exact Paired.snoc r ⟨rfl,j,g⟩
def jT(H:Hp)(a:Addr)(y v:V)(H':Hp):Prop:=
 (∃kvs k,H a=ρ (.dK kvs)/\y=kV k/\kvs.9<sizeLine/\H'=upd H a (.dK (putK kvs k v))) \/
 ∃kvs k b,H a=ρ (.dT kvs)/\y=.ref b/\H b=ρ (.tup (k.map kV))/\kvs.9<sizeLine/\H'=upd H a (.dT (putK kvs k v))
theorem jT.k{H:Hp}{a:Addr}{kvs:List (Key×V)}{k:Key}{v:V}(e:H a=ρ (.dK kvs))(hl:kvs.9<sizeLine):jT H a (kV k) v (upd H a (.dK (putK kvs k v))):=.inl ⟨kvs,k,e,rfl,hl,rfl⟩
noncomputable def k9(kvs more:List (Key×V)):List (Key×V):=more.foldl (λacc kv=>putK acc kv.1 kv.2) kvs
theorem KV.merge:∀{more:List (Key×V)} {g:List (Key×Value)} {kvs:List (Key×V)} {vs:List (Key×Value)},KV more g->KV kvs vs->KV (k9 kvs more) (merged vs g):=by
 intro more g kvs vs r;unfold KV at r
 induction r generalizing kvs vs with
 |nil=>intro q;exact q
 |@cons p q ps c h t a=>
  intro b
  have e:KV (putK kvs p.1 p.2) (stored vs q.1 q.2):=by
   have:=b.put p.1 h.2;rw[<-h.1];exact this
  exact a e
theorem uB:∀(more kvs:List (Key×V)),(k9 kvs more).9<=kvs.9+more.9:=by intro more;induction more<;>grind [putK,k8,k9,ZP]
def MN(PR:List (TE×TE)):TE:=λσ H Q=>∀p,H p=τ->zk PR σ (upd H p (.dK [])) λps H2=>H2 p=ρ (.dK [])/\∃kvs:List (Key×V),ps=kvs.map (λkv=>(kV kv.1,kv.2))/\kvs.9<=15/\Q (.ref p) (upd H2 p (.dK (k9 [] kvs)))
theorem xO.binds{x g:Str}{st:Stmt}{f:Addr}{fd:Ë}{ps:List Str}(F:xO K x g st f fd)
 (h:∀(kV j pm:Value) (o:Option Addr) (l ct:Value) (us:List Value),us.9=ps.9->bindArgs (ē x g (da st) (cC st) (aD st) .none kV j pm o l ct) {us,[]}=pure (ps.zip us)):Binds K fd ps []:=by
 let{c,d,kV,j,pm,o,l,ct,a,rfl,lk,b}:=F.ex
 exact .all (h kV j pm o l ct)
theorem Ej{x g:Str}{st:Stmt}{f:Addr}{t:Value}{od r:Option Addr}{p:Array (Option Value)}{kV o pm j ct:Value}(l:K.lookup f=ρ {t,od,.func (ē x g (da st) (cC st) (aD st) .none kV o pm r j ct),p})
 (c:η K j g=true) (k:ğ K (.ref f)=true):xO K x g st f (ē x g (da st) (cC st) (aD st) .none kV o pm r j ct):={⟨t,od,kV,o,pm,r,j,ct,p,rfl,l,c⟩,k}
theorem mJ:∀{names:List (Str×NameKind)} (g:List (Str×Addr)),(∀y∈names,y.2=.free->∃c,env.cells.lookup y.1=ρ c)->(∀y c,g.lookup y=ρ c->env.cells.lookup y=ρ c) ->
 ∃cl:List (Str×Addr),(forIn names g (λ(x:Str×NameKind) p=>(match x with |(name,kind)=>if kind == .free then do let c <-cellOf env name;pure (Ř ((name,c)::p)) else pure (Ř p):Sem (ForInStep (List (Str×Addr))))))=pure cl /\
  (∀y c,cl.lookup y=ρ c->env.cells.lookup y=ρ c)/\(∀y c,g.lookup y=ρ c->∃j,cl.lookup y=ρ j)/\∀y∈names,y.2=.free->∃c,cl.lookup y.1=ρ c
 |[],g,_,ha=>{g,rfl,ha,λy c e=>⟨c,e⟩,λ_ h=>nomatch h}
 |(n,k)::r,g,f,ha=>by
  rw[List.forIn_cons]
  by_cases hk:k=.free
  .let{c,hc}:=f (n,k) Zm hk
   have i:(k==ì)=true:=by rw[hk];rfl
   let{cl,l,m,d,o}:=mJ (env:=env) (names:=r) ((n,c)::g) (λy a=>f y (Zh _ a)) (λy j e=>by
    rw[Ñ]at e
    cases q:y==n with
    |true=>
     rw[q]at e;have:c=j:=Zi e;subst this;have:y=n:=eq_of_beq q;subst this;exact hc
    |false=>
     rw[q]at e
     exact ha y j e)
   refine{cl,?_,m,λy j e=>?_,λy a b=>?_}
   .rw[<-l];simp only[i,if_true];have s:cellOf env n=pure c:=by unfold cellOf;rw[hc]
    rw[s];rfl
   .by_cases q:y=n
    .subst q;exact d y c (by simp[Ñ])
    .refine d y j ?_;have:(y==n)=false:=beq_eq_false_iff_ne.mpr q;rw[Ñ,this];exact e
   .rcases ZD.mp a with rfl |a
    .exact d n c (by simp[Ñ])
    .exact o y a b
  .have i:(k==ì)=false:=by simpa using hk
   let{cl,l,m,d,o}:=mJ (env:=env) (names:=r) g (λy a=>f y (Zh _ a)) ha
   refine{cl,?_,m,d,λy a b=>?_}
   .rw[<-l];simp only[i,ġ,if_false];rfl
   .rcases ZD.mp a with rfl |a
    .exact absurd b hk
    .exact o y a b
theorem lT(g:∀y∈scope.names,y.2=.free->∃c,env.cells.lookup y.1=ρ c) :
 ∃cl,closureFor scope env=pure cl/\(∀y c,cl.lookup y=ρ c->env.cells.lookup y=ρ c)/\∀y∈scope.names,y.2=.free->∃c,cl.lookup y.1=ρ c:=by
 let{cl,b,d,_,f}:=mJ (env:=env) (names:=scope.names) [] g (λy c e=>by simp at e)
 refine{cl,?_,d,f};simp only[closureFor]
 first
  |(rw[b];rfl)
  |(have a:=b;simp only at a ⊢;rw[a];rfl)
  |(refine Ė (congrArg (λm=>m >>= λh=>pure h) ?_) ?_;exact pure cl;exact b;rfl)
theorem wJ(g:∀y∈scope.names,y.2≠.cell)(h:(relabel scope env).names.lookup x=ρ .cell\/(relabel scope env).names.lookup x=ρ .free):∃k,(x,k)∈scope.names/\k=ì:=by
 unfold relabel at h;dsimp only at h
 have key:∀(names:List (Str×NameKind)),(∀y∈names,y.2≠.cell) ->
  ((names.map λ(n,k)=>if (k==ì&&env.scope.kind == .function&&env.kindOf n==ρ .cell) then(n,ń) else(n,k)).lookup x=ρ .cell \/
   (names.map λ(n,k)=>if (k==ì&&env.scope.kind == .function&&env.kindOf n==ρ .cell) then(n,ń) else(n,k)).lookup x=ρ .free)->∃k,(x,k)∈names/\k=ì:=by
  intro names
  induction names with
  |nil=>intro _ h;simp at h
  |cons y r f=>
   let{n,k}:=y
   intro hc h;have i:=f (λy j=>hc y (Zh _ j));rw[Zw]at h;dsimp only at h
   by_cases b:x=n
   .subst b
    by_cases hk:k=.free
    .exact⟨k,Zm,hk⟩
    .have l:(k==ì)=false:=by simpa using hk
     simp only[l,Ŀ,ġ,if_false,Ñ,beq_self_eq_true]at h;rcases h with h |h
     .exact absurd (Zi h) (hc (x,k) Zm)
     .exact absurd (Zi h) hk
   .have c:(x==n)=false:=beq_eq_false_iff_ne.mpr b
    have d:∀a:NameKind,wfn x ((if (k==ì&&env.scope.kind == .function&&env.kindOf n==ρ .cell)=true then(n,ń) else(n,k))::(r.map λ(n,k)=>if (k==ì&&env.scope.kind == .function&&env.kindOf n==ρ .cell) then(n,ń) else(n,k)))=ρ a ->
     (r.map λ(n,k)=>if (k==ì&&env.scope.kind == .function&&env.kindOf n==ρ .cell) then(n,ń) else(n,k)).lookup x=ρ a:=by
     intro a e;split at e
     .simpa only[Ñ,c] using e
     .simpa only[Ñ,c] using e
    let{m,o,p}:=i (h.imp (d _) (d _))
    exact{m,Zh _ o,p}
 exact key scope.names g h
theorem rZ(h:scope.names.lookup x=ρ .free):(relabel scope env).names.lookup x=ρ .cell\/(relabel scope env).names.lookup x=ρ .free:=by
 unfold relabel;dsimp only
 have key:∀(names:List (Str×NameKind)),names.lookup x=ρ .free ->
  ((names.map λ(n,k)=>if (k==ì&&env.scope.kind == .function&&env.kindOf n==ρ .cell) then(n,ń) else(n,k)).lookup x=ρ .cell \/
   (names.map λ(n,k)=>if (k==ì&&env.scope.kind == .function&&env.kindOf n==ρ .cell) then(n,ń) else(n,k)).lookup x=ρ .free):=by
  intro names
  induction names with
  |nil=>intro h;simp at h
  |cons y r c=>
   let{n,k}:=y
   intro h;rw[Zw];dsimp only
   by_cases b:x=n
   .subst b
    have hk:k=.free:=by
     rw[Ñ]at h;simp only[beq_self_eq_true]at h;exact Zi h
    subst hk;split
    .left;simp[Ñ]
    .right;simp[Ñ]
   .have a:(x==n)=false:=beq_eq_false_iff_ne.mpr b;rw[Ñ,a]at h;have q:=c h;split
    .simpa only[Ñ,a] using q
    .simpa only[Ñ,a] using q
 exact key scope.names h
theorem xQ(hk:kvs.map (·.1)=g.map (ZA:Str->Key))(rel:KV kvs vs)(hl:us.9=vs.9)
 (l:∀(j:Nat) (u:Value),us[j]?=ρ u->∃k x,vs[j]?=ρ (k,x)/\(bG P w).is k u=true):StrsAre us g:=by
 have e:vs.map (·.1)=g.map (ZA:Str->Key):=rel.keys ▸ hk;clear hk rel
 induction g generalizing us vs with
 |nil=>
  have:vs=[]:=by cases vs with |nil=>rfl |cons a b=>simp at e
  subst this;have:us=[]:=ĵ.mp hl;subst this;exact .nil
 |cons k g i=>
  cases vs with
  |nil=>simp at e
  |cons v vs=>
   cases us with
   |nil=>simp at hl
   |cons u us=>
    rw[Zw,Zw]at e;injection e with m n
    let{f,x,o,p}:=l 0 u rfl
    have c:v=(f,x):=by simpa using o
    subst c;have d:f=(ZA k:Key):=m;subst d
    let{t,rfl}:=wgf (x:=k) (v:=u) p
    exact .cons k t (i (by simpa using hl) (λj q h=>l (j+1) q (by simpa using h)) n)
theorem vi:∀{kvs:List (Key×V)} {vs:List (Key×Value)} {us:List Value},KV kvs vs->us.9=vs.9 ->
 (∀(j:Nat) (u:Value),us[j]?=ρ u->∃k x,vs[j]?=ρ (k,x)/\(bG P w).is k u=true)->Vals (kvs.map λg=>kV g.1) us
 |_,_,us,.nil,hl,_=>by
  have:us=[]:=ĵ.mp hl;subst this;exact .nil
 |_,_,us,.cons (a:=p) (b:=q) r t,hl,d=>by
  cases us with
  |nil=>simp at hl
  |cons u us=>
   let{f,x,l,m}:=d 0 u rfl
   have c:q=(f,x):=by simpa using l
   subst c;refine .cons ?_ (vi t (by simpa using hl) λj n h=>d (j+1) n (by simpa using h));have e:p.1=f:=r.1;show RelV (kV p.1) u;rw[e];rcases cm m with⟨i,t,rfl,rfl⟩ |⟨y,t,rfl,rfl⟩
   .exact⟨t,rfl⟩
   .exact⟨t,rfl⟩
noncomputable def q5(σ:List Str)(v:Str):List Str:=if σ.any (· == v)=true then σ else σ++[v]
noncomputable def cL(val:Nat->Str)(i:Nat):List Str:=((ZF i).map val).foldl q5 []
theorem i3(val:Nat->Str)(i:Nat):cL val (i+1)=q5 (cL val i) (val i):=by
 delta cL;rw[Œ,Zk,weu];rfl
theorem vj(val:Nat->Str):∀i,(cL val i).9<=i
 |0=>Zf _
 |i+1=>by
  rw[i3];delta q5;have a:=vj val i;split
  .lia
  .grind
theorem Ci(σ:List Str)(v k:Str):(q5 σ v).any (· == k)=(σ.any (· == k) ||decide (k=v)):=by
 delta q5
 by_cases h:σ.any (· == v)=true
 .rw[if_pos h]
  by_cases e:k=v
  .subst e;rw[h];simp
  .simp[e]
 .rw[if_neg h,List.any_append]
  by_cases e:k=v
  .subst e;simp
  .have a:(v==k)=false:=by simpa [beq_iff_eq] using(λb:v=k=>e b.symm)
   simp[a,e]
theorem wK(σ:List Str)(v:Str):(q5 σ v).9=if σ.any (· == v) then σ.length else σ.9+1:=by
 delta q5;split<;>simp
theorem mK{X:Cx}(g:X.env.scope=l)(o:X.N=N)(h:mI l scope N x ys ix=true):bQ X scope x ys ix:=by
 unfold mI at h;simp only[è]at h
 let{{{{{{{b,d},f},k},m},n},p},r}:=h
 refine{?_,λy a=>?_,λy a e=>?_,of_decide_eq_true m,λy a e=>?_,of_decide_eq_true n,of_decide_eq_true p,λj y c=>?_}
 .cases e:scope.kind<;>rw[e]at b<;>first |rfl |cases b
 .have:=ZM.mp d y a;simpa using this
 .have:=ZM.mp f y a;simpa [e] using this
 .have:=ZM.mp k y a;have q:l.names.lookup y.1=ρ .cell\/l.names.lookup y.1=ρ .free:=by simpa [e] using this
  show X.env.scope.names.lookup y.1=ρ .cell\/X.env.scope.names.lookup y.1=ρ .free;rw[g];exact q
 .have hl:j<ys.9:=(Za.mp c).1;have:=ZM.mp r j (Í.mpr hl);rw[c]at this
  cases e:ix[j]? with
  |none=>rw[e]at this;cases this
  |some i=>
   rw[e]at this;simp only[è,whi,decide_eq_true_eq]at this;exact{i,rfl,by rw[o];exact this.1.1,by rw[g];exact this.1.2,this.2}
noncomputable def jt(ks:List Str):List (Key×V):=ks.map λk=>((ZA k:Key),V.bl true)
theorem zu(g:List Str):(jt g).map (·.1)=g.map (ZA:Str->Key):=by
 delta jt;rw[Zj];rfl
theorem Cj(g:List Str):(jt g).9=g.9:=by delta jt;rw[Z4]
noncomputable def kc(es:List (Key×V))(Kd:List Str):Bool:=(es.map (·.2)).any λe=>jY e (Kd.map V.str)
theorem Ek{e:V}{a b:List Str}(h:∀k∈a,k∈b)(q:jY e (a.map V.str)=true):jY e (b.map V.str)=true:=by
 unfold jY at q ⊢
 let{y,c,d}:=Ē.mp q
 let{k,hk,rfl}:=Ze.mp c
 exact Ē.mpr {_,Ze.mpr {k,h k hk,rfl},d}
theorem zv{g:List (Key×V)}{a b:List Str}(h:∀k∈a,k∈b)(q:kc g a=true):kc g b=true:=by
 unfold kc at q ⊢
 let{y,c,d}:=Ē.mp q
 exact Ē.mpr {y,c,Ek h d}
structure MO(ks:List Str)(es:Str->List (Key×V))(ls:List Str):Prop where
 sub:ls.Sublist ks
 V9:∀k∈ls,kc (es k) ls=true
 most:∀Kd:List Str,(∀k∈Kd,k∈ks/\kc (es k) Kd=true)->∀k∈Kd,k∈ls
theorem fN(h:k∈mv.map (·.1)):∃a,(k,a)∈mv/\cZ (bM mv) (ZA k:Key)=ρ (.ref a):=by
 induction mv with
 |nil=>simp at h
 |cons m mv c=>
  let{j,b}:=m
  by_cases e:j=k
  .subst e;exact{b,Zm,fy rfl}
  .have d:k∈mv.map (·.1):=by
    rcases ZD.mp h with z |z
    .exact absurd z.symm e
    .exact z
   let{a,ha,q}:=c d
   refine{a,Zh _ ha,?_};unfold bM;rw[Zw,fz (λz=>e (Ě z))];exact q
noncomputable def roundF(ss:List Str)(es:Str->List (Key×V))(Kd:List Str):List Str:=ss.filter λp=>kc (es p) Kd
noncomputable def rounds(ss:List Str)(es:Str->List (Key×V)):Nat->List Str
 |0=>ss
 |n+1=>roundF ss es (rounds ss es n)
theorem GZ.low{lo j:Nat}{H:Hp}{h:Heap}{e C:Addr}{od:Option Addr}(F:GZ lo H h e C od)(hl:j<=lo):GZ j H h e C od:=by
 let{g,n,i,sl,k,l,f}:=F
 refine{Zn hl g,n,i,sl,k,l,?_};rcases f with f |⟨T,m,o,a,b,c,d⟩
 .exact .inl f
 .exact .inr {T,m,o,a,Zn hl b,c,d}
theorem dI.f{H:Hp}{a:Addr}{o:Obj}{kvs:List (Key×V)}{k:Key}(e:H a=ρ (.frz o (.dK kvs))):dI H a (kV k) (cZ kvs k):=.inl {kvs,k,.inr ⟨o,e⟩,rfl,rfl}
noncomputable def pB(f:Str->V)(ks:List Str):List (Key×V):=ks.map λp=>((ZA p:Key),f p)
theorem se(f:Str->V)(h:k∈g):cZ (pB f g) (ZA k:Key)=ρ (f k):=by
 induction g with
 |nil=>simp at h
 |cons j g a=>
  by_cases e:j=k
  .subst e;exact fy rfl
  .unfold pB;rw[Zw,fz (λz=>e (Ě z))];exact a (by rcases ZD.mp h with z |z;exact absurd z.symm e;exact z)
theorem xR(f:Str->V)(g:List Str):(pB f g).9=g.9:=by unfold pB;rw[Z4]
theorem vk(f:Str->V)(g:List Str)(k:Str):pB f (g++[k])=pB f g++[((ZA k:Key),f k)]:=by unfold pB;rw[Zk];rfl
noncomputable def zx(f:Str->Int):V->V:=λv=>match v with
 |.str z=>.int (f z)
 |_=>.non
theorem gJ(f:Str->Int)(g:List Str):(g.map V.str).map (zx f)=(g.map f).map V.int:=by
 rw[Zj,Zj];rfl
theorem xS{R:It->Hp->Prop}(h:g d=ρ (.dK kvs)\/∃o,g d=ρ (.frz o (.dK kvs)))
 (k:∀o j,j d=ρ (.frz o (.dK kvs))->(∀c,c≠d->j c=g c)->R (HF d o kvs) j) :
 (g d=ρ (.dK kvs)/\∀o,R (HF d o kvs) (upd g d (.frz o (.dK kvs))))\/∃o,g d=ρ (.frz o (.dK kvs))/\R (HF d o kvs) g:=by
 rcases h with h |⟨o,h⟩
 .exact .inl {h,λo=>k o _ a7 λc hc=>af hc}
 .exact .inr {o,h,k o _ h λc _=>rfl}
theorem cA.keep(t:cA H j g)(k:∀r xs,H r=ρ (.tup xs)->l r=ρ (.tup xs)):cA l j g:={t.1,λi r xs a b=>k _ _ (t.2 i r xs a b)}
theorem dI.rd{H:Hp}{a:Addr}{kvs:List (Key×V)}{k:Key}(e:Rd H a (.dK kvs)):dI H a (kV k) (cZ kvs k):=.inl ⟨kvs,k,e,rfl,rfl⟩
theorem Ck(h:rW kvs=true)(e:cZ kvs k=ρ v):d7 v=true:=by
 unfold cZ at e
 cases q:kvs.find? λa=>decide (a.1=k) with
 |none=>rw[q]at e;cases e
 |some a=>
  rw[q]at e;have:=ZM.mp h a (List.mem_of_find?_eq_some q);cases e;exact this
theorem j0{α:Type}(p:Nat->Bool)(x:α):∀(k:Nat) (xs:List α),bg p k (xs++[x])=bg p k xs++(if p (k+xs.9) then[x] else[])
 |k,[]=>by
  show (if p k then x::[] else[])=[]++_;rw[whj];rfl
 |k,y::xs=>by
  have e:k+(y::xs).9=k+1+xs.9:=by grind
  rw[e];show (if p k then y::bg p (k+1) (xs++[x]) else bg p (k+1) (xs++[x]))=(if p k then y::bg p (k+1) xs else bg p (k+1) xs)++_;rw[j0 p x (k+1) xs];cases p k<;>rfl
theorem fm{α:Type}(p:Nat->Bool):∀(k:Nat) (xs:List α),(bg p k xs).9<=xs.9
 |_,[]=>Zf _
 |k,x::xs=>by
  have:=fm p (k+1) xs;show (if p k then x::bg p (k+1) xs else bg p (k+1) xs).9<=xs.9+1
  cases p k with
  |true=>show (bg p (k+1) xs).9+1<=_;omega
  |false=>show (bg p (k+1) xs).9<=_;omega
theorem vm{α β:Type}(f:α->β)(p:Nat->Bool):∀(k:Nat) (xs:List α),bg p k (xs.map f)=(bg p k xs).map f
 |_,[]=>rfl
 |k,x::xs=>by
  show (if p k then f x::bg p (k+1) (xs.map f) else bg p (k+1) (xs.map f))=(if p k then x::bg p (k+1) xs else bg p (k+1) xs).map f;rw[vm f p (k+1) xs];cases p k<;>rfl
theorem under(n:Nat){P:Int->Prop}(h:∀k:Fin n,P ((k.val:Nat):Int))(d:Int)(a:0<=d)(b:d<(n:Int)):P d:=by
 let{k,rfl}:=Int.eq_ofNat_of_zero_le a
 exact h {k,Int.ofNat_lt.mp b}
theorem aq{X:Cx}(ys:List Str)(ix:List Nat)(h:mI X.env.scope scope X.N x ys ix=true:=by kernel_rfl):bQ X scope x ys ix:=mK rfl rfl h
theorem zy(n:Nat):zq (Array.range n):=by
 intro i j a b c d e
 let{hi,rfl}:=ŗ.mp d
 let{f,rfl}:=ŗ.mp e
 simp[c]
theorem Cm(f:Nat->Option Nat)(n:Nat):(((ZF n).filterMap λj=>(f j).map (j,·)).map (·.1)).Pairwise (· < ·):=by
 rw[wev,List.pairwise_filterMap];refine(wfq (n:=n)).imp λ{a b} c x d y e=>?_
 let{_,1}:=Ζ.mp d
 let{_,1}:=Ζ.mp e
 exact c
theorem sf{α:Type}{l:List α}{k:Nat}(h:k<l.9):([l[k]]++l.eraseIdx k).Perm l:=by
 have e:l.take k++l[k]::l.drop (k+1)=l:=by rw[List.getElem_cons_drop,wcA]
 rw[List.eraseIdx_eq_take_drop_succ];exact(List.perm_middle (l₁:=l.take k) (a:=l[k]) (l₂:=l.drop (k+1))).symm.trans (List.Perm.of_eq e)
theorem pC{α:Type}{g:Array Value}{l:List α}{f:α->Value}(hl:g.size=l.9)(h:∀(j:Nat) v,g[j]?=ρ v->(l[j]?).map f=ρ v):g.toList=l.map f:=by
 refine wdd λj=>?_;rw[á,Z9]
 by_cases a:j<g.size
 .rw[ZO a,<-h j _ (ZO a)]
 .rw[Ķ 1.0,Ž 1.0];rfl
end
section
variable{M:Model}{A:Around}{E:Value->Shared->Prop}{s:Shared}{base:Heap}{env:Env}{outer:List Env}{L e C:Addr}{od:Option Addr}{lo:Nat}{H:Hp}
structure El(lo:Nat)(H:Hp)(fs:List Addr)(h h':Heap):Prop where
 keep:∀b o,h.get? b=ρ o->(b<lo\/H b≠τ)->b∉fs->h'.get? b=ρ o
 slot:∀b o,h.get? b=ρ o->b∈fs->∃sl,h'.get? b=ρ {o with slots:=sl}
theorem vn{Q:Unit->Shared->Prop}
 (MP:A.frames=ρ (env::outer)) (hl:s.heap.FunFrames base (env::outer)) (hf:env.frame=ρ L) (Ke:lo<=s.8) (MQ:∀b,s.8<=b->H b=τ) (Sr:lo<=e) (Ss:H e=τ)
 (he:s.heap.get? e=ρ oe) (ux:oe.cls=.ref C) (Su:oe.dict=od) (hd:oe.data=.fields vs) (hsz:1<vs.size)
 (h:∀h',GZ lo H h' e C od->El lo H ((env::outer).filterMap (·.frame)) s.heap h'->Q .unit {s with heap:=h'}) :
 wpAny M A (do let a <-frameOf env;let pl <-entryPlaceOf L Om;let b <-wgg head a .none (rawInt L) .none pl;setField (.ref e) 1 b) (λ_ s'=>wpAny M A (ž (.ref e) τ) Q E s') E s:=by
 have MR:e∉(env::outer).filterMap (·.frame):=λhm=>by
  let{_,o,ho,PU}:=hl.mem hm
  rw[he]at ho;injection ho with ho;subst ho;exact PU vs hd
 refine Z7 (wpAny_frameOf_fun MP hl hf λh₁ MS=>?_);refine Z7 (wpAny_entryPlaceOf λpl hpl=>?_);unfold wgg newFields;refine Z7 (Ģ ?_ (hpl.sizeOk5 _ _ _ _ _));have Sv:h₁.get? e=ρ oe:=(MS.2.1 e MR).trans he;have Sw:=Zb (h:=h₁) {cls:=.type "traceback",dict:=τ,data:=.fields ([head,.ref L,.none,rawInt L,.none]++(if pl.isEmpty then Ġ 6 Ï else pl)).6} Sv;refine we2 Sw hd hsz ?_;have PV:h₁.objs.size≠e:=ö (Zg Sv);have Sy:=ů hd (·.setIfInBounds 1 (Zo h₁.7));have Sz:=ħ (ı (·.setIfInBounds 1 (Zo h₁.7))) Sw (wdx Sy)
 have SA:=(ZY (h₁.push {cls:=.type "traceback",dict:=τ,data:=.fields ([head,.ref L,.none,rawInt L,.none]++(if pl.isEmpty then Ġ 6 Ï else pl)).6})
  (ı (·.setIfInBounds 1 (Zo h₁.7))) (Á PV)).trans (Zr h₁ rfl)
 unfold ž;refine Z7 (ŕ Sz Sy (x:=.ref h₁.7) (by simp[hsz]) ?_);rw[if_pos (show (Zo h₁.objs.size != Ï)=true from by simp)];refine we2 SA rfl (by simp only[ZB,Zd,ZP,wdH]<;>lia) (h _ ?_ ?_)
 .refine{Sr,Ss,vs.setIfInBounds 1 (.ref h₁.7),oe.slots,?_,by simpa using hsz,.inr {h₁.7,_,_,by simp[hsz],by rw[MS.1];exact Ke,MQ _ (by rw[MS.1];exact Zf _),PV,
   ħ _ SA (wdx (ů rfl _)),ů rfl _,by first |(simp;done) |(rcases hpl with rfl |⟨_,_,_,_,_,_,_,rfl⟩<;>simp)}}
  rw[ZY _ _ PV,Sz]
  let{c,d,dt,sl}:=oe
  dsimp only at ux Su hd;subst ux Su hd;rfl
 .have keep:∀b o,b≠e->h₁.get? b=ρ o ->
   (((h₁.push {cls:=.type "traceback",dict:=τ,data:=.fields ([head,.ref L,.none,rawInt L,.none]++(if pl.isEmpty then Ġ 6 Ï else pl)).6}).update e (ı (·.setIfInBounds 1 (Zo h₁.7)))).update h₁.7
     (ı (·.setIfInBounds 3 ((τ:Option Addr).elim Ï λf=>rawInt f)))).get? b=ρ o:=λb o Va hb=>by
   have Vb:h₁.objs.size≠b:=ö (Zg hb);rw[ZY _ _ Vb,ZY _ _ (Á Va)];exact Zb _ hb
  refine{λb o hb hx PU=>keep b o ?_ ((MS.2.1 b PU).trans hb),λb o hb hm=>?_}
  .rintro rfl;rcases hx with hx |hx
   .exact absurd (Zx hx Sr) (Ø _)
   .exact hx Ss
  .let{sl,hs}:=MS.2.2 b o hb
   exact{sl,keep b _ (λz=>MR (z ▸ hm)) hs}
theorem xT{Q:Unit->Shared->Prop}(p:A.frames=ρ (env::outer))(hl:s.heap.FunFrames base (env::outer))(I:env.frame=ρ L)(r:lo<=s.8)(g:∀b,s.8<=b->H b=τ)
 (F:GZ lo H s.heap e C od) (h:∀h',GZ lo H h' e C od->El lo H ((env::outer).filterMap (·.frame)) s.heap h'->Q .unit {s with heap:=h'}) :
 wpAny M A (noteFrame (.ref e) env) (λ_ s'=>wpAny M A (ž (.ref e) τ) Q E s') E s:=by
 let{m,n,z,sl,v,t,k}:=F
 unfold noteFrame;simp only[I];rcases k with k |⟨T,N,B,G,u,x,y,w,i,k⟩
 .refine Z7 (ŕ v rfl k ?_);rw[if_neg ⋯];exact vn p hl I r g m n v rfl rfl rfl t h
 .refine Z7 (ŕ v rfl G ?_);rw[if_pos (show (Zo T != Ï)=true from by simp)];refine Z7 (ŕ w i k ?_);rw[if_neg (show ¬((Ï==rawInt L)=true) from by simp[rawInt])];refine Z7 (we2 w i (ŗ.mp k).1 ?_);have other:∀b,b≠T->(s.heap.update T (ı (·.setIfInBounds 3 Ï))).get? b=s.heap.get? b:=λb a=>ZY _ _ (Á a)
  have c:∀b o,s.heap.get? b=ρ o->(∀z,o.data≠.fields z)->b≠T:=λb o a d q=>by
   rw[q,w]at a;injection a with a;subst a;exact d B i
  have f:(s.heap.update T (ı (·.setIfInBounds 3 Ï))).7=s.8:=Heap.size_after_update ..;refine vn (s:={s with heap:=s.heap.update T (ı (·.setIfInBounds 3 Ï))}) p (hl.of_keeps λb o a d=>{o,(other b (c b o a d)).trans a,rfl}) I (by show lo<=_;rw[f];exact r) (λb a=>g b (by rw[<-f];exact a)) m n ((other e (Á y)).trans v) rfl rfl rfl t λh' J P=>h h' J {λb o a l hn=>P.keep b o ((other b ?_).trans a) l hn,λb o a D=>P.slot b o ((other b ?_).trans a) D}
  .rintro rfl;rcases l with l |l
   .exact absurd (Zx l u) (Ø _)
   .exact l x
  .rintro rfl
   let{_,O,j,d}:=hl.mem D
   rw[w]at j;injection j with j;subst j
   exact d B i
theorem zz{Q:Unit->Shared->Prop}(F:GZ lo H s.heap e C od)(h:∀h',GZ lo H h' e C od->(∀b o,s.heap.get? b=ρ o->(b<lo\/H b≠τ)->h'.get? b=ρ o)->Q .unit {s with heap:=h'}) :
 wpAny M A (ž (.ref e) τ) Q E s:=by
 let{g,i,p,sl,n,j,f}:=F
 unfold ž;rcases f with f |⟨T,v,u,r,a,k,l,t,d,f⟩
 .refine Z7 (ŕ n rfl f ?_);rw[if_neg ⋯];exact Zc (h _ {g,i,p,sl,n,j,.inl f} λb o q _=>q)
 .have c:3<u.size:=(ŗ.mp f).1;refine Z7 (ŕ n rfl r ?_);rw[if_pos (show (Zo T != Ï)=true from by simp)];refine we2 t d c (h _ {g,i,p,sl,?_,j,.inr {T,_,_,r,a,k,l,ħ _ t (wdx (ů d _)),ů d _,by simp[c]}} λb o q m=>?_)
  .exact(ZY _ _ l).trans n
  .refine(ZY _ _ ?_).trans q;rintro rfl;rcases m with m |m
   .exact absurd (Zx m a) (Ø _)
   .exact m k
end
section
variable(P:ZC)(w:World)
def bT(H:Hp)(h:Heap)(a:Addr):HO->Prop
 |.lst xs=>xs.9<=sizeLine/\∃(its:List Value) (n:Nat),Vals xs its/\h.get? a=ρ {cls:=.type "list",data:=.seq its.toArray n}
 |.tup xs=>xs.9<=sizeLine/\∃its:List Value,Vals xs its/\IsTup h a its.6
 |.dK kvs=>kvs.9<=sizeLine/\(a==ĕ)=false/\∃vs,KV kvs vs/\h.DictOf (bG P w) a vs
 |.dT kvs=>kvs.9<=sizeLine/\(a==ĕ)=false/\∃xs:List (List Key×Addr×Value),
   Paired (λ(p:List Key×V) (q:List Key×Addr×Value)=>p.1=q.1/\H q.2.1=ρ (.tup (p.1.map kV))/\RelV p.2 q.2.2) kvs xs /\
   ∃o es ep,h.get? a=ρ o/\o.ExactDict/\o.data=.dict es ep/\es.toList=xs.map (entryOfKey (Ů (bG P w)))/\(xs.map (·.1)).Nodup
 |.set S n=>h.SetOf (intKind P w) a S n
 |.ins C dx fs=>H dx=ρ (.own a)/\fs.9<=1000/\dx≠a/\h.get? a=ρ (Ħ C dx) /\
   ∃mA,h.Ns1 dx mA/\(∀f,iY (fs.lookup f) (mA f))/\ű mA (fs.map (·.1))
 |.own _=>∃o,h.get? a=ρ o
 |.xd fs=>∃mA,h.Ns1 a mA/\∀f,iY (fs.lookup f) (mA f)
 |.rng lo hi=>∃t u v,h.get? a=ρ {cls:=.type "range",data:=.fields #[.int lo t,.int hi u,.int 1 v]}
 |.frz o u=>h.get? a=ρ o/\bT H h a u
 |.tbl ps=>h.get? a=ρ {cls:=.none,data:=.fields ps}
 |.met f x=>h.get? a=ρ (wew (.ref f) (.ref x))
 |.ext φ=>φ h/\(∃o,h.get? a=ρ o)/\∀h1 h2:Heap,φ h1->(∀o,h1.get? a=ρ o->h2.get? a=ρ o)->φ h2
def j1(H:Hp)(h:Heap):Prop:=∀a o,H a=ρ o->bT P w H h a o
end
section
variable{ta tb tc:TE}
theorem Rd.ok{P:ZC}{w:World}{H:Hp}{h:Heap}{a:Addr}{u:HO}(r:Rd H a u)(x:j1 P w H h):bT P w H h a u:=by
 rcases r with r |⟨o,r⟩
 .exact x a u r
 .let{_,q}:=x a _ r
  exact q
structure Inv(X:Cx)(pins:List (Addr×Obj))(σ:List (Option V))(H:Hp)(s:Shared):Prop where
 ok:X.Ok
 os:s.os=X.s₀.os
 bare:AllBare s.gens
 base:Un X.fs X.ex X.H₀ H X.s₀.heap s.heap
 loc:∃m,s.heap.Ns X.env.locals m/\∀(i:Nat) (x:Str) (v:V),X.N[i]?=ρ x->σ[i]?=ρ (ρ v)->LY X.env.scope x->∃u,RelV v u/\Look X.env s.heap m x u
 cell:∀x c,X.env.cells.lookup x=ρ c->∃v,s.heap.IsCell c v
 free:H X.env.locals=τ
 gz:∀x c,X.env.cells.lookup x=ρ c->H c=τ
 pin:∀p∈X.pn++pins,s.heap.get? p.1=ρ p.2/\H p.1=τ/\p.1≠X.env.locals/\p.1∉X.fs/\∀v,p.2.data≠.cell v
 bc:j1 X.prog X.w H s.heap
 len:σ.9=X.N.9
def EP(X:Cx)(pins:List (Addr×Obj))(σ:St)(Q:VK)(u:Value)(s':Shared):Prop:=∃v H',Inv X pins σ H' s'/\RelV v u/\Q v H'
def TP(X:Cx)(pins:List (Addr×Obj))(σ:St)(Q:Bool->Hp->Prop)(b:Bool)(s':Shared):Prop:=∃H',Inv X pins σ H' s'/\Q b H'
def AP(X:Cx)(pins:List (Addr×Obj))(σ:St)(Q:List V->Hp->Prop)(us:List Value)(s':Shared):Prop:=∃vs H',Inv X pins σ H' s'/\Vals vs us/\Q vs H'
abbrev PE(X:Cx)(e:Expr)(t:TE):Prop:=Bx (∀(pins:List (Addr×Obj)) (s:Shared) (σ:St) (H:Hp) (Q:VK),Inv X pins σ H s->t σ H Q->wpAny (model X.prog X.w) X.A (eval e X.5) (EP X pins σ Q) X.xe s)
abbrev PT(X:Cx)(e:Expr)(t:TT):Prop:=Bx (∀(pins:List (Addr×Obj)) (s:Shared) (σ:St) (H:Hp) (Q:Bool->Hp->Prop),Inv X pins σ H s->t σ H Q->wpAny (model X.prog X.w) X.A (isTrue e X.env (eval e X.5)) (TP X pins σ Q) X.xe s)
abbrev PW(X:Cx)(e:Expr)(t:TT):Prop:=Bx (∀(whole:Sem Value) (pins:List (Addr×Obj)) (s:Shared) (σ:St) (H:Hp) (Q:Bool->Hp->Prop),Inv X pins σ H s->t σ H Q->wpAny (model X.prog X.w) X.A (isTrue e X.env whole) (TP X pins σ Q) X.xe s)
theorem PW.pt{X:Cx}{e:Expr}{t:TT}(h:PW X e t):PT X e t:={h _}
abbrev PA(X:Cx)(es:List Expr)(t:TA):Prop:=Bx (∀(pos:Pos) (pins:List (Addr×Obj)) (s:Shared) (σ:St) (H:Hp) (Q:List V->Hp->Prop),Inv X pins σ H s->t σ H Q->wpAny (model X.prog X.w) X.A (spliced (backTo pos (starEach es X.5))) (AP X pins σ Q) X.xe s)
abbrev PG(X:Cx)(target:Expr)(t:TG):Prop:=Bx (∀(pins:List (Addr×Obj)) (s:Shared) (σ:St) (H:Hp) (v:V) (u:Value) (Q:St->Hp->Prop),Inv X pins σ H s->RelV v u->t v σ H Q ->
  wpAny (model X.prog X.w) X.A (assign target X.env u) (λ_ s'=>∃σ' H',Inv X pins σ' H' s'/\Q σ' H') X.xe s)
abbrev Oo(X:Cx)(ts:List Expr)(t:Oi):Prop:=Bx (∀(pins:List (Addr×Obj)) (s:Shared) (σ:St) (H:Hp) (vs:List V) (us:List Value) (Q:St->Hp->Prop),Inv X pins σ H s->Vals vs us->t vs σ H Q ->
  wpAny (model X.prog X.w) X.A (assignInOrder ((Į ts X.5).map (·.2)) us) (λ_ s'=>∃σ' H',Inv X pins σ' H' s'/\Q σ' H') X.xe s)
def MT(X:Cx)(t:K4):Prop:=
 ∀(pins:List (Addr×Obj)) (s:Shared) (σ:St) (H:Hp) (o i v:V) (ov iv u:Value) (Q:Hp->Prop),Inv X pins σ H s->RelV o ov->RelV i iv->RelV v u->t o i v H Q ->
  wpAny (model X.prog X.w) X.A (setItem ov iv u) (λ_ s'=>∃H',Inv X pins σ H' s'/\Q H') X.xe s
def PX(X:Cx)(op:Operator)(t:Mt):Prop:=
 ∀(pins:List (Addr×Obj)) (s:Shared) (σ:St) (H:Hp) (x y:V) (v u:Value) (Q:VK),Inv X pins σ H s->RelV x v->RelV y u->t x y H Q ->
  wpAny (model X.prog X.w) X.A (inplaceOp op v u) (EP X pins σ Q) X.xe s
structure Turn(P:ZC)(w:World)(K:Z6)(tg:Expr)(J:It)(fp:List Addr)(it:Addr)(tn:Nat->Heap->Prop):Prop where
 mem:it∈fp
 obj:∀i h,tn i h->∀b∈fp,∃o,h.get? b=ρ o/\∀v,o.data≠.cell v
 keep:∀i h h',tn i h->(∀b∈fp,∀o,h.get? b=ρ o->h'.get? b=ρ o)->tn i h'
 item:∀(X:Cx),X.prog=P->X.w=w->X.K=K->X.calm=true->∀(i:Nat) (pins:List (Addr×Obj)) (s:Shared) (σ:St) (H:Hp) (E:Value->Shared->Prop),Inv X pins σ H s->(∀b∈fp,rR X pins H b)->tn i s.heap->J.go i H ->
  wpAny (model P w) X.A (pyNext (.ref it)) (λr s1=>∃u,r=ρ u /\
   wpAny (model P w) X.A (Υ tg (.ref it) u) (λ_ s2=>∃x H',Inv X pins σ H' s2/\RelV x u/\J.ur i H x H'/\tn (i+1) s2.heap/\∀b∈fp,H' b=τ) E s1) E s
 done:∀(X:Cx),X.prog=P->X.w=w->X.K=K->X.calm=true->∀(i:Nat) (pins:List (Addr×Obj)) (s:Shared) (σ:St) (H:Hp) (E:Value->Shared->Prop),Inv X pins σ H s->(∀b∈fp,rR X pins H b)->tn i s.heap->J.stop i H ->
   wpAny (model P w) X.A (pyNext (.ref it)) (λr s1=>r=τ/\Inv X pins σ H s1) E s
 self:∀(A:Around) (i:Nat) (s:Shared) (Q:Value->Shared->Prop) (E:Value->Shared->Prop),tn i s.heap->Q (.ref it) s->wpAny (model P w) A (pyIter (.ref it)) Q E s
def Oq(X:Cx)(pins:List (Addr×Obj))(σ:St)(tg:Expr)(R:It->Hp->Prop)(PY:Value)(s2:Shared):Prop:=
 ∃(it:Addr) (fp:List Addr) (tn:Nat->Heap->Prop) (J:It) (H':Hp),PY=.ref it/\Inv X pins σ H' s2/\Turn X.prog X.w X.K tg J fp it tn/\tn 0 s2.heap/\(∀b∈fp,rR X pins H' b)/\R J H'
abbrev PI(X:Cx)(tg iter:Expr)(wi:TI):Prop:=Bx (∀(pins:List (Addr×Obj)) (s:Shared) (σ:St) (H:Hp) (R:It->Hp->Prop),Inv X pins σ H s->wi σ H R ->
  wpAny (model X.prog X.w) X.A (eval iter X.5) (λv s1=>wpAny (model X.prog X.w) X.A (pyIter v) (Oq X pins σ tg R) X.xe s1) X.xe s)
def jZ(X:Cx)(f:Value->Value->Sem Value)(r:R2):Prop:=
 ∀(pins:List (Addr×Obj)) (s:Shared) (σ:St) (H:Hp) (x y:V) (v u:Value) (Q:VK),Inv X pins σ H s->RelV x v->RelV y u->r x y H Q ->
  wpAny (model X.prog X.w) X.A (f v u) (EP X pins σ Q) X.xe s
def PZ(X:Cx)(f:Value->Sem Value)(r:V->Hp->VK->Prop):Prop:=
 ∀(pins:List (Addr×Obj)) (s:Shared) (σ:St) (H:Hp) (x:V) (v:Value) (Q:VK),Inv X pins σ H s->RelV x v->r x H Q ->
  wpAny (model X.prog X.w) X.A (f v) (EP X pins σ Q) X.xe s
theorem Hu.ok{i j:Int}(h:Hu i j):IntMulOk i j:=by
 rcases h with⟨a,b⟩ |⟨a,b⟩
 .exact .of_left (intBits_le_64 a b)
 .exact .of_right (intBits_le_64 a b)
def Kf(r r':R2)(ta tb tc:TE):TE:=λσ H Q=>ta σ H λx H1=>tb σ H1 λy H2=>r x y H2 λz H3=>∃k,z=.bl k /\
 (if k=true then tc σ H3 λw' H4=>r' y w' H4 Q else Q (.bl false) H3)
def CE(outer:List Env)(P:ZC)(w:World)(H:Hp)(s:Shared)(Q:VK)(u:Value)(s':Shared):Prop:=
 ∃v H',s'.os=s.os/\AllBare s'.gens/\Un (qW outer) [] H H' s.heap s'.heap/\j1 P w H' s'.heap/\RelV v u/\Q v H'
def CR(CX:DW)(outer:List Env)(P:ZC)(w:World)(H:Hp)(s:Shared)(Q:VK)(E:XK)(r:à)(s':Shared):Prop:=
 match r with
 |.ok (.ret u)=>CE outer P w H s Q u s'
 |.ok _=>False
 |.error e=>CX outer H s E e s'
abbrev PK(X:Cx)(Vc:List Ň)(t:TA):Prop:=Bx (∀(pos:Pos) (pins:List (Addr×Obj)) (s:Shared) (σ:St) (H:Hp) (Q:List V->Hp->Prop),Inv X pins σ H s->t σ H Q->wpAny (model X.prog X.w) X.A (evalAll ((backToKw pos (Ĝ Vc X.5)).map (·.2))) (AP X pins σ Q) X.xe s)
abbrev PO(X:Cx)(e:Option Expr)(t:TO):Prop:=Bx (∀(pins:List (Addr×Obj)) (s:Shared) (σ:St) (H:Hp) (Q:Option Int->Hp->Prop),Inv X pins σ H s->t σ H Q ->
  wpAny (model X.prog X.w) X.A (evalPart e X.5) (λu s'=>∃o H',Inv X pins σ H' s'/\IsPart u o/\Q o H') X.xe s)
def M3(X:Cx)(r:R2):Prop:=
 ∀(value slice:Expr) (pins:List (Addr×Obj)) (s:Shared) (σ:St) (H:Hp) (x y:V) (v u:Value) (Q:VK),Inv X pins σ H s->RelV x v->RelV y u->r x y H Q ->
  wfp slice false v u=operate [v,u] (getItem v u)->wpAny (model X.prog X.w) X.A (wg9 value slice v u) (EP X pins σ Q) X.xe s
theorem sh(h:Heap)(g:ĕ<h.7):bT P w H (h.push {cls:=.type "dict",data:=.dict #[]}) h.objs.size (.dK []):=
 {ZE _,beq_eq_false_iff_ne.mpr (Á (Zt g)),[],.nil,Heap.DictOf.new h}
abbrev Ot(X:Cx)(pos:Pos)(keys:List (Option Expr))(values:List Expr)(PR:List (TE×TE)):Prop:=Bx (∀(pins:List (Addr×Obj)) (s:Shared) (σ:St) (H:Hp) (Q:List (V×V)->Hp->Prop),Inv X pins σ H s->zk PR σ H Q ->
  wpAny (model X.prog X.w) X.A (evalPairs (pairTrees keys values X.env pos)) (λvs s'=>∃ps H',Inv X pins σ H' s'/\VV ps vs/\Q ps H') X.xe s)
theorem Bq{X:Cx}:Ot X pos [] [] []:={λa s σ H Q I h=>pairTrees_nil_walk {[],H,I,.nil,h}}
theorem xU{X:Cx}(hk:PE X k tk)(j:PE X v l)(o:Ot X pos p vs g) :
 Ot X pos (ρ k::p) (v::vs) ((tk,l)::g):={λa s σ H Q I h=>
 pairTrees_cons_walk (cj (hk a s σ H _ I h) λu b ⟨x,c,d,e,f⟩=>cj (j a b σ c _ d f) λA i ⟨y,m,n,q,r⟩=>
  cj (o a i σ m _ n r) λB C ⟨ps,t,w,rel,z⟩=>{(x,y)::ps,t,w,.cons ⟨e,q⟩ rel,z})}
noncomputable def z9(P:ZC)(w:World):DW:=λouter H s E ev s'=>∃e C od H',ev=.ref e/\s'.os=s.os/\AllBare s'.gens/\Un (qW outer) [] H H' s.heap s'.heap/\j1 P w H' s'.heap/\GZ s.heap.objs.size H' s'.heap e C od/\E (.ref C) od H'
def Br(X:Cx)(E:XK):Prop:=∀(pins:List (Addr×Obj)) (σ:St) (H:Hp) (s:Shared) (e C:Addr) (od:Option Addr),Inv X pins σ H s->GZ X.s₀.heap.objs.size H s.heap e C od->E (.ref C) od H->X.xe (.ref e) s
abbrev PJ(X:Cx)(es:List Expr)(t:TJ):Prop:=Bx (∀(pins:List (Addr×Obj)) (s:Shared) (σ:St) (H:Hp) (acc:Str) (Q:Str->Hp->Prop),Inv X pins σ H s->t acc σ H Q ->
 wpAny (model X.prog X.w) X.A (joinParts acc (evalEach es X.5)) (λu s'=>∃z H',Inv X pins σ H' s'/\(∃tk,u=.str z tk)/\Q z H') X.xe s)
end
section
variable{X:Cx}{pins:List (Addr×Obj)}{σ:List (Option V)}{H H':Hp}{s:Shared}{h':Heap}
theorem Cx.Ok.Q0(ok:X.Ok)(e:X.base.get? b=ρ o):b∉X.fs:=λa=>by
 have:=(ok.ng.mem a).1;rw[e]at this;cases this
theorem Inv.bs(I:Inv X pins σ H s):∀b o,X.base.get? b=ρ o->s.heap.get? b=ρ o/\H b=τ:=λb o e=>
 {I.base.keep b o (I.ok.bs b o e).1 (I.ok.bs b o e).2 (I.ok.Q0 e) (I.ok.zf b o e),I.base.free b o (I.ok.bs b o e).1 (I.ok.bs b o e).2 (I.ok.zf b o e)}
theorem Inv.bk(I:Inv X pins σ H s):∀b o,X.base.get? b=ρ o->s.heap.get? b=ρ o:=λb o e=>(I.bs b o e).1
theorem Inv.mod(I:Inv X pins σ H s):Mod X.K X.mg X.base:=I.ok.mod
theorem Inv.gE(I:Inv X pins σ H s):X.K.In s.heap:=I.ok.mod.Jq.keeps I.bk
theorem Inv.Cp(I:Inv X pins σ H s):∀x c,X.env.cells.lookup x=ρ c->c≠X.env.locals:=λx c e z=>by
 let{v,o,d,hd}:=I.cell x c e
 let{m,{f,g,h,a,b,_},_}:=I.loc
 rw[z,a]at d;cases d;rw[b]at hd;cases hd
theorem Inv.ng(I:Inv X pins σ H s):s.heap.FunFrames X.base X.outer:=by
 have all:∀(l:List Env),(∀b∈qW l,b∈X.fs)->X.s₀.heap.FunFrames X.base l->s.heap.FunFrames X.base l:=by
  intro l
  induction l with
  |nil=>intro _ _;trivial
  |cons env r g=>
   intro f hl
   let{hk,{L,o,a,hn,h,hd},i}:=hl
   have c:L∈X.fs:=f L (by delta qW;rw[ç,a];exact Zm)
   let{sl,e}:=I.base.slot L o h (I.ok.Hq L c) c λz=>I.ok.Cb L z c
   exact{hk,{L,_,a,hn,e,hd},g (λb d=>f b (by delta qW;rw[ç,a];exact Zh _ d)) i}
 exact all X.outer (λ_ d=>d) I.ok.ng
theorem Inv.stack(I:Inv X pins σ H s):s.heap.FunFrames X.base X.stack:=by
 rcases I.ok.LZ with e |⟨e,a⟩
 .rw[e];exact I.ng
 .rw[e]
  let{m,hn,_}:=I.loc
  refine .cons (by rw[I.ok.kind];decide) a hn ?_ I.ng;exact Heap.get?_none_of_le (Zn I.ok.E5 I.ok.above)
theorem Inv.si(I:Inv X pins σ H s):∀b∈qW X.stack,b∈X.env.locals::X.fs:=λb a=>by
 rcases I.ok.LZ with e |⟨e,c⟩
 .grind
 .grind [qW]
theorem Inv.rE(I:Inv X pins σ H s):∀b∈qW X.stack,H b=τ:=λb a=>by
 rcases ZD.mp (I.si b a) with e |a
 .rw[e];exact I.free
 .let{_,o,c,_}:=I.ok.ng.mem a
  exact I.base.free b o c (I.ok.Hq b a) λz=>I.ok.Cb b z a
theorem Inv.step{g':Array õ}{t':Nat}{d':Drawn}{ch:List Addr}(I:Inv X pins σ H s)
 (g:∀b∈ch,(b∈X.ex\/X.s₀.8<=b)/\b≠X.env.locals/\(∀x c,X.env.cells.lookup x=ρ c->c≠b)/\∀p∈X.pn++pins,p.1≠b)
 (keep:∀b o,b≠X.env.locals->b∉X.fs->b∉ch->s.heap.get? b=ρ o->H b=τ->h'.get? b=ρ o)
 (slot:∀b o,b≠X.env.locals->b∈X.fs->b∉ch->s.heap.get? b=ρ o->H b=τ->∃sl,h'.get? b=ρ {o with slots:=sl}) (free:∀b o,b∉ch->s.heap.get? b=ρ o->H b=τ->H' b=τ)
 (there:∀b o,b∉ch->s.heap.get? b=ρ o->∃C,h'.get? b=ρ C)
 (pj:∀b xs,H b=ρ (.tup xs)->H' b=ρ (.tup xs)) (nc:∀b o u,H b=ρ (.frz o u)->H' b=ρ (.frz o u)) (pk:∀b ps,H b=ρ (.tbl ps)->∃more,H' b=ρ (.tbl (ps++more)))
 (ns:∀m,s.heap.Ns X.env.locals m->h'.Ns X.env.locals m) (bc:j1 X.prog X.w H' h') (T:AllBare g') :
 Inv X pins σ H' {s with heap:=h',gens:=g',drawn:=d',toks:=t'}:=by
 have B:∀b o,X.s₀.heap.get? b=ρ o->b≠X.env.locals:=λb o e=>Zt (Zx (Zg e) I.ok.above)
 have j:∀b o,X.s₀.heap.get? b=ρ o->b∉X.ex->b∉ch:=λb o e a y=>by
  rcases(g b y).1 with z |z
  .exact a z
  .exact absurd (Zx (Zg e) z) (Ø _)
 have f:∀x c,X.env.cells.lookup x=ρ c->∀v,s.heap.IsCell c v->h'.IsCell c v:=λx c e v ⟨o,A,hd⟩=>by
  have h:c∉ch:=λz=>(g c z).2.2.1 x c e rfl
  by_cases hc:c∈X.fs
  .let{sl,q}:=slot c o (I.Cp x c e) hc h A (I.gz x c e)
   exact{_,q,hd}
  .exact{o,keep c o (I.Cp x c e) hc h A (I.gz x c e),hd}
 refine{I.ok,I.os,T,{λb o e n y a=>?_,λb o e n y a=>?_,λb o e n a=>?_,λb o e a=>?_,λb xs e=>pj b xs (I.base.pj b xs e),λb o xs e=>nc b o xs (I.base.nc b o xs e),λb ps e=>?_},?_,λx c e=>?_,?_,λx c e=>?_,λp G=>?_,bc,I.len}
 .exact keep b o (B b o e) y (j b o e a) (I.base.keep b o e n y a) (I.base.free b o e n a)
 .let{sl,t}:=I.base.slot b o e n y a
  let{E,D}:=slot b _ (B b o e) y (j b o e a) t (I.base.free b o e n a)
  exact⟨E,D⟩
 .let{C,t}:=I.base.there b o e a
  exact free b C (j b o e a) t (I.base.free b o e n a)
 .let{C,t}:=I.base.there b o e a
  exact there b C (j b o e a) t
 .let{L,t}:=I.base.pk b ps e
  let{M,D}:=pk b _ t
  exact{L++M,by rw[D,Array.append_assoc]}
 .let{m,hn,hl}:=I.loc
  refine{m,ns m hn,λi x v t D N=>?_}
  let{u,r,l}:=hl i x v t D N
  refine{u,r,?_};rcases l with l |⟨k,c,e,z⟩
  .exact .inl l
  .exact .inr {k,c,e,f x c e _ z}
 .let{v,z}:=I.cell x c e
  exact{v,f x c e v z}
 .let{m,{o,_,_,A,_},_}:=I.loc
  exact free _ o (λz=>(g _ z).2.1 rfl) A I.free
 .let{v,o,A,hd}:=I.cell x c e
  exact free c o (λz=>(g c z).2.2.1 x c e rfl) A (I.gz x c e)
 .let{e,n,ne,J,d}:=I.pin p G
  have h:p.1∉ch:=λz=>(g p.1 z).2.2.2 p G rfl;exact{keep p.1 p.2 ne J h e n,free p.1 p.2 h e n,ne,J,d}
theorem Inv.un{t':Nat}(I:Inv X pins σ H s)(u:Un X.fs [] H H' s.heap h')(bc:j1 X.prog X.w H' h'):Inv X pins σ H' {s with heap:=h',toks:=t'}:=by
 let{m,{o,k,l,g,r},_}:=id I.loc
 let{sl,h}:=u.any g I.free (by simp)
 exact I.step (g':=s.gens) (d':=s.drawn) (ch:=[]) (λ_ z=>nomatch z) (λb o _ c _ e n=>u.keep b o e n c (by simp)) (λb o _ c _ e n=>u.slot b o e n c (by simp)) (λb o _ e n=>u.free b o e n (by simp)) (λb o _ e=>u.there b o e (by simp)) u.pj u.nc u.pk (λp i=>by
  let{q,d,f,a,j}:=i
  rw[g]at a;cases a
  exact{_,d,f,h,j}) bc I.bare
theorem Inv.call{g':Array õ}{t':Nat}{d':Drawn}{ch:List Addr}(I:Inv X pins σ H s)(u:Un (qW X.stack) ch H H' s.heap h')(bc:j1 X.prog X.w H' h')(j:AllBare g')
 (g:∀b∈ch,(b∈X.ex\/X.s₀.8<=b)/\b≠X.env.locals/\(∀x c,X.env.cells.lookup x=ρ c->c≠b)/\∀p∈X.pn++pins,p.1≠b) :
 Inv X pins σ H' {s with heap:=h',gens:=g',drawn:=d',toks:=t'}:=by
 let{m,{o,t,v,i,r},_}:=id I.loc
 let{sl,d}:=u.any i I.free λz=>(g _ z).2.1 rfl
 exact I.step (ch:=ch) g (λb o d k hc e n=>u.keep b o e n (λz=>(ZD.mp (I.si b z)).elim d k) hc) (λb o _ _ hc e n=>u.any e n hc) (λb o hc e n=>u.free b o e n hc) (λb o hc e=>u.there b o e hc) u.pj u.nc u.pk (λy l=>by
  let{A,f,h,a,q}:=l
  rw[i]at a;cases a
  exact{_,f,h,d,q}) bc j
theorem Inv.Bt(I:Inv X pins σ H s)(h:∀p∈g,s.heap.get? p.1=ρ p.2/\H p.1=τ/\p.1≠X.env.locals/\p.1∉X.fs/\∀v,p.2.data≠.cell v):Inv X g σ H s:=
 {I.ok,I.os,I.bare,I.base,I.loc,I.cell,I.free,I.gz,λp a=>(ZH.mp a).elim (λz=>I.pin p (ĝ _ z)) (h p),I.bc,I.len}
theorem Inv.vo(I:Inv X pins σ H s)(j:s'.os=s.os)(u:Un (qW X.stack) ch H H' s.heap s'.heap)(bc:j1 X.prog X.w H' s'.heap)(l:AllBare s'.gens)
 (g:∀b∈ch,(b∈X.ex\/X.s₀.8<=b)/\b≠X.env.locals/\(∀x c,X.env.cells.lookup x=ρ c->c≠b)/\∀p∈X.pn++pins,p.1≠b):Inv X pins σ H' s':=by
 let{h',g',d',t',a}:=s'
 have e:a=s.os:=j;subst e;exact I.call (g':=g') (t':=t') (d':=d') u bc l g
structure Ends where
 nx:St->Hp->Prop
 rt:VK
 bk:St->Hp->Prop:=λ_ _=>False
 ct:St->Hp->Prop:=λ_ _=>False
noncomputable abbrev Ends.Em(D:Ends)(N:St->Hp->Prop):Ends:=⟨N,D.rt,D.bk,D.ct⟩
noncomputable abbrev Ends.lp(D:Ends)(N:St->Hp->Prop):Ends:=⟨N,D.rt,D.nx,N⟩
noncomputable abbrev TS:=Ends->St->Hp->Prop
theorem En(j:X.N[i]?=ρ x)(o:LY X.env.scope x)(hd:(x==("__debug__":Str))=false:=by decide)(g:(x==("__classdict__":Str))=false:=by decide):PE X (.Name x pos) (Hr i):=by
 refine{?_};intro b s σ H Q I h
 let{v,e,h}:=h
 let{m,hn,hl}:=I.loc
 let{u,r,l}:=hl i x v j e o
 have fin:EP X b σ Q u s:=⟨v,H,I,r,h⟩;rcases l with⟨hk,d⟩ |⟨hk,c,hc,a⟩
 .exact wpAny_Name (wfV I.ok.kind hk hn d fin) hd
 .rcases hk with hk |hk
  .exact wpAny_Name (wgh I.ok.kind hk hc a fin) hd
  .exact wpAny_Name (wpAny_loadName_free I.ok.kind hk hc a fin g) hd
theorem bU{b j pos}:PE X (.Constant (.bool b) j pos) (tC (.bl b)):={λ_ _ _ H _ I h=>Constant_bool {.bl b,H,I,rfl,h}}
theorem iq{j pos}:PE X (.Constant .none j pos) (tC .non):={λ_ _ _ H _ I h=>Constant_none {.non,H,I,rfl,h}}
def Kg:TS:=λ_ _ _=>False
theorem cI:Oo X [] E6:=by
 refine{?_};intro a s σ H b c Q I r h
 let{e,h}:=h
 subst e;cases r;exact assignInOrder_nil ⟨σ,H,I,h⟩
theorem aK{e:Expr}{g:List Expr}{t:TG}{u:Oi}(j:PG X e t)(l:Oo X g u)
 (hs:(Į (e::g) X.5).map (·.2)=assign e X.5::(Į g X.5).map (·.2):=by rfl):Oo X (e::g) (k4 t u):=by
 refine{?_};intro a s σ H n o Q I r h
 let{v,p,c,h}:=h
 subst c
 cases r with
 |cons r d=>
  rw[hs];refine assignInOrder_cons (cj (j a s σ H _ _ _ I r h) λ_ f ⟨b,i,k,m⟩=>?_);exact l a f b i _ _ Q k d m
structure d5(k:Nat)(A:Around):Prop where
 hd:A.handled=τ
 dp:A.depth+3*k+5<recursionLimit
 un:A.units+16*k+200<À
theorem d5.mono(r:d5 k A)(h:j<=k):d5 j A:={r.hd,by have:=r.dp;lia,by have:=r.un;lia}
theorem d5.deeper(r:d5 (k+1) A)(env:Env):d5 k (A.deeper env):=
 {r.hd,by have:=r.dp;show A.depth+1+3*k+5<_;lia,by have:=r.un;show A.units+3+16*k+200<_;lia}
theorem d5.make(r:d5 (k+1) A)(C:Addr)(us:List Value)(g:List (Str×Value)):d5 k (A.under (.builtin "type.__call__" {.ref C::us,g})):=
 {r.hd,by have:=r.dp;rw[zh];lia,by have:=r.un;rw[zi];lia}
theorem d5.depth(r:d5 k A):A.depth<recursionLimit:=by have:=r.dp;lia
theorem d5.units(r:d5 k A):A.units+64<À:=by have:=r.un;lia
theorem d5.kd(r:d5 k A):A.units<À:=by have:=r.un;lia
theorem dS:PA X [] Ce:={λ_ _ _ _ H Q I h=>Calls.spliced_nil {[],H,I,.nil,h}}
theorem eX:PO X τ Hw:=by
 refine{?_};intro a s σ H Q I h;rw[evalPart_none];exact Zc {τ,H,I,.none,h}
theorem sj:∀{kvs:List (Key×V)} {ws:List (Value×Value)},VV (kvs.map λj=>(kV j.1,j.2)) ws->∃g,Carries (bG P w) ws g/\KV kvs g
 |[],_,r=>by rw[ŏ]at r;cases r;exact{[],Õ,.nil}
 |p::kvs,_,r=>by
  rw[Zw]at r
  cases r with
  |@cons a b as bs h t=>
   let{g,c,q}:=sj (P:=P) (w:=w) t
   let{e,d}:=b
   exact{(p.1,d)::g,{vc h.1,rfl,c},.cons ⟨rfl,h.2⟩ q}
theorem eP(g:d5 k A):A.units+1<À:=ß (wgi (by decide:1<=64) _) g.units
theorem pv(i:Nat)(j:X.N[i]?=ρ x:=by rfl)(l:LY X.env.scope x:=by first |exact ċ rfl |exact Or.inr (ċ rfl) |exact Or.inr (Or.inr rfl))(hd:(x==("__debug__":Str))=false:=by decide)
 (g:(x==("__classdict__":Str))=false:=by decide):PE X (.Name x pos) (Hr i):=En j l hd g
theorem q8:∀{us:List Value},Vals (bs.map V.bl) us->LSm.BoolsAre us bs:=by
 induction bs with
 |nil=>intro us r;rw[ŏ]at r;cases r;exact .nil
 |cons n ns a=>
  intro us r;rw[Zw]at r
  cases r with
  |cons b c=>
   cases b;exact .cons n (a c)
noncomputable abbrev M4:=(St->XK)->TS
theorem Kh(g:d5 k A):A.units+60<À:=ß (wgi (by decide:60<=64) _) g.units
end
section
variable{te:TE}{tl th:TO}
noncomputable abbrev Ends.fn(Q:VK):Ends:={λ_ H'=>Q .non H',Q,λ_ _=>False,λ_ _=>False}
def SP(X:Cx)(pins:List (Addr×Obj))(D:Ends)(f:Flow)(s':Shared):Prop:=
 match f with
 |.next=>∃σ' H',Inv X pins σ' H' s'/\D.nx σ' H'
 |.brk=>∃σ' H',Inv X pins σ' H' s'/\D.bk σ' H'
 |.cont=>∃σ' H',Inv X pins σ' H' s'/\D.ct σ' H'
 |.ret u=>∃v σ' H',Inv X pins σ' H' s'/\RelV v u/\D.rt v H'
abbrev PS(X:Cx)(st:Stmt)(t:TS):Prop:=Bx (∀(pins:List (Addr×Obj)) (s:Shared) (σ:St) (H:Hp) (D:Ends),Inv X pins σ H s->t D σ H->wpAny (model X.prog X.w) X.A (exec st X.5) (SP X pins D) X.xe s)
abbrev vp(X:Cx)(st:List Stmt)(t:TS):Prop:=Bx (∀(pins:List (Addr×Obj)) (s:Shared) (σ:St) (H:Hp) (D:Ends),Inv X pins σ H s->t D σ H->wpAny (model X.prog X.w) X.A (execs st X.5) (SP X pins D) X.xe s)
theorem Cx.Ok.nh{X:Cx}(ok:X.Ok)(E:Value->Shared->Prop):(X.nh E).Ok:=
 ⟨ok.mod,ok.kind,ok.glob,ok.blt,ok.above,ok.inj,ok.has,ok.K3,ok.hd,ok.frames,ok.LZ,ok.Oh,ok.bs,ok.E5,ok.zf,ok.Cb,ok.ng,ok.Hq⟩
theorem Cx.Ok.gm{X:Cx}{E:Value->Shared->Prop}(ok:(X.nh E).Ok):X.Ok:=
 ⟨ok.mod,ok.kind,ok.glob,ok.blt,ok.above,ok.inj,ok.has,ok.K3,ok.hd,ok.frames,ok.LZ,ok.Oh,ok.bs,ok.E5,ok.zf,ok.Cb,ok.ng,ok.Hq⟩
def MU:TS:=λD σ H=>D.nx σ H
def MV(te:TE):TS:=λD σ H=>te σ H λ_ H1=>D.nx σ H1
def Q1(te:TE):TS:=λD σ H=>te σ H D.rt
def Ki(c:TT)(tb:TS):TS:=λD σ H=>∃W:Nat->St->Hp->Prop,(∃m,W m σ H)/\∀m σ H,W m σ H ->
 c σ H λb H1=>if b=true then ∃N:St->Hp->Prop,(∀σ' H',N σ' H'->∃m',m'<m/\W m' σ' H')/\tb (D.lp N) σ H1 else D.nx σ H1
def MX(wi:TI)(g:TG)(tb:TS):TS:=λD σ H=>wi σ H λJ H1=>∃W:Nat->Nat->St->Hp->Prop,(∃m,W 0 m σ H1)/\∀i m σ H,W i m σ H ->
 (J.stop i H/\D.nx σ H)\/(J.go i H/\∃N:St->Hp->Prop,(∀σ' H',N σ' H'->∃m',m'<m/\W (i+1) m' σ' H')/\∀x H',J.ur i H x H'->g x σ H' λσ2 H2=>tb (D.lp N) σ2 H2)
theorem cn{K:Z6}{a:Addr}{xs:List V}{g:TG}{t:TS}{D:Ends}{σ:St}{H:Hp}(Pv:Nat->St->Hp->Prop)(I:Pv 0 σ H)(hl:∀i σ H,i<=xs.9->Pv i σ H->aM K H a xs)
 (hs:∀i x σ H,xs[i]?=ρ x->Pv i σ H->g x σ H λj r=>t (D.lp (Pv (i+1))) j r) (hd:∀σ H,Pv xs.length σ H->D.nx σ H) :
 ∃W:Nat->Nat->St->Hp->Prop,(∃m,W 0 m σ H)/\∀i m σ H,W i m σ H ->
  ((M0 K a).stop i H/\D.nx σ H)\/((M0 K a).go i H/\∃N:St->Hp->Prop,(∀l o,N l o->∃C,C<m/\W (i+1) C l o)/\∀x o,(M0 K a).ur i H x o->g x σ o λj r=>t (D.lp N) j r):=by
 refine{λi m σ H=>m=xs.9-i/\i<=xs.9/\Pv i σ H,{xs.9,by simp,ZE _,I},?_};rintro i m σ H ⟨rfl,hi,p⟩;have q:=hl i σ H hi p
 by_cases b:i<xs.9
 .refine .inr {{xs,xs[i],q,by simp[b]},Pv (i+1),λl o c=>{xs.9-(i+1),(),rfl,b,c},λx o y=>?_}
  let{e,y}:=y
  subst e;exact hs i x σ _ (y xs q) p
 .have e:i=xs.9:=();subst e;exact .inl {{xs,q,Zf _},hd σ H p}
theorem cT{lo:Int}{n:Nat}{g:TG}{t:TS}{D:Ends}{σ:St}{H:Hp}(Pv:Nat->St->Hp->Prop)(I:Pv 0 σ H)
 (hs:∀i σ H,i<n->Pv i σ H->g (.int (lo+i)) σ H λj r=>t (D.lp (Pv (i+1))) j r) (hd:∀σ H,Pv n σ H->D.nx σ H) :
 ∃W:Nat->Nat->St->Hp->Prop,(∃m,W 0 m σ H)/\∀i m σ H,W i m σ H ->
  ((Jr lo n).stop i H/\D.nx σ H)\/((Jr lo n).go i H/\∃N:St->Hp->Prop,(∀l o,N l o->∃C,C<m/\W (i+1) C l o)/\∀x o,(Jr lo n).ur i H x o->g x σ o λj r=>t (D.lp N) j r):=by
 refine{λi m σ H=>m=n-i/\i<=n/\Pv i σ H,{n,by simp,ZE _,I},?_};rintro i m σ H ⟨rfl,hi,p⟩
 by_cases a:i<n
 .refine .inr {a,Pv (i+1),λl o b=>{n-(i+1),(),rfl,a,b},λx o y=>?_}
  let{e,y}:=y
  subst e y;exact hs i σ _ a p
 .have e:i=n:=();subst e;exact .inl {Zf _,hd σ H p}
def cu(X:Cx)(f:Value)(r:List V->Hp->VK->Prop):Prop:=
 ∀(pins:List (Addr×Obj)) (s:Shared) (σ:St) (H:Hp) (xs:List V) (us:List Value) (Q:VK),Inv X pins σ H s->Vals xs us->r xs H Q ->
  wpAny (model X.prog X.w) X.A (call f us) (EP X pins σ Q) X.xe s
structure HG(K:Z6)(C:Addr)(m:Str)(f:Addr):Prop where
 at_:Û K (.ref C) m=ρ (ρ (.ref f))
 fn:weP K (.ref f)=true
 kp:ğ K (.ref f)=true
def Q2(K:Z6)(ta tv:TE)(f:Str):TS:=λD σ H=>tv σ H λy H1=>ta σ H1 λx H2=>∃a C dx fs,x=.ref a/\H2 a=ρ (.ins C dx fs)/\z8 K C/\dH K C f/\fs.9<1000 /\
 D.nx σ (upd H2 a (.ins C dx (dQ f y fs)))
structure zA(P:ZC)(w:World)(K:Z6)(mg:Str->Option Value)(base:Heap)(A:Around)(outer:List Env)(s:Shared)(H:Hp):Prop where
 frames:A.frames=ρ outer
 mod:Mod K mg base
 bs:∀b o,base.get? b=ρ o->s.heap.get? b=ρ o/\H b=τ
 E5:base.7<=s.8
 ng:s.heap.FunFrames base outer
 Hq:∀b∈qW outer,H b=τ
 bc:j1 P w H s.heap
 bare:AllBare s.gens
structure aW(P:ZC)(w:World)(K:Z6)(mg:Str->Option Value)(base:Heap)(CX:DW)(k:Nat)(f:Addr)(fd:Ë)(ps:List Str)(sp:Sp):Prop where
 len:∀vs H Q E,sp vs H Q E->vs.9=ps.9
 run:∀(A:Around) (outer:List Env) (s:Shared) (H:Hp) (args:Args) (us:List Value) (vs:List V) (Q:VK) (E:XK),d5 k A->zA P w K mg base A outer s H->BindsTo s fd args (ps.zip us)->Vals vs us->sp vs H Q E ->
  codeAny (model P w) A (.call (.ref f) args) (CR CX outer P w H s Q E) s
theorem zA.make{P:ZC}{w:World}{K:Z6}{mg:Str->Option Value}{base:Heap}{A:Around}{outer:List Env}{s:Shared}{H:Hp}(e:zA P w K mg base A outer s H)(C:Addr)(us:List Value)(g:List (Str×Value)) :
 zA P w K mg base (A.under (.builtin "type.__call__" {.ref C::us,g})) outer s H:={by first |exact e.frames |(simpa [wgs,Code.envs,wgt,pushEnvs] using e.frames),e.mod,e.bs,e.E5,e.ng,e.Hq,e.bc,e.bare}
def Passes(CX:DW)(X:Cx)(E:XK):Prop:=∀(pins:List (Addr×Obj)) (σ:St) (H:Hp) (s:Shared) (e:Value) (s':Shared),Inv X pins σ H s->CX X.stack H s E e s'->X.xe e s'
noncomputable def pD(CX:DW)(P:ZC)(w:World)(K:Z6)(mg:Str->Option Value)(base:Heap)(N:List Str)(qual:Str)(scope:Ð)(f:Addr)(cd:Value)(A:Around)(outer:List Env)(s:Shared)(H:Hp)(E:XK):Cx where
 prog:=P
 w:=w
 K:=K
 mg:=mg
 base:=base
 A:=A.deeper (envOfC qual scope s.heap.objs.size f cd)
 N:=N
 s₀:=s
 H₀:=H
 env:=envOfC qual scope s.heap.objs.size f cd
 outer:=outer
 stack:=envOfC qual scope s.heap.objs.size f cd::outer
 ex:=[]
 calm:=true
 fn:=λ_=>true
 pn:=[]
 xe:=λe s'=>wpAny (model P w) (A.deeper (envOfC qual scope s.heap.objs.size f cd)) («leaving» (envOfC qual scope s.heap.objs.size f cd) e) (λ_ Q3=>CX outer H s E e Q3) (λe' Q3=>CX outer H s E e' Q3) s'
def Vd(r:V->Option Int->Option Int->Hp->VK->Prop)(te:TE)(tl th:TO):TE:=λσ H Q=>te σ H λx H1=>tl σ H1 λl H2=>th σ H2 λu H3=>r x l u H3 Q
def Kj(X:Cx)(id:String)(r:V->List V->Hp->VK->Prop):Prop:=
 ∀(pins:List (Addr×Obj)) (s:Shared) (σ:St) (H:Hp) (x:V) (xs:List V) (v:Value) (us:List Value) (Q:VK),Inv X pins σ H s->RelV x v->Vals xs us->r x xs H Q ->
  wpAny (model X.prog X.w) X.A (call (.builtin id) (v::us)) (EP X pins σ Q) X.xe s
def SD(X:Cx)(id:String)(r:V->List V->Hp->VK->Prop):Prop:=
 ∀(pins:List (Addr×Obj)) (s:Shared) (σ:St) (H:Hp) (x:V) (xs:List V) (v:Value) (us:List Value) (Q:VK),Inv X pins σ H s->RelV x v->Vals xs us->r x xs H Q ->
  wpAny (model X.prog X.w) X.A (call (.builtin id) (v::us)) (EP X pins σ Q) X.xe s
def Jz(td ty tv:TE):TS:=λD σ H=>tv σ H λv H1=>td σ H1 λx H2=>ty σ H2 λy H3=>∃a H4,x=.ref a/\jT H3 a y v H4/\D.nx σ H4
theorem lU{X:Cx}:Passes cY X E0:=λ_ _ _ _ _ _ _ h=>h.elim
theorem ke{J:It}{Ok:Hp->Prop}{xs:List V}{g:TG}{C:TS}{D:Ends}{σ:St}{H:Hp}(r:jS J Ok xs)(Pv:Nat->St->Hp->Prop)(T:Pv 0 σ H)(U:∀i σ H,i<=xs.9->Pv i σ H->Ok H)
 (hs:∀i x σ H,xs[i]?=ρ x->Pv i σ H->g x σ H λl t=>C (D.lp (Pv (i+1))) l t) (hd:∀σ H,Pv xs.length σ H->D.nx σ H) :
 ∃W:Nat->Nat->St->Hp->Prop,(∃m,W 0 m σ H)/\∀i m σ H,W i m σ H ->
  (J.stop i H/\D.nx σ H)\/(J.go i H/\∃N:St->Hp->Prop,(∀o j,N o j->∃I,I<m/\W (i+1) I o j)/\∀x j,J.ur i H x j->g x σ j λl t=>C (D.lp N) l t):=by
 refine{λi m σ H=>m=xs.9-i/\i<=xs.9/\Pv i σ H,{xs.9,by simp,ZE _,T},?_};rintro i m σ H ⟨rfl,hi,p⟩;have q:=U i σ H hi p
 by_cases a:i<xs.9
 .refine .inr {r.go i H q a,Pv (i+1),λo j b=>{xs.9-(i+1),(),rfl,a,b},λx j y=>?_}
  let{e,c}:=r.ur i H x j q a y
  subst e;exact hs i x σ _ c p
 .have e:i=xs.9:=();subst e;exact .inl {r.stop H q,hd σ H p}
noncomputable def bq(X:Cx)(scope:Ð)(N:List Str)(cl:List (Str×Addr))(L:Addr)(s:Shared)(H:Hp)(ex:List Addr)(pn:List (Addr×Obj)):Cx where
 prog:=X.prog
 w:=X.w
 K:=X.K
 mg:=X.mg
 base:=X.base
 A:=X.A
 N:=N
 s₀:=s
 H₀:=H
 env:=compEnvC scope cl L X.5
 outer:=X.stack
 stack:=X.stack
 ex:=ex
 fn:=λ_=>false
 calm:=X.calm
 pn:=pn
 xe:=λ_ _=>False
theorem sq{K:Z6}{a:Addr}{xs:List V}{g:TG}{t:TS}{D:Ends}{σ:St}{H:Hp}(Pv:Nat->St->Hp->Prop)(I:Pv 0 σ H)(hl:∀i σ H,i<=xs.9->Pv i σ H->aM K H a xs)
 (hs:∀i x σ H T,xs[i]?=ρ x->Pv i σ H->H T=τ->g (.ref T) σ (upd H T (.tup [.int (i:Nat),x])) λj r=>t (D.lp (Pv (i+1))) j r) (hd:∀σ H,Pv xs.length σ H->D.nx σ H) :
 ∃W:Nat->Nat->St->Hp->Prop,(∃m,W 0 m σ H)/\∀i m σ H,W i m σ H ->
  ((M1 K a).stop i H/\D.nx σ H)\/((M1 K a).go i H/\∃N:St->Hp->Prop,(∀l o,N l o->∃C,C<m/\W (i+1) C l o)/\∀x o,(M1 K a).ur i H x o->g x σ o λj r=>t (D.lp N) j r):=by
 refine{λi m σ H=>m=xs.9-i/\i<=xs.9/\Pv i σ H,{xs.9,by simp,ZE _,I},?_};rintro i m σ H ⟨rfl,hi,p⟩;have q:=hl i σ H hi p
 by_cases b:i<xs.9
 .refine .inr {{xs,xs[i],q,by simp[b]},Pv (i+1),λl o c=>{xs.9-(i+1),1.0,rfl,b,c},λx o y=>?_}
  let{T,d,f,h,k,y}:=y
  subst h k;exact hs i d σ _ T (y xs q) p f
 .have e:i=xs.9:=1.0;subst e;exact .inl {{xs,q,Zf _},hd σ H p}
abbrev Yi(X:Cx)(st:Stmt)(t:TS):Prop:=Bx (∀(pins:List (Addr×Obj)) (s:Shared) (σ:St) (H:Hp) (D:Ends),Inv X pins σ H s->1<=s.toks->t D σ H->wpAny (model X.prog X.w) X.A (exec st X.5) (SP X pins D) X.xe s)
abbrev Ve(X:Cx)(st:List Stmt)(t:TS):Prop:=Bx (∀(pins:List (Addr×Obj)) (s:Shared) (σ:St) (H:Hp) (D:Ends),Inv X pins σ H s->1<=s.toks->t D σ H->wpAny (model X.prog X.w) X.A (execs st X.5) (SP X pins D) X.xe s)
def HH(C:Addr)(E:XK)(t:TA):TS:=λ_ σ H=>t σ H λvs H1=>vs.9=1/\E (.ref C) τ H1
def Q4(X:Cx)(pins:List (Addr×Obj))(σ:St)(E:XK)(ev:Value)(s':Shared):Prop:=∃H0 s0,Inv X pins σ H0 s0/\z9 X.prog X.w X.stack H0 s0 E ev s'
def SE(X:Cx)(pins:List (Addr×Obj))(E:St->XK)(ev:Value)(s':Shared):Prop:=∃σ,Q4 X pins σ (E σ) ev s'
abbrev SG(X:Cx)(e:Expr)(t:MH):Prop:=Bx (∀(pins:List (Addr×Obj)) (s:Shared) (σ:St) (H:Hp) (Q:VK) (E:XK),Inv X pins σ H s->t E σ H Q->wpAny (model X.prog X.w) X.A (eval e X.5) (EP X pins σ Q) (Q4 X pins σ E) s)
abbrev SH(X:Cx)(st:Stmt)(t:M4):Prop:=Bx (∀(pins:List (Addr×Obj)) (s:Shared) (σ:St) (H:Hp) (D:Ends) (E:St->XK),Inv X pins σ H s->t E D σ H->wpAny (model X.prog X.w) X.A (exec st X.5) (SP X pins D) (SE X pins E) s)
abbrev MY(X:Cx)(st:List Stmt)(t:M4):Prop:=Bx (∀(pins:List (Addr×Obj)) (s:Shared) (σ:St) (H:Hp) (D:Ends) (E:St->XK),Inv X pins σ H s->t E D σ H->wpAny (model X.prog X.w) X.A (execs st X.5) (SP X pins D) (SE X pins E) s)
end
section
variable{X:Cx}{a b:Expr}{ta tb:TE}{pos:Pos}{tA:TT}
abbrev PC(X:Cx)(op:CmpOp)(a b:Expr)(t:TE):Prop:=Bx (∀(pins:List (Addr×Obj)) (s:Shared) (σ:St) (H:Hp) (Q:VK),Inv X pins σ H s->t σ H Q ->
  wpAny (model X.prog X.w) X.A (eval a X.5) (λv s₁=>wpAny (model X.prog X.w) X.A (eval b X.5) (λu s₂=>wpAny (model X.prog X.w) X.A (Æ op v u) (EP X pins σ Q) X.xe s₂) X.xe s₁) X.xe s)
theorem zB{op:CmpOp}{t:TE}(h:PC X op a b t)(g:ŀ op b=false:=by first |exact Ee _ ⋯ ⋯ |rfl):PT X (.Compare a [op] [b] pos) (tB t):=by
 refine{?_};intro e s σ H Q I hw;refine wfD (cj (h e s σ H _ I hw) λv m g=>cj g λu n f=>cj f λc o ⟨x,i,j,k,l⟩=>?_) g
 let{d,rfl,q}:=l
 cases k;exact ď ⟨i,j,q⟩
theorem aP{e:Expr}{t:TE}(h:PE X e t)(he:∀whole,isTrue e X.env whole=(do let v <-whole;standAt e.pos;holding [v] (truthy v)):=by intro _;rfl):PT X e (tB t):=by
 refine{?_};intro a s σ H Q I hw;refine isTrue_plain (cj (h a s σ H _ I hw) λv i ⟨x,b,c,f,g⟩=>?_) (he _)
 let{d,rfl,q}:=g
 cases f;exact ď ⟨b,c,q⟩
theorem Bu(ha:PT X a tA):PW X (.BoolOp .And [a] pos) tA:=by
 refine{?_};intro d b s σ H Q I h;refine isTrue_and (cj (ha b s σ H Q I h) λc f e=>?_)
 cases c with
 |true=>exact isTrue_and_nil e
 |false=>exact e
theorem cU(ha:PT X a tA):PW X (.BoolOp .Or [a] pos) tA:=by
 refine{?_};intro d b s σ H Q I h;refine isTrue_or (cj (ha b s σ H Q I h) λc f e=>?_)
 cases c with
 |false=>exact isTrue_or_nil e
 |true=>exact e
theorem bj(ha:PT X a tA):PT X (.UnaryOp .Not a pos) (Pk tA):=by
 refine{?_};intro b s σ H Q I h;exact isTrue_not (ha b s σ H (λc d=>Q (!c) d) I h)
theorem j2{op}(h:PE X a t):PE X (.BoolOp op [a] pos) t:={λb s σ H Q I hw=>BoolOp_one (h b s σ H Q I hw)}
theorem wL(ha:PE X a ta):PE X (.UnaryOp .Not a pos) (MJ ta):=by
 refine{?_};intro b s σ H Q I h;refine UnaryOp_ (cj (ha b s σ H _ I h) λv i ⟨x,e,f,g,d⟩=>?_)
 let{c,rfl,d}:=d
 cases g;exact not_of (ď {.bl (!c),e,f,rfl,d})
theorem xV{c:Expr}(hc:PT X c tA)(ha:PE X a ta)(l:PE X b tb):PE X (.IfExp c a b pos) (V8 tA ta tb):=by
 refine{?_};intro e s σ H Q I h;refine wpAny_IfExp (cj (hc e s σ H _ I h) λd f ⟨g,i,j⟩=>?_)
 cases d with
 |true=>exact ha e f σ g Q i j
 |false=>exact l e f σ g Q i j
theorem aB:vp X [] MU:={λ_ _ σ H _ I h=>ņ ⟨σ,H,I,h⟩}
theorem Inv.quiet(I:Inv X g σ H s):interactive X.5=false:=by simp[interactive,I.ok.kind]
theorem gK:vp X g Kg:={λ_ _ _ _ _ _ h=>h.elim}
theorem zC{o i:Expr}{l p:TE}{t:K4}(C:PE X o l)(hi:PE X i p)(hs:MT X t)
 (ha:∀v,assign (.Subscript o i pos) X.env v=(do
   let g <-holding [v] (eval o X.5)
   let j <-holding [v,g] (eval i X.5)
   standAt pos
   holding [v,g,j] (setItem g j v)
   release [v,g,j] []):=by intro _;rfl):PG X (.Subscript o i pos) (Pn l p t):=by
 refine{?_};intro a s σ H v u Q I r h;rw[ha];refine Z7 (ZX (cj (C a s σ H _ I h) λg b ⟨x,c,d,e,f⟩=>?_));refine Z7 (ZX (cj (hi a b σ c _ d f) λj k ⟨y,m,n,q,w⟩=>?_));refine Z7 (Ŕ (Z7 (ZX (cj (hs a k σ m x y v g j u _ n e q r w) λ_ D ⟨z,A,B⟩=>?_))));exact wpAny_release ⟨σ,z,A,B⟩
def Kk(te:TE)(g:TG):TS:=λD σ H=>te σ H λx H1=>g x σ H1 D.nx
theorem ir{j e:Expr}{l:TE}{g:TG}(he:PE X e l)(o:PG X j g)(hs:swapsWithSole [j] e pos.line X.5=pure false:=by rfl)(hw:swappedStores [j] e X.5=pure τ:=by rfl)
 (p:(Į [j] X.5).map (·.2)=[assign j X.5]:=by rfl):PS X (.Assign [j] e pos) (Kk l g):=by
 refine{?_};intro a s σ H D I h;refine wpAny_Assign_stores (cj (he a s σ H _ I h) λv b ⟨x,c,d,f,i⟩=>?_) hs hw;rw[p];exact cj (o a b σ c x v _ d f i) λ_ k q=>q
inductive Q6(i:Nat)(te:TE)(ti:Mt)(D:Ends)(σ:St)(H:Hp):Prop
 |mk (x) (_:σ[i]?=ρ (ρ x)) (_:te σ H λy H1=>ti x y H1 λz H2=>D.nx (σ.set i (ρ z)) H2)
theorem iI{c:Expr}{body:List Stmt}{t:TT}{C:TS}(J:PassesOwn (model X.prog X.w) X.A X.env X.xe)(hc:PT X c t)(T:vp X body C):PS X (.While c body [] pos) (Ki t C):=by
 refine{?_};intro a s σ H D I h
 let{W,{E,G},g}:=h
 refine wpAny_While (codeAny_whileLoop (λn L=>∃i u,Inv X a i u L/\W n i u) ?_ E ⟨σ,H,I,G⟩);rintro n M ⟨e,x,O,Q⟩;refine Ľ J (cj (hc a M e x _ O (g n e x Q)) λb R ⟨y,z,k⟩=>?_)
 cases b with
 |true=>
  let{N,B,k}:=k
  rw[if_pos rfl];refine Ľ J (cj (T a R e y _ z k) λf S l=>?_)
  cases f with
  |next=>
   let{d,j,m,o}:=l
   let{p,q,r}:=B d j o
   exact⟨p,q,d,j,m,r⟩
  |cont=>
   let{d,j,m,o}:=l
   let{p,q,r}:=B d j o
   exact⟨p,q,d,j,m,r⟩
  |brk=>exact l
  |ret v=>exact l
 |false=>
  rw[if_neg Zu];exact ņ ⟨e,y,z,k⟩
theorem Inv.nr(I:Inv X (g++pl) σ H s):Inv X g σ H s:=I.Bt λp a=>I.pin p (ZV _ (ĝ _ a))
theorem Kl(ha:PE X a ta)(t:PE X b tb){R:V->V->Hp->Prop}(I:Inv X g σ H s)
 (h:ta σ H λx r=>tb σ r λy j=>R x y j) {Q:Value->Shared->Prop} {f:Value->Value->Sem Value}
 (C:∀v u p x y j,Inv X g σ j p->RelV x v->RelV y u->R x y j->wpAny (model X.prog X.w) X.A (f v u) Q X.xe p) :
 wpAny (model X.prog X.w) X.A (eval a X.5) (λv l=>wpAny (model X.prog X.w) X.A (eval b X.5) (λu o=>wpAny (model X.prog X.w) X.A (f v u) Q X.xe o) X.xe l) X.xe s:=by
 refine cj (ha g s σ H _ I h) λv c ⟨x,r,d,e,i⟩=>?_;refine cj (t g c σ r _ d i) λu p ⟨y,j,k,m,n⟩=>?_;exact C v u p x y j k e m n
theorem aF(g:jZ X (binaryOp op) r)(ha:PE X a ta)(j:PE X b tb):PE X (.BinOp a op b pos) (Mw r ta tb):=by
 refine{?_};intro c s σ H Q I h;exact wpAny_BinOp (Kl ha j I h λv u d x y e f i k q=>g c d σ e x y v u Q f i k q)
theorem JA{r:V->Hp->VK->Prop}(g:PZ X (unaryOp op) r)(ha:PE X a ta):PE X (.UnaryOp op a pos) (UZ r ta):=by
 refine{?_};intro b s σ H Q I h;exact UnaryOp_ (cj (ha b s σ H _ I h) λv c ⟨x,d,e,f,i⟩=>g b c σ d x v Q e f i)
theorem HI{f:Value->Value->Sem Value}{g:Int->Int->Bool}
 (rule:∀(i j:Int) (t u:Tok) (s:Shared) (Q:Value->Shared->Prop) (E:Value->Shared->Prop),Q (.bool (g i j)) s->wpAny (model X.prog X.w) X.A (f (.int i t) (.int j u)) Q E s) :
 jZ X f (Jt λi j=>.bl (g i j)):=by
 intro a s σ H x y v u Q I b c h
 let{i,j,rfl,rfl,q}:=h
 let{t,rfl}:=b
 let{d,rfl}:=c
 exact rule i j t d s _ _ {.bl (g i j),H,I,rfl,q}
theorem bK(I:Inv X g σ H s)(q:Q (.bl k) H)(e:k=j):EP X g σ Q (.bool j) s:=by
 subst e;exact{.bl k,H,I,rfl,q}
theorem ju:jZ X (Æ .Eq) V0:=by
 intro e s σ H x y v u Q I d a h
 let{c,q}:=h
 cases x with
 |non=>
  cases d
  cases y with
  |non=>cases a;exact PySem.EqNone.eq_none_none (bK I q (by simp))
  |bl j=>cases a;exact PySem.EqNone.eq_none_bool (bK I q (by simp))
  |int j=>let{b,rfl}:=a;exact PySem.EqNone.eq_none_int (bK I q (by simp))
  |str j=>let{b,rfl}:=a;exact PySem.EqNone.eq_none_str (bK I q (by simp))
  |_=>exact absurd (show false=true from c) Zu
 |bl i=>
  cases d
  cases y with
  |non=>cases a;exact PySem.EqNone.eq_bool_none (bK I q (by simp))
  |bl j=>cases a;exact eq_bool (bK I q E8)
  |str j=>let{b,rfl}:=a;exact PySem.EqMixed.eq_bool_str (bK I q (by simp))
  |_=>exact absurd (show false=true from c) Zu
 |int i=>
  let{t,rfl}:=d
  cases y with
  |non=>cases a;exact PySem.EqNone.eq_int_none (bK I q (by simp))
  |int j=>let{b,rfl}:=a;exact eq_int (bK I q Bh)
  |str j=>let{b,rfl}:=a;exact PySem.EqMixed.eq_int_str (bK I q (by simp))
  |_=>exact absurd (show false=true from c) Zu
 |str i=>
  let{t,rfl}:=d
  cases y with
  |non=>cases a;exact PySem.EqNone.eq_str_none (bK I q (by simp))
  |bl j=>cases a;exact PySem.EqMixed.eq_str_bool (bK I q (by simp))
  |int j=>let{b,rfl}:=a;exact PySem.EqMixed.eq_str_int (bK I q (by simp))
  |str j=>let{b,rfl}:=a;exact eq_str (bK I q Bi)
  |_=>exact absurd (show false=true from c) Zu
 |byt i=>
  let{t,rfl}:=d
  cases y with
  |byt j=>let{b,rfl}:=a;exact PySem.W.eq_bytes (bK I q Bj)
  |_=>exact absurd (show false=true from c) Zu
 |_=>cases y<;>exact absurd (show false=true from c) Zu
theorem Eo:jZ X (Æ .NotEq) V1:=by
 intro e s σ H x y v u Q I d a h
 let{c,q}:=h
 cases x with
 |non=>
  cases d
  cases y with
  |non=>cases a;exact PySem.EqNone.ne_none_none (bK I q (by simp))
  |bl j=>cases a;exact PySem.EqNone.ne_none_bool (bK I q (by simp))
  |int j=>let{b,rfl}:=a;exact PySem.EqNone.ne_none_int (bK I q (by simp))
  |str j=>let{b,rfl}:=a;exact PySem.EqNone.ne_none_str (bK I q (by simp))
  |_=>exact absurd (show false=true from c) Zu
 |bl i=>
  cases d
  cases y with
  |non=>cases a;exact PySem.EqNone.ne_bool_none (bK I q (by simp))
  |bl j=>cases a;exact ne_bool (bK I q (congrArg not E8))
  |str j=>let{b,rfl}:=a;exact PySem.EqMixed.ne_bool_str (bK I q (by simp))
  |_=>exact absurd (show false=true from c) Zu
 |int i=>
  let{t,rfl}:=d
  cases y with
  |non=>cases a;exact PySem.EqNone.ne_int_none (bK I q (by simp))
  |int j=>let{b,rfl}:=a;exact ne_int (bK I q (congrArg not Bh))
  |str j=>let{b,rfl}:=a;exact PySem.EqMixed.ne_int_str (bK I q (by simp))
  |_=>exact absurd (show false=true from c) Zu
 |str i=>
  let{t,rfl}:=d
  cases y with
  |non=>cases a;exact PySem.EqNone.ne_str_none (bK I q (by simp))
  |bl j=>cases a;exact PySem.EqMixed.ne_str_bool (bK I q (by simp))
  |int j=>let{b,rfl}:=a;exact PySem.EqMixed.ne_str_int (bK I q (by simp))
  |str j=>let{b,rfl}:=a;exact ne_str (bK I q (congrArg not Bi))
  |_=>exact absurd (show false=true from c) Zu
 |byt i=>
  let{t,rfl}:=d
  cases y with
  |byt j=>let{b,rfl}:=a;exact PySem.W.ne_bytes (bK I q (congrArg not Bj))
  |_=>exact absurd (show false=true from c) Zu
 |_=>cases y<;>exact absurd (show false=true from c) Zu
theorem gO:jZ X (Æ .Lt) (Jt λi j=>.bl (decide (i<j))):=HI λ_ _ _ _ _ _ _ q=>lt_int q
theorem Bv:jZ X (Æ .LtE) (Jt λi j=>.bl (decide (i<=j))):=HI λ_ _ _ _ _ _ _ q=>le_int q
theorem i5:jZ X (Æ .Gt) (Jt λi j=>.bl (decide (j<i))):=HI λ_ _ _ _ _ _ _ q=>gt_int q
theorem Ep:jZ X (Æ .GtE) (Jt λi j=>.bl (decide (j<=i))):=HI λ_ _ _ _ _ _ _ q=>ge_int q
theorem vq:jZ X (Æ .In) (λx y H Q=>∃i j,x=.str i/\y=.str j/\Q (.bl (!(wf2 j i 0 j.length 1).isEmpty)) H):=by
 intro a s σ H x y v u Q I b c h
 let{i,j,rfl,rfl,q}:=h
 let{t,rfl}:=b
 let{d,rfl}:=c
 exact in_str (bK I q rfl)
theorem nu:jZ X (Æ .IsNot) (λx y H Q=>y=.non/\Q (.bl (!decide (x=.non))) H):=by
 intro a s σ H x y v u Q I b c h
 let{rfl,q}:=h
 cases c;refine isnot_none_gen (bK I q ?_)
 cases x<;>first
  |(cases b;rfl)
  |(let{t,rfl}:=b;rfl)
theorem eY(g:jZ X (Æ op) r)(ha:PE X a ta)(j:PE X b tb)(l:ŀ op b=false):PE X (.Compare a [op] [b] pos) (Mw r ta tb):=by
 refine{?_};intro c s σ H Q I h;exact wpAny_Compare1 (Kl ha j I h λv u d x y e f i k q=>g c d σ e x y v u Q f i k q) l
theorem eZ(g:jZ X (Æ op) r)(ha:PE X a ta)(j:PE X b tb)(l:ŀ op b=false):PT X (.Compare a [op] [b] pos) (Ju (Mw r ta tb)):=by
 refine{?_};intro d s σ H Q I h
 refine wfD (cj (ha d s σ H _ I h) λv f ⟨x,i,m,n,o⟩=>cj (j d f σ i _ m o) λu p ⟨y,q,t,w,A⟩=>
  cj (g d p σ q x y v u _ t n w A) λc G ⟨z,B,C,D,k,e,E⟩=>?_) l
 subst e;cases D;exact ď ⟨B,C,E⟩
theorem b4(g:M3 X r)(ha:PE X a ta)(j:PE X b tb)(hs:Hy b):PE X (.Subscript a b pos) (Mw r ta tb):=by
 refine{?_};intro c s σ H Q I h;exact Subscript_ (Kl ha j I h λv u d x y e f i k q=>g a b c d σ e x y v u Q f i k q (hs _ _))
end
section
variable{P:ZC}{w:World}{H H':Hp}{h h':Heap}{a:Addr}{o:HO}
theorem bT.lt(x:bT P w H h a o):a<h.7:=by
 cases o with
 |lst c=>let{_,_,_,_,e}:=x;exact Zg e
 |tup c=>let{_,_,_,p}:=x;exact p.lt
 |dK b=>let{_,_,_,_,o,_,_,e,_}:=x;exact Zg e
 |dT b=>let{_,_,_,_,o,_,_,e,_}:=x;exact Zg e
 |set S n=>let{o,_,_,_,e,_}:=x;exact Zg e
 |ins C d fs=>let{_,_,_,e,_}:=x;exact Zg e
 |own y=>let{_,e}:=x;exact Zg e
 |xd fs=>let{_,{_,_,_,e,_},_}:=x;exact Zg e
 |rng lo hi=>let{_,_,_,e}:=x;exact Zg e
 |frz ob u=>let{e,_}:=x;exact Zg e
 |tbl ps=>exact Zg (show h.get? a=ρ _ from x)
 |met f y=>exact Zg (show h.get? a=ρ _ from x)
 |ext φ=>let{_,{_,e},_}:=x;exact Zg e
theorem bT.qX(x:bT P w H h a o)(k:∀b u,(b=a\/H b=ρ (.own a))->h.get? b=ρ u->h'.get? b=ρ u)
 (I:∀b,H b=ρ (.own a)->H' b=ρ (.own a)) (J:∀b xs,H b=ρ (.tup xs)->H' b=ρ (.tup xs)):bT P w H' h' a o:=by
 induction o with
 |lst xs=>let{z,j,n,r,e}:=x;exact{z,j,n,r,k _ _ (.inl rfl) e}
 |tup xs=>let{z,j,r,ob,e,c}:=x;exact{z,j,r,ob,k _ _ (.inl rfl) e,c}
 |dK l=>let{z,y,A,r,ob,g,i,e,c}:=x;exact{z,y,A,r,ob,g,i,k _ _ (.inl rfl) e,c}
 |dT l=>
  let{z,y,xs,r,ob,g,i,e,c}:=x
  exact{z,y,xs,Paired.Kc r λp q z=>{z.1,J _ _ z.2.1,z.2.2},ob,g,i,k _ _ (.inl rfl) e,c}
 |set S n=>let{ob,g,i,t,e,c}:=x;exact{ob,g,i,t,k _ _ (.inl rfl) e,c}
 |ins C E fs=>
  let{d,z,ne,e,m,{s,g,i,B,c},r}:=x
  exact{I _ d,z,ne,k _ _ (.inl rfl) e,m,{s,g,i,k _ _ (.inr d) B,c},r}
 |own y=>let{ob,e}:=x;exact{ob,k _ _ (.inl rfl) e}
 |xd fs=>let{m,{s,g,i,e,c},r}:=x;exact{m,{s,g,i,k _ _ (.inl rfl) e,c},r}
 |rng lo hi=>let{t,u,v,e}:=x;exact{t,u,v,k _ _ (.inl rfl) e}
 |frz ob u D=>let{e,q}:=x;exact{k _ _ (.inl rfl) e,D q}
 |tbl ps=>
  have e:h.get? a=ρ {cls:=.none,data:=.fields ps}:=x;show h'.get? a=ρ {cls:=.none,data:=.fields ps};exact k a _ (.inl rfl) e
 |met f y=>
  have e:h.get? a=ρ (wew (.ref f) (.ref y)):=x;show h'.get? a=ρ (wew (.ref f) (.ref y));exact k a _ (.inl rfl) e
 |ext φ=>let{p,{o,e},st}:=x;exact⟨st _ _ p λo q=>k _ _ (.inl rfl) q,⟨o,k _ _ (.inl rfl) e⟩,st⟩
theorem j1.lt(x:j1 P w H h)(e:H a=ρ o):a<h.7:=(x a o e).lt
theorem j1.fresh(x:j1 P w H h)(e:h.7<=a):H a=τ:=by
 cases q:H a with
 |none=>rfl
 |some u=>exact absurd (Zx (x.lt q) e) (Ø _)
theorem j1.kept(x:j1 P w H h)(k:∀b u,h.get? b=ρ u->h'.get? b=ρ u):j1 P w H h':=λa o e=>
 (x a o e).qX (λb u _ q=>k b u q) (λ_ q=>q) λ_ _ q=>q
theorem j1.laid(x:j1 P w H h)(k:∀b u,h.get? b=ρ u->h'.get? b=ρ u)(g:h.7<=a)(new:bT P w (upd H a o) h' a o):j1 P w (upd H a o) h':=λb u e=>by
 have hn:=x.fresh g
 by_cases d:b=a
 .grind [a7]
 .rw[af d]at e;exact(x b u e).qX (λc v _ q=>k c v q) (λc q=>by rw[af (aa q hn)];exact q) λc f q=>by rw[af (aa q hn)];exact q
theorem JB(ok:j1 P w H h)(e:Rd H a u):bT P w H h a u:=e.ok ok
theorem kg(ok:j1 P w H h)(e:Rd H a (.dK kvs)):kvs.9<=sizeLine/\(a==ĕ)=false/\∃vs,KV kvs vs/\h.DictOf (bG P w) a vs:=
 show bT P w H h a (.dK kvs) from JB ok e
theorem sr(ok:j1 P w H h)(e:H a=ρ (.dK kvs)):kvs.9<=sizeLine/\(a==ĕ)=false/\∃vs,KV kvs vs/\h.DictOf (bG P w) a vs:=kg ok (.inl e)
theorem su(ok:j1 P w H h)(e:H a=ρ (.tup (g.map kV))):(Ů (bG P w)).is h g a:=by
 let{_,b,r,o,c,d,n,f}:=(show bT P w H h a (.tup (g.map kV)) from ok a _ e)
 exact{o,b.6,n,c,d,f,by simpa using vd r}
theorem xW(ok:j1 P w H h)(e:Rd H a (.dT kvs)):kvs.9<=sizeLine/\(a==ĕ)=false /\
 ∃xs,KT H kvs xs/\h.DictOfH (Ů (bG P w)) a xs:=by
 let{z,y,xs,r,o,b,c,d,f,g,i,j}:=(show bT P w H h a (.dT kvs) from JB ok e)
 refine{z,y,xs,r,o,b,c,d,f,g,i,λx k=>?_,j}
 have all:∀{l:List (List Key×V)} {m:List (List Key×Addr×Value)},KT H l m->∀x∈m,(Ů (bG P w)).is h x.1 x.2.1:=by
  intro l m q
  induction q with
  |nil=>grind
  |@cons p q ps n s t u=>
   grind [su]
 exact all r x k
theorem MZ(ok:j1 P w H h)(e:H a=ρ (.dT kvs)):kvs.9<=sizeLine/\(a==ĕ)=false /\
 ∃xs,KT H kvs xs/\h.DictOfH (Ů (bG P w)) a xs:=xW ok (.inl e)
end
section
variable{X:Cx}{pins:List (Addr×Obj)}{σ:St}{H:Hp}{s:Shared}{a:Addr}{xs ys:List V}
theorem aM.of{K:Z6}(h:H a=ρ (.lst xs)):aM K H a xs:=.inl (.inl h)
theorem g8.of{K:Z6}(h:H a=ρ (.tup xs)):g8 K H a xs:=.inl (.inl h)
theorem Inv.list(I:Inv X pins σ H s)(h:aM X.K H a xs):∃g:List Value,Vals xs g/\PlainL s.heap a g.6/\xs.9<=sizeLine:=by
 rcases h with h |⟨o,g,n,hk,hc,hd,b,c,r⟩
 .let{z,g,n,r,e}:=h.ok I.bc
  exact{g,r,{_,n,e,rfl,rfl,rfl},z}
 .refine{g.toList,r,{o,n,I.gE a o hk,hc,hd,by simpa using b},?_};have e:=r.9;simp only[ZR]at e
  lia
theorem Inv.tuple(I:Inv X pins σ H s)(h:g8 X.K H a xs):∃g:List Value,Vals xs g/\IsTup s.heap a g.6/\xs.9<=sizeLine:=by
 rcases h with h |⟨o,g,n,hk,hc,b,c,r⟩
 .let{z,g,r,p}:=h.ok I.bc
  exact⟨g,r,p,z⟩
 .refine{g.toList,r,{o,I.gE a o hk,hc,n,by simpa using b},?_};have e:=r.9;simp only[ZR]at e;omega
theorem Inv.sv(I:Inv X pins σ H s)(h:aM X.K H a xs)(h':aM X.K H a ys):xs=ys:=by
 let{c,r,{o,n,e,_,_,d},_}:=I.list h
 let{b,i,{j,k,f,_,_,g},_}:=I.list h'
 rw[e]at f;cases f;rw[d]at g;injection g with l _
 have:c=b:=by grind
 subst this;exact r.inj i
theorem bA:M3 X (MC X.K):=by
 intro value slice a s σ H x y v u Q I l m h f
 let{p,E,i,z,rfl,rfl,n,o,q}:=h
 cases l
 let{t,rfl}:=m
 let{c,r,pl,G}:=I.list n
 let{j,b,A,J,B,C}:=wF o
 let{w,g,d}:=r.get A
 have hl:=r.9;have hn:=mE;have fin:EP X a σ Q w s:=⟨z,H,I,d,q⟩
 by_cases k:0<=i
 .have e:i.toNat=j:=by
   rw[wh1 k C]at b;exact Zi b
  exact item_listR pl.isList k () (by rw[e];simpa using g) fin f
 .have e:(i+(c.toArray.size:Int)).toNat=j:=by
   rw[wgu () B]at b;rw[ZB,<-hl];exact Zi b
  exact wfr (x:=w) pl.isList.typeIs slot_list_getitem.lookup
   (wpAny_getItem_list_neg (Q:=λr D=>r=w/\EP X a σ Q r D) pl.isList () (by rw[ZB]<;>lia) () (by rw[e];simpa using g) ⟨rfl,fin⟩) f
theorem fb:M3 X (MD X.K):=by
 intro value slice a s σ H x y v u Q I c d h e
 let{p,A,i,z,rfl,rfl,f,g,q}:=h
 cases c
 let{t,rfl}:=d
 let{k,r,pl,B}:=I.tuple f
 let{j,l,m,C,D,E}:=wF g
 let{w,n,b}:=r.get m
 have hl:=r.9;have hn:=mE;have fin:EP X a σ Q w s:=⟨z,H,I,b,q⟩
 exact wfr (x:=w) pl.typeIs slot_tuple_getitem.lookup
  (getItem_tuple (j:=j) (Q:=λr o=>r=w/\EP X a σ Q r o) pl () () (by rw[ZB,<-hl];exact l) (by simpa using n) ⟨rfl,fin⟩) e
theorem zD(g:List Value)(n j:Nat)(u:Value):ê (·.setIfInBounds j u) {cls:=.type "list",data:=.seq g.toArray n}={cls:=.type "list",data:=.seq (g.set j u).toArray n}:=by
 simp[ê]
theorem vr:jZ X (Æ .In) (Ol X.K false):=by
 intro c s σ H x y v u Q I d f h
 let{p,i,rfl,b,e,fs,q}:=h
 cases f;rcases b with b |b
 .let{a,r,pl,g}:=I.list b
  refine SeqAt.in_listAt (zr x) pl.isList (λw hw=>k6 d e r fs w (by grind)) {.bl _,H,I,rfl,?_};rw[show a.toArray.any (zr x)=a.any (zr x) by simp,nq r fs];exact q
 .let{a,r,pl,g}:=I.tuple b
  refine SeqAt.in_tupleAt (zr x) pl (λw hw=>k6 d e r fs w (by grind)) {.bl _,H,I,rfl,?_};rw[show a.toArray.any (zr x)=a.any (zr x) by simp,nq r fs];exact q
theorem j3:jZ X (Æ .NotIn) (Ol X.K true):=by
 intro c s σ H x y v u Q I d f h
 let{p,i,rfl,b,e,fs,q}:=h
 cases f;rcases b with b |b
 .let{a,r,pl,g}:=I.list b
  refine SeqAt.notIn_listAt (zr x) pl.isList (λw hw=>k6 d e r fs w (by grind)) {.bl _,H,I,rfl,?_};rw[show a.toArray.any (zr x)=a.any (zr x) by simp,nq r fs];exact q
 .let{a,r,pl,g}:=I.tuple b
  refine SeqAt.notIn_tupleAt (zr x) pl (λw hw=>k6 d e r fs w (by grind)) {.bl _,H,I,rfl,?_};rw[show a.toArray.any (zr x)=a.any (zr x) by simp,nq r fs];exact q
theorem Inv.fresh(I:Inv X pins σ H s):H s.8=τ:=I.bc.fresh (Zf _)
theorem Er(z:kvs.9<=sizeLine)(hd:(a==ĕ)=false)(rel:KV kvs vs)(dd:h'.DictOf (bG P w) a vs) :
 bT P w g h' a (.dK kvs):=⟨z,hd,vs,rel,dd⟩
theorem Es(l:X.A.units<À):jZ X (Æ .Eq) (PF X.K):=by
 intro m s σ H x y v u Q I C D h
 let{a,b,f,g,rfl,rfl,ha,E,G,J,q}:=h
 cases C;cases D
 let{d,n,o,_}:=I.list ha
 let{c,p,r,_}:=I.list E
 have L:=n.9;have U:=p.9
 by_cases hl:f.9=g.9
 .refine whk (e:=λj=>ph (f.getD j .non) (g.getD j .non)) o.isList r.isList (by simp only[ZB];lia) l (λj M N=>?_) ?_
  .have i:j<d.9:=by simpa using M
   have k:j<c.9:=by simpa using N
   have t:f[j]?=ρ (f.getD j .non):=by rw[Z8];simp[show j<f.length by lia]
   have w:g[j]?=ρ (g.getD j .non):=by rw[Z8];simp[show j<g.length by lia]
   let{O,z,R}:=n.get t
   let{S,B,T}:=p.get w
   have g1:d.toArray[j]=O:=by
    have:d[j]?=ρ d[j]:=by simp[i]
    rw[this]at z;simpa using Zi z
   have g2:c.toArray[j]=S:=by
    have:c[j]?=ρ c[j]:=by simp[k]
    rw[this]at B;simpa using Zi B
   rw[g1,g2];exact pz R T (ZM.mp G _ (Zv t)) (ZM.mp J _ (Zv w))
  .rw[mH hl]at q;refine{.bl _,H,I,rfl,?_};rw[ZB,<-L];exact q
 .refine wf3 o.isList r.isList (by simp only[ZB,bne_iff_ne];lia) l {.bl false,H,I,rfl,?_};rw[xP hl]at q;exact q
end
section
variable{X:Cx}{tg:Expr}
theorem i6{E:Value->Shared->Prop}{Q:Value->Shared->Prop}(I:Inv X g σ H s)(j:Gl X x)(l:X.mg x=ρ u)(h:Q u s)
 (hd:(x==("__debug__":Str))=false:=by decide):wpAny (model X.prog X.w) X.A (eval (.Name x pos) X.5) Q E s:=
 wej I.ok.kind j (Calls.loadGlobal_global (by rw[I.ok.glob];exact I.mod.glob.keeps I.bk) l h) hd
theorem j4{E:Value->Shared->Prop}{Q:Value->Shared->Prop}(I:Inv X g σ H s)(j:Gl X x)(l:X.mg x=τ)(o:ZW x=ρ u)(h:Q u s)
 (hn:x≠"__name__":=by decide) (hd:(x==("__debug__":Str))=false:=by decide):wpAny (model X.prog X.w) X.A (eval (.Name x pos) X.5) Q E s:=by
 let{c,a,b}:=I.mod.blt
 exact wej I.ok.kind j (Calls.loadGlobal_builtin (by rw[I.ok.glob];exact I.mod.glob.keeps I.bk) l (by rw[I.ok.blt];exact a.keeps I.bk) ((b x hn).trans o) h) hd
theorem bV(g:Gl X x)(j:X.mg x=ρ u)(r:RelV v u)(hd:(x==("__debug__":Str))=false:=by decide):PE X (.Name x pos) (tC v):=
 {λ_ _ _ H _ I h=>i6 I g j ⟨v,H,I,r,h⟩ hd}
theorem cw(g:Gl X x)(j:X.mg x=τ)(l:ZW x=ρ u)(r:RelV v u)(hn:x≠"__name__":=by decide)(hd:(x==("__debug__":Str))=false:=by decide):PE X (.Name x pos) (tC v):=
 {λ_ _ _ H _ I h=>j4 I g j l ⟨v,H,I,r,h⟩ hn hd}
theorem Inv.pinned(I:Inv X g σ H s)(l:∀b∈j,rR X g H b)(r:∀b∈j,∃o,s.heap.get? b=ρ o/\∀v,o.data≠.cell v):Inv X (g++rS j s.heap) σ H s:=
 I.Bt λp f=>(ZH.mp f).elim (λz=>I.pin p (ZV _ z)) λz=>by
  let{a,e}:=Cd z
  let{h,f1,f2,_}:=l p.1 a
  let{o,c,d}:=r p.1 a
  rw[e]at c;cases c;exact⟨e,h,f1,f2,d⟩
theorem Et(C:PassesOwn (model X.prog X.w) X.A X.env X.xe)(hc:X.calm=true)(hi:PI X tg iter wi)(hg:PG X tg g)(j:vp X body tb)
 (hs:∀x,č iter X.env x=pure x:=by intro _;rfl):PS X (.For tg iter body [] pos) (MX wi g tb):=by
 refine{?_};intro a s σ H D I h;refine wpAny_For (cj (hi a s σ H _ I h) λv s1 h1=>cj h1 λPY s2 h2=>?_) hs
 let{it,E,tn,J,H2,e,I2,T,R,f2,W,{m0,w0},G}:=h2
 subst e;have k:∀{y:Hp},(∀b∈E,y b=τ)->∀b∈E,rR X a y b:=λhn b j=>{hn b j,(f2 b j).2};refine codeAny_forLoop_any (λn s'=>∃i l y,Inv X a l y s'/\tn i s'.heap/\(∀b∈E,y b=τ)/\W i n l y) ?_ m0 ⟨0,σ,H2,I2,R,λb j=>(f2 b j).1,w0⟩;rintro n s3 ⟨i,p,Q,I3,L,M,w3⟩;rcases G i n p Q w3 with⟨stop,qn⟩ |⟨go,N,hN,step⟩
 .refine Ľ C (cj (T.done X rfl rfl rfl hc i a s3 p Q X.xe I3 (k M) L stop) λr s4 ⟨S,I4⟩=>?_);subst S;exact ņ ⟨p,Q,I4,qn⟩
 .refine Ľ C (cj (T.item X rfl rfl rfl hc i a s3 p Q X.xe I3 (k M) L go) λr s4 ⟨u,S,h4⟩=>?_);subst S;refine Ľ C (cj h4 λ_ s5 ⟨x,H5,I5,r5,y5,B,U⟩=>?_);have V:=I5.pinned (k U) (T.obj _ _ B);refine Ľ C (cj (hg _ s5 p H5 x u _ V r5 (step x H5 y5)) λ_ s6 ⟨Y,H6,I6,q6⟩=>?_);refine Ľ C (cj (j _ s6 Y H6 _ I6 q6) λf Z z=>?_)
  have again:∀{c:St} {q:Hp},Inv X (a++rS E s5.heap) c q Z->N c q->∃m,m<n/\∃i l y,Inv X a l y Z/\tn i Z.heap/\(∀b∈E,y b=τ)/\W i m l y:=λ{c q} t O=>by
   let{m',hm,w7}:=hN c q O
   refine{m',hm,i+1,c,q,t.nr,T.keep _ _ _ B λb j o e=>(t.pin (b,o) (ZV _ (ZV _ (iZ j e)))).1,λb j=>?_,w7}
   let{o,e,d}:=T.obj _ _ B b j
   exact(t.pin (b,o) (ZV _ (ZV _ (iZ j e)))).2.1
  cases f with
  |next=>let{c,q,t,O}:=z;exact again t O
  |cont=>let{c,q,t,O}:=z;exact again t O
  |brk=>let{c,q,t,z}:=z;exact⟨c,q,t.nr,z⟩
  |ret v=>let{x7,c,q,t,r7,z}:=z;exact⟨x7,c,q,t.nr,r7,z⟩
theorem Inv.lst(I:Inv X j σ H s)(h:H p=ρ (.lst xs)) :
 ∃(g:List Value) (n:Nat),Vals xs g/\s.heap.get? p=ρ {cls:=.type "list",data:=.seq g.toArray n}/\xs.9<=sizeLine:=by
 let{z,g,n,r,e}:=I.bc p _ h
 exact⟨g,n,r,e,z⟩
inductive N0(o i v:V)(H:Hp)(Q:Hp->Prop):Prop
 |mk (p xs k j) (_:o=.ref p) (_:i=.int k) (_:H p=ρ (.lst xs)) (_:zj xs.length k=ρ j) (_:Q (upd H p (.lst (xs.set j v))))
def Q7(K:Z6)(T:String)(x:V)(H:Hp):Prop:=match x with
 |.str _=>T="str"
 |.int _=>T="int"
 |.ref p=>(T="list"/\∃xs,aM K H p xs)\/(T="tuple"/\∃o,K.lookup p=ρ o/\o.cls=.type "tuple"/\o.dict=τ) \/
   (T="dict"/\((∃kvs,H p=ρ (.dK kvs))\/∃kvs,H p=ρ (.dT kvs)))\/(T="set"/\∃S n,H p=ρ (.set S n))
 |_=>False
def N1(K:Z6)(T:String)(r:V->List V->Hp->VK->Prop)(to:TE):TE:=λσ H Q=>to σ H λx H1=>Q7 K T x H1/\r x [] H1 Q
def SJ(K:Z6)(T:String)(r:V->List V->Hp->VK->Prop)(to:TE)(t:TA):TE:=λσ H Q=>to σ H λx H1=>Q7 K T x H1/\t σ H1 λxs H2=>r x xs H2 Q
inductive HJ(x:V)(vs:List V)(H:Hp)(Q:VK):Prop
 |mk (l xs y) (_:x=.ref l) (_:vs=[y]) (_:H l=ρ (.lst xs)) (_:xs.9<sizeLine) (_:Q .non (upd H l (.lst (xs++[y]))))
inductive Q8(x:V)(vs:List V)(H:Hp)(Q:VK):Prop
 |mk (l xs y) (_:x=.ref l) (_:vs=[]) (_:H l=ρ (.lst xs)) (_:xs[xs.9-1]?=ρ y) (_:Q y (upd H l (.lst xs.dropLast)))
inductive Q9(x y:V)(H:Hp)(Q:VK):Prop
 |mk (l b xs zs) (_:x=.ref l) (_:y=.ref b) (_:H l=ρ (.lst xs)) (_:H b=ρ (.lst zs)) (_:xs.9+zs.9<=sizeLine) (_:∀p,H p=τ->Q (.ref p) (upd H p (.lst (xs++zs))))
def Only(H:Hp):Prop:=∀b,H b=τ\/∃o xs,H b=ρ (.frz o (.lst xs))
theorem Eu{P:ZC}{w:World}{K:Z6}{mg I:Str->Option Value}{CX:DW}{k:Nat}{J a:Addr}{fd:Ë}{x:Str}{sp:Sp}{g:Shared}{vs:List Value}{ns:List Int}
 (KX:K.In g.heap) (p:g.heap.Ns Ç mg) (j:g.heap.Ns builtinsNs I) (T:∀x:Str,x≠"__name__"->I x=ZW x) (t:g.heap.NoLimit) (hg:g.gens=#[])
 (ha:g.heap.get? a=ρ {cls:=.type "list",data:=.seq vs.6}) (hi:IntsAre vs ns) (hl:ns.9<=sizeLine) (hr:d5 k callerA)
 (F:∀base:Heap,K.In base->base.Ns Ç mg->aW P w K mg base CX k J fd [x] sp) (l:∀(s:Shared) (u:Value),BindsTo s fd {[u],[]} [(x,u)])
 (U:∀H:Hp,Only H->aM K H a (ns.map V.int)->sp [.ref a] H (λv _=>v=.bl true) λ_ _ _=>False)
 (Vf:∀H e s',CX [] H g (λ_ _ _=>False) e s'->False) :
 codeAny (model P w) callerA (.call (.ref J) {[.ref a],[]}) (λr s'=>r=.ok (.ret (.bool true))/\OldK g.heap s'.heap/\s'.os=g.os/\AllBare s'.gens) g:=by
 have G:=ve hi;have f:=hi.9
 have core:∀H:Hp,Only H->aM K H a (ns.map V.int)->j1 P w H g.heap->(∀b,H b≠τ->b=a)->(H a≠τ->K.lookup a=τ) ->
  codeAny (model P w) callerA (.call (.ref J) {[.ref a],[]}) (λr s'=>r=.ok (.ret (.bool true))/\OldK g.heap s'.heap/\s'.os=g.os/\AllBare s'.gens) g:=by
  intro H L O bc M Q;have Bw:∀{b:Addr} {o:Obj},g.heap.get? b=ρ o->H b=τ->(wD g.heap H).get? b=ρ o:=λe n=>E4 e n
  have D:∀{b:Addr} {o:Obj} {i:Array DictEntry} {y:Nat},g.heap.get? b=ρ o->o.data=.dict i y->H b=τ:=λ{b o i y} e d=>by
   cases q:H b with
   |none=>rfl
   |some u=>
    have E:b=a:=M b (by rw[q];simp);subst E;rw[ha]at e;cases e;have R:Data.seq vs.toArray _=Data.dict i y:=d;cases R
  have c:∀{b:Addr} {m:Str->Option Value},g.heap.Ns b m->(wD g.heap H).Ns b m:=λ{b m} ⟨o,i,y,e,d,r⟩=>{o,i,y,Bw e (D e d),d,r}
  have A:K.In (wD g.heap H):=λb o e=>Bw (KX b o e) (by
   cases q:H b with
   |none=>rfl
   |some u=>
    have E:b=a:=M b (by rw[q];simp);subst E
    rw[Q (by rw[q];simp)]at e;cases e)
  have S:Mod K mg (wD g.heap H):={A,c p,{I,c j,T},let ⟨X,Y,Z⟩:=t;{X,c Y,Z}};have e0:zA P w K mg (wD g.heap H) callerA [] g H:={rfl,S,λb o e=>Hn e,Ŷ (Ca _ _),trivial,λb j=>absurd (show b∈([]:List Addr) from j) (by simp),bc,.of_eq hg};refine Þ ((F _ A (c p)).run callerA [] g H {[.ref a],[]} [.ref a] [.ref a] _ _ hr e0 (l g (.ref a)) (.cons rfl .nil) (U H L O)) λr s' h=>?_
  cases r with
  |error e=>exact(Vf H e s' h).elim
  |ok fl=>
   cases fl with
   |next=>exact Ä h
   |brk=>exact Ä h
   |cont=>exact Ä h
   |ret u=>
    let{v,H',os,bare,un,B,r',q}:=h
    have q':v=.bl true:=q;subst q';obtain rfl:u=wfU true:=r';refine{rfl,OldK.of_keep λb o e=>?_,os,bare}
    cases q:H b with
    |none=>exact un.keep b o e q (by intro z;exact absurd (show b∈([]:List Addr) from z) (by simp)) (by simp)
    |some u=>
     rcases L b with z |⟨ob,xs,z⟩
     .rw[q]at z;cases z
     .have z2:=un.nc b ob _ z
      let{N,_}:=bc b _ z
      let{e2,_}:=B b _ z2
      rw[e]at N;cases N;exact e2
 cases hk:K.lookup a with
 |some o=>
  have e:=KX a o hk;rw[ha]at e;cases e;refine core (λ_=>τ) (λ_=>.inl rfl) (.inr {_,vs.6,_,hk,rfl,rfl,rfl,by rw[ZB,f];exact hl,by simpa using G}) (λb u z=>by have C:(τ:Option HO)=ρ u:=z;cases C) (λb z=>absurd rfl z) λz=>absurd rfl z
 |none=>
  refine core (λb=>if b=a then ρ (.frz {cls:=.type "list",data:=.seq vs.6} (.lst (ns.map V.int))) else τ) (λb=>?_) (.inl (.inr {{cls:=.type "list",data:=.seq vs.6},if_pos rfl})) (λb u z=>?_) (λb z=>?_) λ_=>hk
  .by_cases j:b=a
   .exact .inr {_,_,if_pos j}
   .exact .inl (if_neg j)
  .by_cases j:b=a
   .have C:=(if_pos j).symm.trans z;cases C;subst j;exact{ha,by rw[Z4];exact hl,vs,_,G,ha}
   .have C:=(if_neg j).symm.trans z;cases C
  .by_cases j:b=a
   .exact j
   .exact absurd (if_neg j) z
def kh(J:It)(l:Addr)(σf:St)(tt:TT)(te:TE)(H:Hp)(Q:Hp->Prop):Prop:=
 ∃W:Nat->Nat->List V->Hp->Prop,(∃m,W 0 m [] (upd H l (.lst [])))/\∀i m ys H2,W i m ys H2->H2 l=ρ (.lst ys) /\
  ((J.stop i H2/\Q H2)\/(J.go i H2/\ys.9<sizeLine/\∀x H3,J.ur i H2 x H3->tt (ρ x::σf) H3 λb H4=>
    if b=true then te (ρ x::σf) H4 λy H5=>H5 l=ρ (.lst ys)/\∃m',m'<m/\W (i+1) m' (ys++[y]) (upd H5 l (.lst (ys++[y])))
    else ∃m',m'<m/\W (i+1) m' ys H4))
def vt(g:TG)(n:Nat)(J:It)(l:Addr)(σf:St)(tt:TT)(te:TE)(H:Hp)(Q:Hp->Prop):Prop:=
 ∃W:Nat->Nat->List V->Hp->Prop,(∃m,W 0 m [] (upd H l (.lst [])))/\∀i m ys H2,W i m ys H2->H2 l=ρ (.lst ys) /\
  ((J.stop i H2/\Q H2)\/(J.go i H2/\ys.9<sizeLine/\∀x H3 vs,vs.9=n->J.ur i H2 x H3->g x (vs++σf) H3 λσ' H'=>(∃N2,N2.length=n/\σ'=N2++σf)/\tt σ' H' λb H4=>
    if b=true then te σ' H4 λy H5=>H5 l=ρ (.lst ys)/\∃m',m'<m/\W (i+1) m' (ys++[y]) (upd H5 l (.lst (ys++[y])))
    else ∃m',m'<m/\W (i+1) m' ys H4))
theorem By(h:kh J l g j o H Q):vt (dA 0) 1 J l g j o H Q:=
 let ⟨W,a,t⟩:=h
 {W,a,λi m d e w=>let ⟨p,q⟩:=t i m d e w;{p,q.imp id λ⟨a,b,c⟩=>{a,b,λx f k n y=>by revert k;refine zt 1 _ ?_;exact λ_=>{{[ρ x],rfl,rfl},c x f y}}}}
def N3(wi:TI)(ix:List Nat)(tt:TT)(te:TE):TE:=λσ H Q=>wi σ H λJ H1=>∀l,H1 l=τ->kh J l (pick σ ix) tt te H1 (λH2=>Q (.ref l) H2)
def Km(wi:TI)(ix:List Nat)(tt:TT)(te:TE)(i:Nat):TS:=λD σ H=>wi σ H λJ H1=>∀l,H1 l=τ->kh J l (pick σ ix) tt te H1 (λH2=>D.nx (σ.set i (ρ (.ref l))) H2)
theorem cV{Ok:Hp->Prop}{Q:Hp->Prop}(p:V->Bool)(g:V->V)(T:jS J Ok xs)(hl:H l=τ)(hz:xs.9<=sizeLine)(t:∀j,a8 H j->Ok j)
 (U:∀x r C,x∈xs->a8 H r->(∀j,a8 r j->C (p x) j)->tt (ρ x::I) r C)
 (he:∀x r C,x∈xs->p x=true->a8 H r->(∀j,a8 r j->C (g x) j)->te (ρ x::I) r C)
 (hd:∀j,a8 H j->j l=ρ (.lst ((xs.filter p).map g))->Q j):kh J l I tt te H Q:=by
 refine{λi m n d=>m=xs.9-i/\i<=xs.9/\a8 H d/\d l=ρ (.lst n)/\n=((xs.take i).filter p).map g,{xs.9,by simp,ZE _,a8.upd hl,a7,by simp},?_};rintro i m n d ⟨rfl,hi,c,h,k⟩;refine{h,?_}
 by_cases a:i<xs.9
 .refine .inr {T.go i d (t _ c) a,?_,λx r y=>?_}
  .rw[k,Z4];refine ß (ă _ _) ?_;rw[Zq];omega
  .let{e,s}:=T.ur i d x r (t _ c) a y
   subst e;have mem:x∈xs:=Zv s;have u:xs.take (i+1)=xs.take i++[x]:=by rw[Ô,s];rfl
   refine U x _ _ mem c λw f=>?_
   cases q:p x with
   |false=>
    rw[if_neg Zu];refine{xs.9-(i+1),1.0,rfl,a,c.trans f,f _ _ h,?_};rw[u,Ĉ,k];simp[q]
   |true=>
    rw[if_pos rfl];refine he x _ _ mem q (c.trans f) λz v=>?_;refine{v _ _ (f _ _ h),xs.9-(i+1),1.0,rfl,a,?_,a7,?_}
    .intro b o e;rw[af (aa e hl)];exact v _ _ (f _ _ (c _ _ e))
    .rw[u,Ĉ,k];simp[q]
 .have e:i=xs.9:=1.0;subst e;refine .inl {T.stop d (t _ c),hd d c ?_};rw[h,k,ZI]
theorem xX{Ok:Hp->Prop}{Q:Hp->Prop}(R:V->Prop)(r:jS J Ok xs)(hl:H l=τ)(hz:xs.9<=sizeLine)(j:∀g,a8 H g->Ok g)
 (he:∀x p C,x∈xs->a8 H p->(∀y g,R y->a8 p g->C y g)->I (ρ x::t) p C)
 (hd:∀ys g,a8 H g->ys.9=xs.9->(∀y∈ys,R y)->g l=ρ (.lst ys)->Q g):kh J l t rV I H Q:=by
 refine{λi m ys a=>m=xs.9-i/\i<=xs.9/\a8 H a/\a l=ρ (.lst ys)/\ys.9=i/\∀y∈ys,R y,{xs.9,by simp,ZE _,a8.upd hl,a7,rfl,λy f=>(nomatch f)},?_};rintro i m ys a ⟨rfl,hi,d,h,k,n⟩;refine{h,?_}
 by_cases c:i<xs.9
 .refine .inr {r.go i a (j _ d) c,(),λx p y=>?_}
  let{e,u}:=r.ur i a x p (j _ d) c y
  subst e;delta rV;dsimp only;rw[if_pos rfl];refine he x _ _ (Zv u) d λz v hz s=>?_;refine{s _ _ h,xs.9-(i+1),(),rfl,c,?_,a7,by simp[k],λy f=>?_}
  .intro b o e;rw[af (aa e hl)];exact s _ _ (d _ _ e)
  .rcases ZH.mp f with q |q
   .exact n y q
   .have:y=z:=by simpa using q
    subst this;exact hz
 .have e:i=xs.9:=();subst e;exact .inl {r.stop a (j _ d),hd ys a d k n h}
set_option genInjectivity true in
inductive gi where
 |at (v:V)
 |tup (ds:List gi)
 |lst (ds:List gi)
mutual
def bh(K:Z6)(H:Hp):gi->V->Prop
 |.at x,v=>v=x/\mG x=true
 |.tup ds,v=>∃a xs,v=.ref a/\H a=ρ (.tup xs)/\aQ K H ds xs
 |.lst ds,v=>∃a xs,v=.ref a/\Rd H a (.lst xs)/\aQ K H ds xs
def aQ(K:Z6)(H:Hp):List gi->List V->Prop
 |[],xs=>xs=[]
 |d::ds,xs=>∃v vs,xs=v::vs/\bh K H d v/\aQ K H ds vs
end
mutual
noncomputable def dep:gi->Nat
 |.at _=>0
 |.tup ds=>j5 ds+1
 |.lst ds=>j5 ds+1
noncomputable def j5:List gi->Nat
 |[]=>0
 |d::ds=>max (dep d) (j5 ds)
end
noncomputable def JC(q:Str×Str):gi:=.tup [.at (.str q.1),.at (.str q.2)]
theorem aQ.mL{K:Z6}{H:Hp}:∀(g:List gi) (ys:List V),g.9=ys.9->(∀(i:Nat) (d:gi) (y:V),g[i]?=ρ d->ys[i]?=ρ y->bh K H d y)->aQ K H g ys
 |[],[],_,_=>rfl
 |[],_::_,h,_=>by simp at h
 |_::_,[],h,_=>by simp at h
 |d::g,y::ys,h,r=>{y,ys,rfl,r 0 d y rfl rfl,aQ.mL g ys (by simpa using h) λi a b c e=>r (i+1) a b c e}
theorem aQ.get{K:Z6}{H:Hp}:∀{g:List gi} {xs:List V},aQ K H g xs->∀(i:Nat) (x:V),xs[i]?=ρ x->∃d,g[i]?=ρ d/\bh K H d x
 |[],_,h,i,x,e=>by
  rw[show _=[] from h]at e;simp at e
 |d::g,_,h,i,x,e=>by
  let{v,b,rfl,a,hl}:=h
  cases i with
  |zero=>cases e;exact⟨d,rfl,a⟩
  |succ i=>exact aQ.get hl i x e
theorem cW{K:Z6}{H:Hp}{d:gi}{v:V}:∀{g:List gi} {xs:List V},aQ K H g xs->bh K H d v->aQ K H (g++[d]) (xs++[v])
 |[],xs,h,r=>by
  have e:xs=[]:=h;subst e;exact{v,[],rfl,r,rfl}
 |c::g,_,h,r=>by
  let{v0,a,rfl,b,hl}:=h
  exact{v0,a++[v],rfl,b,cW hl r}
theorem aQ.pick{K:Z6}{H:Hp}(p:Nat->Bool):∀(k:Nat) (g:List gi) (xs:List V),aQ K H g xs->aQ K H (bg p k g) (bg p k xs)
 |_,[],xs,h=>by
  have e:xs=[]:=h;subst e;rfl
 |k,d::g,_,h=>by
  let{v,a,rfl,c,hl}:=h
  have b:=aQ.pick p (k+1) g a hl;show aQ K H (if p k then d::bg p (k+1) g else bg p (k+1) g) (if p k then v::bg p (k+1) a else bg p (k+1) a)
  cases p k with
  |true=>exact{v,_,rfl,c,b}
  |false=>exact b
theorem aQ.set{K:Z6}{H:Hp}{d:gi}{v:V}:∀{g:List gi} {xs:List V},aQ K H g xs->∀i:Nat,bh K H d v->aQ K H (g.set i d) (xs.set i v)
 |[],xs,h,i,r=>by
  have e:xs=[]:=h;subst e;exact h
 |c::g,_,h,0,r=>by
  let{v0,a,rfl,b,hl}:=h
  exact⟨v,a,rfl,r,hl⟩
 |c::g,_,h,i+1,r=>by
  let{v0,a,rfl,b,hl}:=h
  exact{v0,a.set i v,rfl,b,aQ.set hl i r}
theorem jv:entryFor table "set.__iter__"=ρ È.«frozenset.__iter__»:=entryFor_alias (id':="frozenset.__iter__") (by kernel_rfl) rfl ∅ (by kernel_rfl)
def sy(h:Heap)(a:Addr)(es:Array (Int×Value))(ep:Nat)(t:Ã):Prop:=∃o,h.get? a=ρ o/\o.ExactSet/\o.data=.set es ep t
end
section
variable{X:Cx}{pins:List (Addr×Obj)}{σ:List (Option V)}{H:Hp}{s:Shared}{h':Heap}
theorem Inv.lt(I:Inv X pins σ H s):X.env.locals<s.8:=let ⟨_,hn,_⟩:=I.loc;hn.lt
theorem Inv.sz(I:Inv X pins σ H s):X.s₀.8<=s.8:=Zn I.ok.above (weQ I.lt)
theorem Inv.Qa(I:Inv X pins σ H s)(h:s.8<=a):a∉X.fs:=λb=>by
 let{_,o,c,_}:=I.ok.ng.mem b
 exact absurd (Zx (Zg c) (Zn I.sz h)) (Ø _)
theorem Inv.turned{t':Nat}{it:Addr}(I:Inv X pins σ H s)(k:∀b o,b≠it->s.heap.get? b=ρ o->h'.get? b=ρ o)(hn:H it=τ)(g:it≠X.env.locals)
 (j:it∈X.ex\/X.s₀.8<=it) (l:∀x c,X.env.cells.lookup x=ρ c->c≠it) (t:∀p∈X.pn++pins,p.1≠it):Inv X pins σ H {s with heap:=h',toks:=t'}:=by
 have a:∀b u,H b=ρ u->b≠it:=λb u e z=>by rw[z,hn]at e;cases e
 refine I.step (g':=s.gens) (d':=s.drawn) (ch:=[it]) (λb d=>?_) (λb o _ _ hc e _=>k b o (λz=>hc (by simp[z])) e) (λb o _ _ hc e _=>{o.slots,k b o (λz=>hc (by simp[z])) e}) (λ_ _ _ _ n=>n)
  (λb o hc e=>{o,k b o (λz=>hc (by simp[z])) e}) (λ_ _ e=>e) (λ_ _ _ e=>e) (λb ps e=>{#[],by rw[e];simp}) (λm f=>?_) (λb u e=>?_) I.bare
 .have e:b=it:=by simpa using d
  subst e;exact⟨j,g,l,t⟩
 .let{o,h,i,w,r}:=f
  exact{o,h,i,k _ o (Á g) w,r}
 .refine(I.bc b u e).qX (λc v hc q=>k c v ?_ q) (λ_ q=>q) λ_ _ q=>q;rcases hc with z |z
  .rw[z];exact a b u e
  .exact a c _ z
theorem vv{M:Model}{A:Around}{E:Value->Shared->Prop}{i:Nat}{x:Str}{v:V}{u:Value}{Q:Unit->Shared->Prop}(I:Inv X pins σ H s)(hN:X.N.Nodup)(hi:X.N[i]?=ρ x)(t:Loc X.env.scope x)(r:RelV v u)
 (h:∀s',Inv X pins (σ.set i (ρ v)) H s'->(∃a,ć a s.heap s'.heap/\(a=X.env.locals\/X.env.cells.lookup x=ρ a))->Q .unit s') (hf:X.fn x=true\/X.env.scope.names.lookup x=ρ .local:=by first |exact .inl rfl |exact .inr rfl |assumption):wpAny M A (storeName X.env x u) Q E s:=by
 let{m,hn,hl}:=id I.loc
 have L:(X.env.scope.kind == .class ||(X.env.scope.kind == .module&&X.env.locals != X.env.globals))=false:=by rw[I.ok.kind];rfl
 have hiσ:i<σ.9:=by rw[I.len];exact(Za.mp hi).1
 have Cp:=I.Cp
 have g:∀{a:Addr} {h':Heap},(∃o,s.heap.get? a=ρ o/\H a=τ)->ć a s.heap h'->j1 X.prog X.w H h':=λ{a h'} ha f b ob e=>by
  let{_,_,B}:=ha
  refine(I.bc b ob e).qX (λc U hc q=>(f.2 c ?_).trans q) (λ_ q=>q) λ_ _ q=>q;rintro rfl;rcases hc with rfl |hc
  .rw[B]at e;cases e
  .rw[B]at hc;cases hc
 rcases t with hk |hk
 .refine wpAny_storeName_local hk hn (λh' Z f=>?_) L
  let{oL,_,_,Vg,_}:=id hn
  refine h _ {I.ok,I.os,I.bare,{λb o e n D t=>?_,λb o e n D t=>?_,I.base.free,λb o e t=>?_,I.base.pj,I.base.nc,I.base.pk},{_,Z,λj y v' l C e3=>?_},λy c e=>?_,I.free,I.gz,λp hp=>?_,g ⟨oL,Vg,I.free⟩ f,by simpa using I.len} {_,f,.inl rfl}
  .exact(f.2 b (Zt (Zx (Zg e) I.ok.above))).trans (I.base.keep b o e n D t)
  .let{sl,l}:=I.base.slot b o e n D t
   exact{sl,(f.2 b (Zt (Zx (Zg e) I.ok.above))).trans l}
  .let{o',l}:=I.base.there b o e t
   exact{o',(f.2 b (Zt (Zx (Zg e) I.ok.above))).trans l}
  .by_cases G:j=i
   .subst G;rw[hi]at l;cases l;rw[ŋ hiσ]at C;cases C;exact{u,r,.inl {hk,by simp}}
   .rw[Ś (Á G)]at C
    let{u',r',q}:=hl j y v' l C e3
    refine{u',r',?_};rcases q with⟨k,e⟩ |⟨k,c,e,z⟩
    .refine .inl {k,?_};have:y≠x:=λe=>G (rQ hN l (e ▸ hi));simp[this,e]
    .exact .inr {k,c,e,z.sameBut f (Cp y c e)}
  .let{U,z}:=I.cell y c e
   exact{U,z.sameBut f (Cp y c e)}
  .let{e,n,ne,nf,d}:=I.pin p hp
   exact{(f.2 p.1 ne).trans e,n,ne,nf,d}
 .have J:X.fn x=true:=by
   rcases hf with z |z
   .exact z
   .rw[z]at hk;cases hk
  let{c,hc}:=I.ok.has x (.inl hk)
  let{U,z}:=I.cell x c hc
  refine wpAny_storeName_cell I.ok.kind hk hc z (λh' O f=>?_)
  let{oc,R,S}:=id z
  refine h {s with heap:=h'} {I.ok,I.os,I.bare,{λb o e n D t=>?_,λb o e n D t=>?_,I.base.free,λb o e t=>?_,I.base.pj,I.base.nc,I.base.pk},{m,hn.sameBut f (Á (Cp x c hc)),λj y v' l C e3=>?_},λy Y e=>?_,I.free,I.gz,λp hp=>?_,g {oc,R,I.gz x c hc} f,by simpa using I.len} {c,f,.inr hc}
  .exact(f.2 b (Zt (Zx (Zg e) (I.ok.K3 x c J hc)))).trans (I.base.keep b o e n D t)
  .let{sl,l}:=I.base.slot b o e n D t
   exact{sl,(f.2 b (Zt (Zx (Zg e) (I.ok.K3 x c J hc)))).trans l}
  .let{o',l}:=I.base.there b o e t
   exact{o',(f.2 b (Zt (Zx (Zg e) (I.ok.K3 x c J hc)))).trans l}
  .by_cases G:j=i
   .subst G;rw[hi]at l;cases l;rw[ŋ hiσ]at C;cases C;exact{u,r,.inr {.inl hk,c,hc,O}}
   .rw[Ś (Á G)]at C
    let{u',r',q}:=hl j y v' l C e3
    refine{u',r',?_};rcases q with q |⟨k,Y,e,z'⟩
    .exact .inl q
    .refine .inr {k,Y,e,z'.sameBut f ?_};rintro rfl;exact G (rQ hN l (I.ok.inj _ _ _ e hc ▸ hi))
  .by_cases T:Y=c
   .subst T;exact{_,O}
   .let{w2,z2}:=I.cell y Y e
    exact{w2,z2.sameBut f T}
  .let{e,n,ne,nf,d}:=I.pin p hp
   refine{(f.2 p.1 ?_).trans e,n,ne,nf,d};intro q;rw[q,R]at e;have q':oc=p.2:=Zi e;exact d U (by rw[<-q'];exact S)
theorem iJ{E:Value->Shared->Prop}{Q:Unit->Shared->Prop}(I:Inv X pins σ H s)(g:X.N.Nodup)(hi:X.N[i]?=ρ x)(j:Loc X.env.scope x)(r:RelV v u)
 (h:∀s',Inv X pins (σ.set i (ρ v)) H s'->Q .unit s') (l:X.fn x=true\/X.env.scope.names.lookup x=ρ .local:=by first |exact .inl rfl |exact .inr rfl |assumption):wpAny M A (storeName X.env x u) Q E s:=
 vv I g hi j r (λs' a _=>h s' a) l
theorem Cq{P:ZC}{w:World}{K:Z6}{T:Expr}(a it:Addr):Turn P w K T (M0 K a) [it] it (λi h=>h.IsListIter it a i) where
 mem:=by simp
 obj:=λi h st b g=>by
  have e:b=it:=by simpa using g
  subst e
  let{o,e,c,d}:=st
  exact{o,e,λv z=>by rw[d]at z;cases z}
 keep:=λi h l st k=>st.at λo e=>k it (by simp) o e
 item:=by
  intro X q hw r hc i f s σ H E I m st t;subst q hw r
  let{L,x,n,y}:=t
  let{A,B,p,M}:=I.list n
  let{u,N,O}:=B.get y
  let{C,f1,f2,D,G,J}:=m it (by simp)
  refine wpAny_pyNext_list_item st p.isList (x:=u) (by simpa using N) λl j sb=>?_;have Q:Inv X f σ H {s with heap:=l}:=I.turned (t':=s.toks) (λb o g e=>(sb.2 b g).trans e) C f1 D G J
  let{o,e,c,d}:=id j
  exact{u,rfl,Bg (s:={s with heap:=l}) e c d ⋯ {x,H,Q,O,{rfl,λU R=>by rw[I.sv R n];exact y},j,λb g=>(m b g).1}}
 done:=by
   intro X q hw r hc i f s σ H E I m st t;subst q hw r
   let{L,n,y}:=t
   let{A,B,p,M}:=I.list n
   let{C,f1,f2,D,G,J}:=m it (by simp)
   have hl:=B.9;exact wpAny_pyNext_list_end (I.ok.hd hc) st p.isList (by simp;lia) λl S=>{rfl,I.turned (t':=s.toks) (λb o g e=>S b o g e) C f1 D G J}
 self:=λ_ _ _ _ _ st h=>wpAny_pyIter_listiter st h
theorem zE{P:ZC}{w:World}{K:Z6}{C:Expr}(it:Addr)(lo:Int)(n:Nat):Turn P w K C (Jr lo n) [it] it (λi h=>IsRangeIter h it (lo+(i:Nat)*1) ((n:Int)-(i:Nat)) 1) where
 mem:=by simp
 obj:=λi h st b c=>by
  have e:b=it:=by simpa using c
  subst e
  exact{_,st,λv z=>by
   have y:wh2 _=whw v:=z
   cases y}
 keep:=λi h f st k=>k it (by simp) _ st
 item:=by
  intro X j hw l hc i a s σ H E I g st m;subst j hw l
  let{p,f1,f2,q,r,u}:=g it (by simp)
  have A:=Walks.range (prog:=X.prog) (w:=X.w) (I.ok.hd hc) it lo 1 n;refine A.item i s _ _ m st λv f x B d D=>?_
  let{t,rfl}:=B
  have G:Inv X a σ H {s with heap:=f,toks:=x}:=I.turned (λb o c e=>D b o (by simpa using c) e) p f1 q r u;refine{1,Bg (s:={s with heap:=f,toks:=x}) (n:="range_iterator") d rfl rfl ⋯ {.int (lo+i),H,G,{t,?_},⟨rfl,rfl⟩,d,λb c=>(g b c).1}};rw[Int.mul_one]
 done:=by
   intro X j hw l hc i a s σ H E I g st m;subst j hw l
   let{p,f1,f2,q,r,u}:=g it (by simp)
   exact wpAny_pyNext_range_end (I.ok.hd hc) st (by have:n<=i:=m;lia) λf J=>{rfl,I.turned (t':=s.toks) (λb o c e=>J b o c e) p f1 q r u}
 self:=λ_ _ _ _ _ st h=>wpAny_pyIter_rangeiter st h
set_option genInjectivity true in
inductive dD(K:Z6)(H:Hp):V->Value->Prop where
 |non:dD K H .non (.type "NoneType")
 |bl (x:Bool):dD K H (.bl x) (.type "bool")
 |int (i:Int):dD K H (.int i) (.type "int")
 |str (x:Str):dD K H (.str x) (.type "str")
 |flt (x:UInt64):dD K H (.flt x) (.type "float")
 |lst {a:Addr} {xs:List V} (e:H a=ρ (.lst xs)):dD K H (.ref a) (.type "list")
 |frz {a:Addr} {o:Obj} {xs:List V} (e:H a=ρ (.frz o (.lst xs))):dD K H (.ref a) (.type "list")
 |tup {a:Addr} {xs:List V} (e:H a=ρ (.tup xs)):dD K H (.ref a) (.type "tuple")
 |dK {a:Addr} {kvs:List (Key×V)} (e:H a=ρ (.dK kvs)):dD K H (.ref a) (.type "dict")
 |dT {a:Addr} {kvs:List (List Key×V)} (e:H a=ρ (.dT kvs)):dD K H (.ref a) (.type "dict")
 |ins {a C dx:Addr} {fs:List (Str×V)} (e:H a=ρ (.ins C dx fs)) (cl:z8 K C) (ha:Û K (.ref C) "__class__"=ρ (ρ (.builtin "object.__class__")))
   (hn:wgK K (.builtin "object.__class__") "__get__"=ρ (ρ (.builtin "getset_descriptor.__get__"))) (lB:PySem.W.takesIn K (.builtin "object.__class__")=ρ true)
   (hm:Ε K C (.type "object")=ρ true):dD K H (.ref a) (.ref C)
inductive Vh(K:Z6)(b:Bool)(x y:V)(H:Hp)(Q:VK):Prop
 |mk (ds) (_:j5 ds<=50) (_:((bh K H (.lst ds) x/\bh K H (.lst ds) y)\/(bh K H (.tup ds) x/\bh K H (.tup ds) y))) (_:Q (.bl b) H)
structure jw(t:Ã)(n:Nat):Prop where
 sz:t.place.size=n
 up:zq t.place
 du:t.dummies=#[]
theorem i7(t:Ã)(n:Nat):jw (t.standIn n) n:={by unfold SetTable.standIn;simp,zy n,rfl}
def jU{prog:ZC}{w:World}(h:Heap)(a:Addr)(S:Int->Bool)(n:Nat)(led:Bool):Prop:=
 ∃o es ep t,h.get? a=ρ o/\o.ExactSet/\o.data=.set es ep t/\ElemsOf (Ò prog w) es.toList/\(∀k,S k=true↔∃e∈es.toList,(Ò prog w).is k e.2=true)/\es.size<É/\t.fits es.size=true/\es.size=n/\jw t es.size/\t.led=led
end
section
variable{t u:TS}
def N4(t u:TS):TS:=λD σ H=>t (D.Em (u D)) σ H
def Qb(c:TT)(t u:TS):TS:=λD σ H=>c σ H λb H1=>if b=true then t D σ H1 else u D σ H1
theorem Inv.Cr{X:Cx}(I:Inv X g σ H s)(j:s.8<=b)(hn:l b=τ):rR X g l b:=by
 refine{hn,ö (Zx I.lt j),I.Qa j,.inr (Zn I.sz j),λx c e z=>?_,λp a z=>?_}
 .let{v,q}:=I.cell x c e
  exact absurd (Zx q.lt (by rw[z];exact j)) (Ø _)
 .exact absurd (Zx (Zg (I.pin p a).1) (by rw[z];exact j)) (Ø _)
theorem xY{X:Cx}(I:Inv X j σ H s)(g:dI H a y o):s.TypeIs (.ref a) "dict":=by
 rcases g with⟨c,k,e,_,_⟩ |⟨c,k,b,e,_,_,_⟩
 .let{_,_,f,_,d}:=kg I.bc e
  exact d.typeIs
 .let{_,_,h,_,d}:=xW I.bc e
  exact d.typeIs
theorem fg{X:Cx}{K:Z6}(g:X.K=K):jZ X (Æ .In) (Ol K false):=by
 subst g;exact vr
theorem lV{X:Cx}{K:Z6}(g:X.K=K):jZ X (Æ .NotIn) (Ol K true):=by
 subst g;exact j3
theorem dU{X:Cx}{K:Z6}(g:X.K=K):M3 X (MC K):=by
 subst g;exact bA
inductive Qc(t u:TS)(D:Ends)(σ:St)(H:Hp):Prop
 |mk (Z) (_:t (D.Em Z) σ H) (_:∀σ' H',Z σ' H'->u D σ' H')
theorem vx{X:Cx}(g:Br X E):Passes (z9 X.prog X.w) X E:=λa σ H s k d I h=>by
 let{e,C,f,i,rfl,c,bare,un,bc,F,j}:=h
 exact g a σ i d e C f (I.vo c un bc bare λb z=>absurd z (by simp)) (F.low I.sz) j
theorem zF{X:Cx}(I:Inv X g σ H s)(e:H d=ρ (.frz o (.dK kvs)))(j:o.data=.dict p ep) :
 ∃vs,KV kvs vs/\s.heap.DictAt (bG X.prog X.w) d vs ep:=by
 let{f,_}:=I.bc d _ e
 let{_,_,vs,rel,h,a,i,b,k,c,l}:=kg I.bc (.inr ⟨o,e⟩)
 refine{vs,rel,h,a,b,k,?_,l};rw[f]at b;cases b;rw[c]at j;cases j;exact c
end
section
variable{X:Cx}{e:Expr}{es:List Expr}{te:TE}{t:TJ}{pos:Pos}
theorem bH(he:PE X e te)(hs:ë e τ pos.line X.5=pure false:=by rfl):PS X (.Expr e pos) (MV te):=by
 refine{?_};intro a s σ H D I h;exact wpAny_Expr_any (cj (he a s σ H _ I h) λv f ⟨x,b,c,g,d⟩=>⟨σ,b,c,d⟩) I.quiet hs
theorem ao(he:PE X e te):PS X (.Return (ρ e) pos) (Q1 te):=by
 refine{?_};intro a s σ H D I h;exact wpAny_Return_some (cj (he a s σ H _ I h) λv g ⟨x,b,c,d,f⟩=>⟨x,σ,b,c,d,f⟩)
theorem j6(g:X.N.Nodup)(hi:X.N[i]?=ρ x)(j:Loc X.env.scope x)(l:X.fn x=true\/X.env.scope.names.lookup x=ρ .local:=by first |exact .inl rfl |exact .inr rfl |assumption):PG X (.Name x pos) (dA i):=by
 refine{?_};intro a s σ H v u Q I r h;exact wpAny_assign_Name (iJ I g hi j r (λc b=>{_,H,b,h}) l)
theorem cx(h:PE X e te):PO X (ρ e) (MB te):=by
 refine{?_};intro a s σ H Q I hw;rw[evalPart_some];refine cj (h a s σ H _ I hw) λu g ⟨x,b,c,d,f⟩=>?_
 let{i,rfl,q}:=f
 let{t,rfl}:=d
 exact{ρ i,b,c,.int i t,q}
noncomputable def Qe(z:Str)(t:TJ):TJ:=λacc σ H Q=>(acc++z).9<=sizeLine/\t (acc++z) σ H Q
noncomputable def Qf(te:TE)(t:TJ):TJ:=λacc σ H Q=>te σ H λv H1=>(∃i,v=.int i/\i.natAbs.log2<1920/\(acc++(toString i:String)).length<=sizeLine/\t (acc++(toString i:String)) σ H1 Q)\/(∃z,v=.str z/\z.9<=sizeLine/\(acc++z).9<=sizeLine/\t (acc++z) σ H1 Q)
theorem HK(h:PJ X (e::g::es) t):PE X (.JoinedStr (e::g::es) pos) (λσ H Q=>t Str.empty σ H λz j=>Q (.str z) j):={λa s σ H Q I q=>
 JoinedStr_many (cj (h a s σ H _ _ I q) λu f ⟨z,b,c,r,d⟩=>{.str z,b,c,r,d})}
theorem forA(hi:PI X j iter l)(r:PG X j g)(I:vp X body J)(T:PassesOwn (model X.prog X.w) X.A X.env X.xe:=by exact Ŗ)(hc:X.calm=true:=by rfl)(hs:∀x,č iter X.env x=pure x:=by intro _;rfl):PS X (.For j iter body [] pos) (MX l g J):=Et T hc hi r I hs
end
section
variable{X:Cx}{pins:List (Addr×Obj)}{σ:St}{H:Hp}{s:Shared}{E:Value->Shared->Prop}
theorem Inv.nh(I:Inv X pins σ H s)(E:Value->Shared->Prop):Inv (X.nh E) pins σ H s:={I.ok.nh E,I.os,I.bare,I.base,I.loc,I.cell,I.free,I.gz,I.pin,I.bc,I.len}
theorem Inv.gm(I:Inv (X.nh E) pins σ H s):Inv X pins σ H s:=⟨I.ok.gm,I.os,I.bare,I.base,I.loc,I.cell,I.free,I.gz,I.pin,I.bc,I.len⟩
theorem SP.gm(h:SP (X.nh E) pins D f s'):SP X pins D f s':=by
 cases f with
 |next=>let{a,b,I,q}:=h;exact⟨a,b,I.gm,q⟩
 |brk=>let{a,b,I,q}:=h;exact⟨a,b,I.gm,q⟩
 |cont=>let{a,b,I,q}:=h;exact⟨a,b,I.gm,q⟩
 |ret u=>let{v,a,b,I,r,q}:=h;exact⟨v,a,b,I.gm,r,q⟩
theorem vp.Hs{st:List Stmt}{t:TS}(h:vp X.Hs st t):vp X st t:={λpins s σ H D I hw=>
 Å (h pins s σ H D (I.nh _) hw) (λ_ _ q=>q.gm) λ_ _ z=>Ä z}
theorem Inv.HL(I:Inv X pins σ H s):zA X.prog X.w X.K X.mg X.base X.A X.stack s H:=
 {I.ok.frames,I.ok.mod,I.bs,Zn I.ok.E5 I.sz,I.stack,I.rE,I.bc,I.bare}
theorem Inv.big(I:Inv X pins σ H s):ĕ<s.8:=by
 have h:Ç<s.8:=(I.mod.glob.keeps I.bk).lt;exact Nat.lt_trans ⋯ h
end
section
variable{X:Cx}{a b:Expr}{pos:Pos}{tA Ou:TT}{rest:List Expr}
theorem Ew(ha:PT X a tA)(j:PW X (.BoolOp .And (b::rest) pos) Ou):PW X (.BoolOp .And (a::b::rest) pos) (Pj tA Ou):=by
 refine{?_};intro i d s σ H Q I h;refine isTrue_and (cj (ha d s σ H _ I h) λc k ⟨e,f,g⟩=>?_)
 cases c with
 |true=>exact j i d k σ e Q f g
 |false=>exact⟨e,f,g⟩
theorem cp(ha:PT X a tA)(j:PW X (.BoolOp .Or (b::rest) pos) Ou):PW X (.BoolOp .Or (a::b::rest) pos) (UX tA Ou):=by
 refine{?_};intro i d s σ H Q I h;refine isTrue_or (cj (ha d s σ H _ I h) λc k ⟨e,f,g⟩=>?_)
 cases c with
 |true=>exact⟨e,f,g⟩
 |false=>exact j i d k σ e Q f g
theorem Kn{i:Nat}{x:Str}{e:Expr}{j:TE}{g:Pos}(l:X.N.Nodup)(hi:X.N[i]?=ρ x)(o:Loc X.env.scope x)(he:PE X e j)(hs:ë e (ρ (.Name x g)) pos.line X.5=pure false:=by rfl)(p:X.fn x=true\/X.env.scope.names.lookup x=ρ .local:=by first |exact .inl rfl |exact .inr rfl |assumption) :
 PS X (.Assign [.Name x g] e pos) (Kk j (dA i)):=by
 refine{?_};intro a s σ H D I h;refine wex (cj (he a s σ H _ I h) λv m ⟨y,b,c,d,f⟩=>?_) hs;exact iJ c l hi o d (λn k=>{_,b,k,f}) p
theorem wM{i:Nat}{x:Str}{e:Expr}{o:TE}{op:Operator}{p:Mt}{g:Pos}(t:X.N.Nodup)(hi:X.N[i]?=ρ x)(j:Loc X.env.scope x)(he:PE X e o)(C:PX X op p)(J:X.fn x=true\/X.env.scope.names.lookup x=ρ .local:=by first |exact .inl rfl |exact .inr rfl |assumption) :
 PS X (.AugAssign (.Name x g) op e pos) (Q6 i o p):=by
 refine{?_};intro a s σ H D I h
 let{v,q,h}:=h
 let{m,hn,hl}:=I.loc
 have n:LY X.env.scope x:=by rcases j with k |k;exact .inl k;exact .inr (.inl k)
 let{u,r,l}:=hl i x v hi q n
 refine wpAny_AugAssign_Name ?_
 have go:wpAny (model X.prog X.w) X.A (eval e X.5) (λw d=>wpAny (model X.prog X.w) X.A (inplaceOp op u w) (λr f=>wpAny (model X.prog X.w) X.A (storeName X.env x r) (λ_=>SP X a D .next) X.xe f) X.xe d) X.xe s:=by
  refine cj (he a s σ H _ I h) λw B ⟨y,E,G,L,M⟩=>?_;refine cj (C a B σ E v y u w _ G r L M) λz V ⟨Y,O,Q,R,S⟩=>?_;exact iJ Q t hi j R (λZ T=>{_,O,T,S}) J
 rcases l with⟨hk,U⟩ |⟨hk,c,hc,b⟩
 .exact wfV I.ok.kind hk hn U go
 .rcases hk with hk |hk
  .exact wgh I.ok.kind hk hc b go
  .rcases j with k |k
   .have:X.env.scope.names.lookup x=ρ .free:=hk;rw[k]at this;cases this
   .have:X.env.scope.names.lookup x=ρ .free:=hk;rw[k]at this;cases this
theorem Ex(I:Inv X g σ H s)(r:RelV x v)(ty:Q7 X.K T x H) :
 s.TypeIs v T/\∀a,v=.ref a->∃ob,s.heap.get? a=ρ ob/\ob.dict=τ:=by
 cases x with
 |str z=>
  let{t,rfl}:=r
  cases(show T="str" from ty);exact{typeIs_str s z t,λ_ e=>nomatch e}
 |int i=>
  let{t,rfl}:=r
  cases(show T="int" from ty);exact{typeIs_int s i t,λ_ e=>nomatch e}
 |ref p=>
  cases r;rcases ty with⟨rfl,j,f⟩ |⟨rfl,o,hk,hc,hd⟩ |⟨rfl,hk⟩ |⟨rfl,S,n,hk⟩
  .let{h,_,pl,_}:=I.list f
   refine{pl.isList.typeIs,λa e=>?_};cases e
   let{o,n,e,c,hd,_}:=pl
   exact⟨o,e,hd⟩
  .refine{{o,I.gE p o hk,hc},λa e=>?_};cases e;exact{o,I.gE _ o hk,hd}
  .have z:∃o,s.heap.get? p=ρ o/\o.ExactDict:=by
    rcases hk with⟨b,hk⟩ |⟨b,hk⟩
    .let{_,_,_,_,o,_,_,e,ex,_}:=I.bc p _ hk
     exact⟨o,e,ex⟩
    .let{_,_,_,_,o,_,_,e,ex,_}:=I.bc p _ hk
     exact⟨o,e,ex⟩
   let{o,e,ex}:=z
   refine{⟨o,e,ex.1⟩,λa d=>?_};cases d;exact⟨o,e,ex.2.1⟩
  .let{o,_,_,_,e,ex,_}:=I.bc p _ hk
   refine{⟨o,e,ex.1⟩,λa d=>?_};cases d;exact⟨o,e,ex.2.1⟩
 |_=>exact Ä ty
theorem AP.gm{E:Value->Shared->Prop}{Q:List V->Hp->Prop}(h:AP (X.nh E) g σ Q us s'):AP X g σ Q us s':=by
 let{a,b,I,r,q}:=h
 exact⟨a,b,I.gm,r,q⟩
end
section
variable{prog:ZC}{w:World}
theorem xZ{X:Cx}{g:List (Addr×Obj)}{σ:St}{H:Hp}{s:Shared}{l:List Addr}{x y:V}{u v:Value}{j:Heap}(tk:Nat)(I:Inv X g σ H s)(p:∀b∈l,rR X g H b)(kp:∀b o,b∉l->s.heap.get? b=ρ o->j.get? b=ρ o)
 (t:j.get? s.8=ρ {cls:=.type "tuple",data:=.seq #[u,v]}) (C:RelV y u) (J:RelV x v) (hl:∀b∈l,b<s.8) :
 H s.8=τ/\Inv X g σ (upd H s.heap.objs.size (.tup [y,x])) {s with heap:=j,gens:=s.gens,drawn:=s.drawn,toks:=tk}/\∀b∈l,upd H s.heap.objs.size (.tup [y,x]) b=τ:=by
 have d:=I.bc.fresh (Zf s.8);have e:∀b o,H b=ρ o->b∉l:=λb o q z=>by rw[(p b z).1]at q;cases q
 have f:j1 X.prog X.w (upd H s.heap.objs.size (.tup [y,x])) j:=by
  intro b o q
  by_cases a:b=s.8
  .subst a;rw[a7]at q;cases q;exact{by show 2<=sizeLine;decide,[u,v],.cons C (.cons J .nil),{_,t,rfl,1}}
  .rw[af a]at q;refine(I.bc b o q).qX (λc v hc r=>?_) (λc r=>by rw[af (aa r d)];exact r) λc i r=>by rw[af (aa r d)];exact r
   rcases hc with z |z
   .rw[z]at r ⊢;exact kp b v (e b o q) r
   .exact kp c v (e c _ z) r
 refine{d,?_,λb a=>by rw[af (Zt (hl b a))];exact(p b a).1}
 refine I.step (ch:=l) (λb a=>?_) (λb o _ _ hc q _=>kp b o hc q) (λb o _ _ hc q _=>{o.slots,kp b o hc q}) (λb o _ q n=>by rw[af (Zt (Zg q))];exact n) (λb o hc q=>{o,kp b o hc q})
  (λb i r=>by rw[af (aa r d)];exact r) (λb o u r=>by rw[af (aa r d)];exact r) (λb ps r=>{#[],by rw[af (aa r d),r];simp})
  (λm ⟨o,k,A,h,r⟩=>{o,k,A,kp _ o (λz=>(p _ z).2.1 rfl) h,r}) f I.bare
 let{_,f1,_,B,D,E}:=p b a
 exact⟨B,f1,D,E⟩
theorem sA{h:Heap}{a:Addr}{o:Obj}{r:Array (Int×Value)}{ep:Nat}{t:Ã}(C:h.get? a=ρ o)(hex:o.ExactSet)(hd:o.data=.set r ep t)
 {g:Array (Int×Value)} {t':Ã} {S':Int->Bool} {led:Bool} (j:ElemsOf (Ò prog w) g.toList) (hmem:∀k,S' k=true↔∃e∈g.toList,(Ò prog w).is k e.2=true) (l:g.size<É) (p:t'.fits g.size=true) (T:jw t' g.size) (hl:t'.led=led) :
 (h.update a (whl g t')).get? a=ρ {o with data:=.set g (ep+1) t'}/\jU (prog:=prog) (w:=w) (h.update a (whl g t')) a S' g.size led:=
 let ⟨b,_⟩:=SetOf_store (knd:=Ò prog w) C hex hd j hmem l p
 {b,_,g,ep+1,t',b,hex,rfl,j,hmem,l,p,rfl,T,hl}
theorem jU.as(h:jU (prog:=prog) (w:=w) g a S n led)(e:S=S')(j:n=n'):jU (prog:=prog) (w:=w) g a S' n' led:=by subst e j;exact h
noncomputable abbrev q9(w:World):Bool:=!w.params.followText "set-order"
end
section
variable{X:Cx}{st:Stmt}{rest:List Stmt}{t u:TS}
theorem a6(g:PS X st t)(j:vp X rest u):vp X (st::rest) (N4 t u):=by
 refine{?_};intro a s σ H D I h;refine Ű (cj (g a s σ H (D.Em (u D)) I h) λf c q=>?_)
 cases f with
 |next=>
  let{b,d,e,q}:=q
  exact j a c b d D e q
 |ret v=>exact q
 |brk=>exact q
 |cont=>exact q
theorem a9(g:PS X st t):vp X [st] t:=by
 refine{?_};intro a s σ H D I h;refine Ű (cj (g a s σ H D I h) λf b q=>?_)
 cases f with
 |next=>exact ņ q
 |ret v=>exact q
 |brk=>exact q
 |cont=>exact q
theorem Bz(g:PS X st t)(j:vp X rest u):vp X (st::rest) (Qc t u):=by
 refine{?_};intro a s σ H D I h
 let{Z,d,e}:=h
 refine Ű (cj (g a s σ H (D.Em Z) I d) λf i q=>?_)
 cases f with
 |next=>
  let{b,c,k,q}:=q
  exact j a i b c D k (e b c q)
 |ret v=>exact q
 |brk=>exact q
 |cont=>exact q
noncomputable def Ey(P:ZC)(w:World)(a:Addr)(zs:List Int):HO:=.ext λh=>jU (prog:=P) (w:=w) h a (λk=>zs.any (· == k)) zs.length (q9 w)
end
section
variable{fs ex:List Addr}{H:Hp}{h h':Heap}{a:Addr}{o:HO}
theorem Un.kept(k:∀b u,h.get? b=ρ u->h'.get? b=ρ u):Un fs ex H H h h':=
 {λb ob q _ _ _=>k b ob q,λb ob q _ _ _=>{ob.slots,k b ob q},λ_ _ _ n _=>n,λb ob q _=>{ob,k b ob q},λ_ _ q=>q,λ_ _ _ q=>q,λ_ ps q=>{#[],by rw[q];simp}}
theorem Un.refl:Un fs ex H H h h:=Un.kept λ_ _ q=>q
theorem Un.laid(k:∀b u,h.get? b=ρ u->h'.get? b=ρ u)(g:h.7<=a)(hn:H a=τ):Un fs ex H (upd H a o) h h' where
 keep:=λb u q _ _ _=>k b u q
 slot:=λb u q _ _ _=>{u.slots,k b u q}
 free:=λb u q n _=>by rw[af (Zt (Zx (Zg q) g))];exact n
 there:=λb u q _=>{u,k b u q}
 pj:=λb c q=>by rw[af (aa q hn)];exact q
 nc:=λb u c q=>by rw[af (aa q hn)];exact q
 pk:=λb ps q=>{#[],by rw[af (aa q hn),q];simp}
end
section
variable{X:Cx}{pins:List (Addr×Obj)}{σ:List (Option V)}{H:Hp}{s:Shared}{h':Heap}
theorem Inv.tok(I:Inv X pins σ H s)(t:Nat):Inv X pins σ H {s with toks:=t}:=I.un (h':=s.heap) (t':=t) Un.refl I.bc
theorem Inv.kept(I:Inv X pins σ H s)(k:∀b u,s.heap.get? b=ρ u->h'.get? b=ρ u):Inv X pins σ H {s with heap:=h',toks:=t'}:=I.un (Un.kept k) (I.bc.kept k)
theorem Inv.laid(I:Inv X pins σ H s)(k:∀b u,s.heap.get? b=ρ u->h'.get? b=ρ u)(g:s.8<=a)(new:bT X.prog X.w (upd H a o) h' a o) :
 Inv X pins σ (upd H a o) {s with heap:=h',toks:=t'}:=I.un (Un.laid k g (I.bc.fresh g)) (I.bc.laid k g new)
theorem ae{i j pos}:PE X (.Constant (.int i) j pos) (tC (.int i)):={λ_ _ _ H _ I h=>wpAny_Constant_int {.int i,H,I.tok _,{_,rfl},h}}
theorem fh{x j pos}:PE X (.Constant (.str x) j pos) (tC (.str x)):={λ_ _ _ H _ I h=>wgv {.str x,H,I.tok _,{_,rfl},h}}
theorem Ez:PX X .Add (UY λi j=>i+j):=by
 intro a s σ H x y v u Q I b c h
 let{i,j,d,e,q}:=h
 subst d;subst e
 let{t,rfl}:=b
 let{f,rfl}:=c
 exact iadd_int {.int _,H,I.tok _,{_,rfl},q}
theorem sC:M3 X Pq:=by
 intro value slice a s σ H x y v u Q I b d h e
 let{z,i,c,rfl,rfl,m,f,q}:=h
 let{t,rfl}:=b
 let{n,rfl}:=d
 let{j,g,o,p,k,l}:=wF f
 have hl:z.cps.toList.9=z.9:=by simp[Ĥ]
 rw[hl]at g k l;have hn:=mE
 exact tail_any (typeIs_str s z t) slot_str_getitem.lookup (getItem_str (c:=c) (by
  grind) (by grind) {.str {#[c]},H,I.tok _,{_,rfl},q}) e
theorem Ko:PJ X [] PH:={λb s σ H a Q I h=>joinParts_nil {a,H,I.tok _,{_,rfl},h.2} h.1}
end
section
variable{X:Cx}{tg:Expr}
theorem aG{l:Expr}{g:TE}(hl:PE X l g):PI X tg l (Js X.K g):=by
 refine{?_};intro c s σ H R I h;refine cj (hl c s σ H _ I h) λv d ⟨x,i,f,j,k⟩=>?_
 let{a,e,{t,m},q}:=k
 subst e;cases j
 let{n,u,p,w}:=f.list m
 refine ļ p.isList ?_;refine{d.8,[d.8],_,_,i,rfl,f.kept (t':=d.toks) λb o e=>Zb _ e,Cq a _,{_,Zr _ rfl,rfl,rfl},λb r=>?_,q};have e:b=d.8:=by simpa using r
 subst e;exact f.Cr (Zf _) (f.bc.fresh (Zf _))
theorem y1{g:List (Addr×Obj)}{σ:St}{H:Hp}{s:Shared}{R:It->Hp->Prop}{E:Value->Shared->Prop}{lo hi:Int}{t u v:Tok}{tk:Nat}(I:Inv X g σ H s)(j:-(2^62)<=lo)(l:lo<2^62)(p:-(2^62)<=hi)(r:hi<2^62)
 (q:R (Jr lo (hi-lo).toNat) H):wpAny (model X.prog X.w) X.A (pyIter (.ref s.8)) (Oq X g σ tg R) E {s with heap:=s.heap.push {cls:=.type "range",data:=.fields #[.int lo t,.int hi u,.int 1 v]},toks:=tk}:=by
 refine wpAny_pyIter_range (IsRange.new ..) (small_one j l p r) ?_;have a:Inv X g σ H {s with heap:=s.heap.push {cls:=.type "range",data:=.fields #[.int lo t,.int hi u,.int 1 v]},toks:=tk}:=I.kept λb o e=>Zb _ e
 refine{(s.heap.push {cls:=.type "range",data:=.fields #[.int lo t,.int hi u,.int 1 v]}).7,[(s.heap.push {cls:=.type "range",data:=.fields #[.int lo t,.int hi u,.int 1 v]}).7],_,_,H,rfl,
  a.kept (t':=tk) λb o e=>Zb _ e,zE _ lo (hi-lo).toNat,?_,λb c=>?_,q}
 .have d:lo+((0:Nat):Int)*1=lo:=by simp
  have f:(((hi-lo).toNat:Nat):Int)-((0:Nat):Int)=Builtin.Range.rangeSize lo hi 1:=by rw[rangeSize_one];split<;>lia
  show IsRangeIter _ _ (lo+((0:Nat):Int)*1) ((((hi-lo).toNat:Nat):Int)-((0:Nat):Int)) 1;rw[d,f];exact Zr _ rfl
 .have e:b=(s.heap.push {cls:=.type "range",data:=.fields #[.int lo t,.int hi u,.int 1 v]}).7:=by simpa using c
  subst e;exact a.Cr (Zf _) (a.bc.fresh (Zf _))
theorem cy(g:Gl X "range")(l:X.mg "range"=τ)(ha:PA X [a] o)(hs:starEach [a] X.5=[(false,eval a X.5)]:=by rfl):PI X tg (.Call (.Name "range" p) [a] [] pos) (Mu o):=by
 refine{?_};intro b s σ H R I h;refine Call_ (j4 I g l boot_range (wbX (cj (ha pos b s σ H _ I h) λm n ⟨u,v,d,f,c⟩=>?_) hs rfl))
 let{j,e,c,i,q}:=c
 subst e
 cases f with
 |cons r k=>
  cases k
  let{t,rfl}:=r
  exact call_range_1 (y1 d () () c i (by simpa using q))
theorem lC(l:Gl X "range")(o:X.mg "range"=τ)(ha:PA X [a,b] C)(hs:starEach [a,b] X.5=[(false,eval a X.5),(false,eval b X.5)]:=by rfl)(g:starEach [b] X.5=[(false,eval b X.5)]:=by rfl) :
 PI X tg (.Call (.Name "range" p) [a,b] [] pos) (Mv C):=by
 refine{?_};intro c s σ H R I h;refine Call_ (j4 I l o boot_range (wbX (cj (ha pos c s σ H _ I h) λx y ⟨z,A,k,m,d⟩=>?_) (by rw[hs,g]) (by rw[g];rfl)))
 let{i,j,e,{d,n,u,v},q}:=d
 subst e
 cases m with
 |cons r f=>
  cases f with
  |cons w f=>
   cases f
   let{t,rfl}:=r
   let{B,rfl}:=w
   exact call_range_2 (y1 k d n u v q)
theorem Qg{f:Value->Value->Sem Value}{C:Int->Int->Prop}{g:Int->Int->Int}
 (rule:∀(i j:Int) (t u:Tok) (s:Shared) (Q:Value->Shared->Prop) (E:Value->Shared->Prop),C i j->Q (.int (g i j) s.toks) {s with toks:=s.toks+1}->wpAny (model X.prog X.w) X.A (f (.int i t) (.int j u)) Q E s) :
 jZ X f (rI C λi j=>.int (g i j)):=by
 intro a s σ H x y v u Q I b c h
 let{i,j,rfl,rfl,hc,q}:=h
 let{t,rfl}:=b
 let{d,rfl}:=c
 exact rule i j t d s _ _ hc {.int (g i j),H,I.tok _,{_,rfl},q}
theorem N5{f:Value->Value->Sem Value}{g:Int->Int->Int}
 (rule:∀(i j:Int) (t u:Tok) (s:Shared) (Q:Value->Shared->Prop) (E:Value->Shared->Prop),Q (.int (g i j) s.toks) {s with toks:=s.toks+1}->wpAny (model X.prog X.w) X.A (f (.int i t) (.int j u)) Q E s) :
 jZ X f (Jt λi j=>.int (g i j)):=by
 intro a s σ H x y v u Q I b c h
 let{i,j,rfl,rfl,q}:=h
 let{t,rfl}:=b
 let{d,rfl}:=c
 exact rule i j t d s _ _ {.int (g i j),H,I.tok _,{_,rfl},q}
theorem dJ:jZ X (binaryOp .Add) (Jt λi j=>.int (i+j)):=N5 λ_ _ _ _ _ _ _ q=>add_int q
theorem gn:jZ X (binaryOp .Sub) (Jt λi j=>.int (i-j)):=N5 λ_ _ _ _ _ _ _ q=>sub_int q
theorem dW:jZ X (binaryOp .Mult) (rI Hu λi j=>.int (i*j)):=Qg λ_ _ _ _ _ _ _ hc q=>mul_int q hc.ok
theorem lD:jZ X (binaryOp .FloorDiv) (rI Pp λi j=>.int (i/j)):=Qg λi j _ _ _ _ _ hc q=>by
 have a:(0:Int)<j:=hc.1;have b:j<1073741824:=hc.2;exact floordiv_int 1.0 (by rw[Int.fdiv_eq_ediv_of_nonneg i 1.0];exact q) (.inl (PyProof.noPylong_small 1.0))
theorem gp:jZ X (binaryOp .Mod) (rI (λ_ j=>0<j) λi j=>.int (i%j)):=Qg λi j _ _ _ _ _ hc q=>by
 have a:(0:Int)<j:=hc;exact mod_int' () (by rw[Int.fmod_eq_emod_of_nonneg i ()];exact q)
theorem Vi{f:Value->Sem Value}{g:Int->Int}
 (rule:∀(i:Int) (t:Tok) (s:Shared) (Q:Value->Shared->Prop) (E:Value->Shared->Prop),Q (.int (g i) s.toks) {s with toks:=s.toks+1}->wpAny (model X.prog X.w) X.A (f (.int i t)) Q E s) :
 PZ X f (rU λi=>.int (g i)):=by
 intro a s σ H x v Q I b h
 let{i,rfl,q}:=h
 let{t,rfl}:=b
 exact rule i t s _ _ {.int (g i),H,I.tok _,{_,rfl},q}
theorem EA:PZ X (unaryOp .USub) (rU λi=>.int (-i)):=Vi λ_ _ _ _ _ q=>neg_int q
theorem dX:jZ X (binaryOp .Add) (λx y H Q=>∃i j,x=.str i/\y=.str j/\i.9+j.9<=sizeLine/\Q (.str (i++j)) H):=by
 intro a s σ H x y v u Q I b c h
 let{i,j,rfl,rfl,d,q}:=h
 let{t,rfl}:=b
 let{e,rfl}:=c
 exact add_str (λe f=>{.str (i++j),H,I.tok _,{_,rfl},q}) d
theorem EB:cu X (.builtin "abs") (λxs H Q=>∃i,xs=[.int i]/\Q (.int (if i<0 then -i else i)) H):=by
 intro a s σ H xs b Q I r h
 let{i,rfl,q}:=h
 let{u,rfl,t,rfl}:=vals1 r
 exact call_abs_int λu c=>{.int (if i<0 then -i else i),H,I.tok _,{_,rfl},q}
theorem Ct(hc:X.calm=true):cu X (.builtin "max") (λxs H Q=>∃i j,xs=[.int i,.int j]/\Q (.int (if j>i then j else i)) H):=by
 intro b s σ H xs c Q I r h
 let{i,j,rfl,q}:=h
 let{u,d,rfl,{t,rfl},{e,rfl}}:=vals2 r
 refine max_two_ints (I.ok.hd hc) λf g k=>{_,H,I.kept k,?_,q}
 by_cases a:j>i
 .rw[if_pos a,if_pos a];exact{_,rfl}
 .rw[if_neg a,if_neg a];exact{_,rfl}
theorem iK(hc:X.calm=true):cu X (.builtin "min") (λxs H Q=>∃i j,xs=[.int i,.int j]/\Q (.int (if j<i then j else i)) H):=by
 intro b s σ H xs c Q I r h
 let{i,j,rfl,q}:=h
 let{u,d,rfl,{t,rfl},{e,rfl}}:=vals2 r
 refine min_two_ints (I.ok.hd hc) λf g k=>{_,H,I.kept k,?_,q}
 by_cases a:j<i
 .rw[if_pos a,if_pos a];exact{_,rfl}
 .rw[if_neg a,if_neg a];exact{_,rfl}
theorem Cu{CX:DW}{P:ZC}{w:World}{K:Z6}{mg:Str->Option Value}{base:Heap}{N ps:List Str}{g:Str}{scope:Ð}{f:Addr}{cd:Value}{A:Around}{outer:List Env}{s s1:Shared}{H:Hp}{E:XK}{us:List Value}{vs:List V}
 (S:rB N ps scope) (hd:A.handled=τ) (j:zA P w K mg base A outer s H) (hl:vs.9=ps.9) (r:Vals vs us)
 (x:InCallC s s.heap.objs.size (bindL (envOfC g scope s.heap.objs.size f cd).kindOf (ps.zip us) λ_=>τ) (cellsFrom (s.8+1) scope.names []) (bindC (envOfC g scope s.heap.objs.size f cd).kindOf (ps.zip us) λ_=>τ) s1) :
 Inv (pD CX P w K mg base N g scope f cd A outer s H E) [] (start N vs) H s1:=by
 have D:ps.9<=N.9:=by have:=congrArg ð S.pre;rw[Zq]at this;lia
 let{B,I,rfl,hk}:=x.done
 have l:∀b:Addr,b∉(pD CX P w K mg base N g scope f cd A outer s H E).ex:=λb z=>absurd (show b∈([]:List Addr) from z) (by simp)
 refine{{j.mod,S.kind,rfl,rfl,Zf _,λy z c B d=>?_,λy m=>?_,λy c _ h=>?_,λ_=>hd,Around.frames_deeper j.frames,.inr ⟨rfl,rfl⟩,λb z=>absurd z (l b),j.bs,j.E5,λb _ _=>l b,λb z=>absurd z (l b),j.ng,j.Hq},
  rfl,j.bare,Un.kept hk,{_,x.toInCall.ns,λi y v B d J=>?_},λy c h=>{_,x.cell y c h},j.bc.fresh (Zf _),λy c h=>?_,λp o=>absurd (show p∈([]:List (Addr×Obj)) from o) (by simp),j.bc.kept hk,?_}
 .exact name_of_addr x.apart (Ő B) (Ő d)
 .have m:scope.names.lookup y=ρ .cell\/scope.names.lookup y=ρ .free:=m;rcases m with m |m
  .exact xM m
  .exact absurd rfl (S.K5 _ (Ő m))
 .exact weQ (x.above y c (Ő h))
 .have hi:i<vs.9:=by
   unfold start at d
   by_cases hi:i<vs.9
   .exact hi
   .rw[ZL (by simpa using hi)]at d;rw[List.getElem?_replicate]at d;split at d<;>cases d
  have ha:vs[i]?=ρ v:=by
   unfold start at d;rw[ZN (by simpa using hi),Z9]at d
   cases e:vs[i]? with
   |none=>rw[e]at d;cases d
   |some a=>rw[e]at d;cases d;rfl
  let{u,C,G}:=r.get ha
  have o:ps[i]?=ρ y:=by
   rw[<-S.pre,List.getElem?_take_of_lt ()];exact B
  have t:ps.Nodup:=by rw[<-S.pre];exact S.nd.sublist (ī _ _)
  refine{u,G,?_};rcases S.par y (Zv o) with k |k
  .exact .inl {k,uZ t o C k}
  .let{c,e}:=xM (n:=s.8+1) k
   refine .inr {.inl k,c,e,?_};have q:=x.cell y c e;rw[va t o C (by show scope.names.lookup y≠_;rw[k];decide)]at q;exact q
 .exact j.bc.fresh (weQ (x.above y c (Ő h)))
 .unfold start;show _=N.9;rw[Zd,Z4,wdy]
  lia
theorem JD{CX:DW}{P:ZC}{w:World}{K:Z6}{mg:Str->Option Value}{base:Heap}{k:Nat}{f:Addr}{name g:Str}{l:Arguments}{body:List Stmt}{scope:Ð}{dV kV C pm j ct oc:Value}{an od:Option Addr}
 {T:Array (Option Value)} {N ps:List Str} {sp:Sp} (lk:K.lookup f=ρ {oc,od,.func (ē name g l body scope dV kV C pm an j ct),T}) (U:η K j g=true) (S:rB N ps scope)
 (len:∀vs H Q E,sp vs H Q E->vs.9=ps.9)
 (p:∀(A:Around) (outer:List Env) (s:Shared) (H:Hp) (vs:List V) (Q:VK) (E:XK),d5 k (A.deeper (envOfC g scope s.heap.objs.size f j))->sp vs H Q E ->
   ∃t,vp (pD CX P w K mg base N g scope f j A outer s H E) body t/\t (Ends.fn Q) (start N vs) H) :
 aW P w K mg base CX (k+1) f (ē name g l body scope dV kV C pm an j ct) ps sp:=by
 refine{len,λA outer s H args O vs Q E z i R r m=>?_};have hl:=len _ _ _ _ m;have L:K.In s.heap:=i.mod.Jq.keeps λb o e=>(i.bs b o e).1;have B:s.heap.NoLimit:=i.mod.nolimit.keeps λb o e=>(i.bs b o e).1
 have c:∀y∈ps.zip O,scope.names.lookup y.1=ρ .local\/(scope.names.lookup y.1=ρ .cell/\((cellsFrom (s.8+1) scope.names []).lookup y.1).isSome=true):=λ⟨n,v⟩ X=>by
  rcases S.par n (wfc X).1 with q |q
  .exact .inl q
  .exact .inr {q,wfo _ _ _ (.inl q)}
 refine codeAny_call_function z.depth (L _ _ lk) rfl S.co S.gen rfl (PySem.W.codeRec_of L U) (R _ _ _ _ ?_);refine wpAny_newFunctionEnv_cells S.kind c λenv Y M x=>?_;subst Y;refine{B.keeps x.toInCall.keep,codeAny_func ?_}
 let{t,Z,hq}:=p A outer s H vs Q E (z.deeper _) m
 have I:Inv (pD CX P w K mg base N g scope f j A outer s H E) [] (start N vs) H M:=Cu S z.hd i hl r x;refine Å (Z [] M (start N vs) H _ I hq) (λfl D d=>?_) λe D d=>d
 have fin:∀{a:St} {h:Hp} {v:V} {u:Value},Inv (pD CX P w K mg base N g scope f j A outer s H E) [] a h D->RelV v u->Q v h->CE outer P w H s Q u D:=
  λ{a h v u} J G q=>⟨v,h,J.os,J.bare,J.base,J.bc,G,q⟩
 cases fl with
 |ret u=>
  let{v,a,h,J,G,q}:=d
  exact fin J G q
 |next=>
  let{a,h,J,q}:=d
  exact fin (v:=V.non) (u:=Ï) J rfl q
 |brk=>
  let{_,_,_,q}:=d
  exact Ä q
 |cont=>
  let{_,_,_,q}:=d
  exact Ä q
theorem nv:cu X (.builtin "len") (λxs H Q=>∃p ys,xs=[.ref p]/\(aM X.K H p ys\/g8 X.K H p ys)/\Q (.int ys.9) H):=by
 intro e s σ H xs i Q I r h
 let{p,ys,rfl,a,q}:=h
 let{u,rfl,f}:=vals1 r
 cases f;have hn:=mE;rcases a with a |a
 .let{c,d,pl,g}:=I.list a
  have b:=d.9;exact wdX pl.isList (by grind) {.int ys.9,H,I.tok _,{s.toks+1,by grind},q}
 .let{c,d,pl,g}:=I.tuple a
  have b:=d.9;exact len_tuple pl (by grind) {.int ys.9,H,I.tok _,{s.toks+1,by grind},q}
theorem wN:cu X (.builtin "len") (λxs H Q=>∃z,xs=[.str z]/\z.9<=sizeLine/\Q (.int z.9) H):=by
 intro a s σ H xs b Q I r h
 let{z,rfl,c,q}:=h
 let{u,rfl,t,rfl}:=vals1 r
 have hn:=mE;exact len_str () {.int z.9,H,I.tok _,{_,rfl},q}
theorem dg:cu X (.type "list") (λxs H Q=>∃p ys,xs=[.ref p]/\(aM X.K H p ys\/g8 X.K H p ys)/\∀l,H l=τ->Q (.ref l) (upd H l (.lst ys))):=by
 intro g s σ H xs x Q I r h
 let{p,ys,rfl,i,q}:=h
 let{u,rfl,v}:=vals1 r
 cases v
 have fin:∀(a:List Value),Vals ys a->ys.9<=sizeLine->∀(c:Heap) (d:Nat),(∀b t,s.heap.get? b=ρ t->c.get? b=ρ t) ->
  c.get? s.8=ρ {cls:=.type "list",dict:=τ,data:=.seq a.toArray d,slots:=#[]}->EP X g σ Q (.ref s.8) {s with heap:=c}:=λa f j c d kp e=>
  {.ref s.8,_,I.laid (t':=s.toks) kp (Zf _) (show bT X.prog X.w _ c _ (.lst ys) from ⟨j,a,d,f,e⟩),rfl,q _ (I.bc.fresh (Zf _))}
 rcases i with i |i
 .let{a,f,pl,j}:=I.list i
  have k:=f.9
  let{o,m,hc,n,hd}:=pl.isList
  exact call_list_seq p (.inl rfl) m hc hd (λc d kp e=>fin a f j c d kp e) (by grind)
 .let{a,f,pl,j}:=I.tuple i
  have k:=f.9
  let{o,m,hc,n,hd}:=pl
  exact call_list_seq p (.inr rfl) m hc hd (λc d kp e=>fin a f j c d kp e) (by grind)
theorem a8.refl(H:Hp):a8 H H:=λ_ _ h=>h
theorem vy:Kj X "dict.values" (λx xs H Q=>∃d kvs,x=.ref d/\xs=[]/\H d=ρ (.dK kvs)/\∀v,H v=τ->Q (.ref v) (upd H v (ni v d))):=by
 intro a s σ H x xs v j Q I f g h
 let{d,kvs,rfl,rfl,hd,q}:=h
 cases f;have:=g.zero;subst this
 let{l,lo,i,rel,c}:=sr I.bc hd
 refine call_meetsIn wd4 c.typeIs PySem.F.entry_dict_values (PySem.F.args_dict_values_1 _) (meets_dict_values (bG X.prog X.w) d lo) {⟨i,c⟩,?_};refine{.ref s.8,_,I.laid (t':=s.toks) (o:=ni s.heap.objs.size d) (λb o e=>Zb _ e) (Zf _) {{_,Zr _ rfl,rfl,rfl},{_,Zr _ rfl},λm n ⟨o,e,r⟩ k=>{o,k o e,r}},rfl,q _ (I.bc.fresh (Zf _))}
theorem wO:Kj X "str.join" (λx xs H Q=>∃z p g,x=.str z/\xs=[.ref p]/\aM X.K H p (Ú V.str g)/\(g.map (·.9)).sum+g.9*z.9<=16777216/\Q (.str (û z g)) H):=by
 intro a s σ H x xs v m Q I b c h
 let{z,p,g,rfl,rfl,d,e,q}:=h
 let{t,rfl}:=b
 let{u,rfl,f}:=c.one
 cases f
 let{i,j,pl,_}:=I.list d
 exact join_list pl.isList (by simpa using zm j) e λl k=>{.str _,H,I.tok k,⟨l,rfl⟩,q}
theorem y2:cu X (.builtin "len") (λxs H Q=>∃p n,xs=[.ref p]/\H p=ρ (HB X.prog X.w p n)/\Q (.int n) H):=by
 intro c s σ H xs g Q I r h
 let{p,n,rfl,d,q}:=h
 let{u,rfl,f}:=vals1 r
 cases f
 let{{S,o,i,j,k,e,hex,hd,_,_,b,a,hn},_}:=(show bT X.prog X.w H s.heap p (HB X.prog X.w p n) from I.bc p _ d)
 refine call_len_set e hex hd a (by unfold É at b;omega) {.int n,H,I.tok _,{s.toks+1,?_},q};rw[hn]
theorem comp_map{Ok:Hp->Prop}{Q:Hp->Prop}(g:V->V)(C:jS J Ok xs)(hl:H l=τ)(hz:xs.9<=sizeLine)(r:∀j,a8 H j->Ok j)
 (he:∀x o p,x∈xs->a8 H o->(∀j,a8 o j->p (g x) j)->I (ρ x::t) o p)
 (hd:∀j,a8 H j->j l=ρ (.lst (xs.map g))->Q j):kh J l t rV I H Q:=
 cV (λ_=>true) g C hl hz r (λx o p _ _ q=>q o (a8.refl _)) (λx o p a _ s q=>he x o p a s q) (λj s h=>hd j s (by rw[h,ù.mpr (λ_ _=>rfl)]))
theorem y3:cu X (.type "range") (λxs H Q=>∃j:Int,xs=[.int j]/\∀p,H p=τ->Q (.ref p) (upd H p (.rng 0 j))):=by
 intro a s σ H xs c Q I r h
 let{j,rfl,q}:=h
 let{u,rfl,t,rfl}:=vals1 r
 refine call_range_1 {.ref s.8,_,I.laid (λb ob q=>Zb _ q) (Zf _) (show bT X.prog X.w _ _ _ (.rng 0 j) from {_,_,_,Zr _ rfl}),rfl,q _ (I.bc.fresh (Zf _))}
theorem zG:cu X (.type "dict") (λxs H Q=>∃d kvs,xs=[.ref d]/\Rd H d (.dK kvs)/\∀l,H l=τ->Q (.ref l) (upd H l (.dK kvs))):=by
 intro a s σ H xs n Q I r h
 let{d,kvs,rfl,hd,q}:=h
 let{u,rfl,f}:=vals1 r
 cases f
 let{c,lo,g,rel,i}:=kg I.bc hd
 refine kt_call_dict (knd:=bG X.prog X.w) lo i (by rw[<-rel.9];exact c) λp j k=>?_;have m:=(sh (P:=X.prog) (w:=X.w) (H:=H) s.heap I.big);refine{.ref s.8,upd H s.heap.objs.size (.dK kvs),I.laid (t':=s.toks) (λb o e=>?_) (Zf _) ⟨c,m.2.1,g,rel,j⟩,rfl,q _ (I.bc.fresh (Zf _))};exact k.extBut b o (Zt (Zg e)) (Zb _ e)
theorem EC{K:Z6}{j l:Expr}{g:TE}(o:X.K=K)(hl:PE X l g):PI X j l (Js K g):=by
 subst o;exact aG hl
theorem pE{α:Type}(p:Nat->Bool):∀(k:Nat) (xs:List α),(bg p k xs).Sublist xs
 |_,[]=>wde _
 |k,x::xs=>by
  show (if p k then x::bg p (k+1) xs else bg p (k+1) xs).Sublist (x::xs)
  cases p k with
  |true=>exact(pE p (k+1) xs).cons₂ x
  |false=>exact(pE p (k+1) xs).cons x
theorem fo{α:Type}{p:Nat->Bool}{k:Nat}{xs:List α}{x:α}(h:x∈bg p k xs):x∈xs:=(pE p k xs).subset h
end
section
variable{X:Cx}{a b:Expr}{ta tb:TE}{pos:Pos}{rest:List Expr}
theorem j7(ha:PE X a ta)(j:PE X (.BoolOp .And (b::rest) pos) tb):PE X (.BoolOp .And (a::b::rest) pos) (MI ta tb):=by
 refine{?_};intro d s σ H Q I h;refine BoolOp_and (cj (ha d s σ H _ I h) λv i ⟨x,f,g,k,e⟩=>?_)
 let{c,rfl,e}:=e
 cases k;refine ď ?_
 cases c with
 |true=>exact j d i σ f Q g e
 |false=>exact{.bl false,f,g,rfl,e}
theorem N6(ha:PE X a ta)(j:PE X (.BoolOp .Or (b::rest) pos) tb):PE X (.BoolOp .Or (a::b::rest) pos) (Px ta tb):=by
 refine{?_};intro d s σ H Q I h;refine BoolOp_or (cj (ha d s σ H _ I h) λv i ⟨x,f,g,k,e⟩=>?_)
 let{c,rfl,e}:=e
 cases k;refine ď ?_
 cases c with
 |false=>exact j d i σ f Q g e
 |true=>exact{.bl true,f,g,rfl,e}
theorem dY(hc:X.calm=true)(h:Oo X g t)
 (hn:(Į g X.5).9=n:=by rfl) (j:(Į g X.5).findIdx? (·.1)=τ:=by rfl):PG X (.Tuple g k pos) (E7 X.K n t):=by
 refine{?_};intro c s σ H v u Q I r hw
 let{a,f,i,l,hl,hw}:=hw
 subst i;cases r
 let{m,d,p,y}:=I.tuple l
 refine assign_Tuple_tuple (I.ok.hd hc) p (by simp[hn,<-hl,d.9]) j λq w=>?_;have x:Inv X c σ H {s with heap:=q}:=I.kept (t':=s.toks) λb o e=>w b o (Zt (Zg e)) e;exact h c _ σ H f _ Q x (by simpa using d) hw
theorem dZ:PE X (.Dict [] [] pos) K6:={λb s σ H Q I h=>
 wpAny_Dict_empty {.ref s.8,_,I.laid (a:=s.8) (o:=.dK []) (t':=s.toks) (λ_ _ q=>Zb _ q) (Zf _) (sh s.heap I.big),rfl,h _ (I.bc.fresh (Zf _))}}
end
section
variable{X:Cx}{pins:List (Addr×Obj)}{σ:St}{H:Hp}{s:Shared}{l:Addr}{xs ys:List V}
theorem Inv.N7(I:Inv X pins σ H s)(j:Vals ys g)(hz:ys.9<=sizeLine) :
 Inv X pins σ (upd H s.heap.objs.size (.lst ys)) {s with heap:=s.heap.push {cls:=.type "list",data:=.seq g.6},toks:=t'}:=
 I.laid (λ_ _ q=>Zb _ q) (Zf _) ⟨hz,g,0,j,Zr _ rfl⟩
theorem Inv.HM(I:Inv X pins σ H s)(j:H l=ρ (.lst xs)):xs.9<=sizeLine/\∃(g:List Value) (n:Nat),Vals xs g/\xs.9=g.9/\s.heap.get? l=ρ {cls:=.type "list",data:=.seq g.toArray n}:=by
 let{z,g,n,r,e}:=I.bc l _ j
 exact⟨z,g,n,r,r.9,e⟩
theorem ED:jZ X (binaryOp .Add) Q9:=by
 intro d s σ H x y v u Q I f g h
 let{l,b,t,w,rfl,rfl,i,j,A,q}:=h
 cases f;cases g
 let{z,c,n,r,hl,e}:=I.HM i
 let{B,a,C,k,m,o}:=I.HM j
 refine wh8 e o ?_ (by rw[ZB,ZB];omega);have p:c.6++a.6=(c++a).6:=by simp
 rw[p];exact{.ref _,_,I.N7 (t':=s.toks) (r.append k) (by rw[Zd];omega),rfl,q _ I.fresh}
end
section
variable{P:ZC}{w:World}{K:Z6}{mg:Str->Option Value}{base:Heap}{N:List Str}{qual:Str}{f:Addr}{A:Around}{outer:List Env}{s:Shared}{H:Hp}{E:XK}
theorem j1.past{lo:Nat}{H:Hp}{fs:List Addr}{h h':Heap}(x:j1 P w H h)(p:El lo H fs h h')(g:∀b∈fs,H b=τ):j1 P w H h':=λa o e=>
 (x a o e).qX (λb u c q=>p.keep b u q (.inr (by grind)) λd=>by
   grind) (λ_ q=>q) λ_ _ q=>q
theorem sD(o:KV g j)(r:rW g=true):∀{l:List (Key×V)} {C:List (Key×Value)},KV l C->rW l=true->whm A s j C (hitsD g l)
 |_,_,.nil,_=>.nil
 |_,_,@Paired.cons _ _ _ p q ps d h t,c=>by
  let{k,v}:=p
  let{f,u}:=q
  let{i,m}:=h
  obtain rfl:k=f:=i;have f1:d7 v=true:=ZM.mp c (k,v) (Zm ..);have f2:rW ps=true:=ZM.mpr λz n=>ZM.mp c z (Zh _ n);have w:=sD o r t f2;have a:=o.val k;delta hitsD;rw[wei];show whm A s j ((k,u)::d) ((match cZ g k with |some y=>ph v y |none=>false)&&_)
  cases e:cZ g k with
  |none=>
   rw[e]at a
   cases b:valueAt j k with
   |none=>exact .miss b
   |some y=>rw[b]at a;exact Ä a
  |some y=>
   rw[e]at a
   cases b:valueAt j k with
   |none=>rw[b]at a;exact Ä a
   |some x=>
    rw[b]at a;exact .hit b (pz m a f1 (Ck r e)) w
theorem aQ.both:∀(g:List gi) (xs ys:List V),aQ K H g xs->aQ K H g ys->xs.9=ys.9/\∀(j:Nat) (x y:V),xs[j]?=ρ x->ys[j]?=ρ y->∃d,dep d<=j5 g/\bh K H d x/\bh K H d y
 |[],xs,ys,b,c=>by
  have m:xs=[]:=b;have n:ys=[]:=c;subst m n;exact{rfl,λj x y h=>by simp at h}
 |d::g,xs,ys,b,c=>by
  let{v,a,rfl,o,f}:=(show ∃v a,xs=v::a/\bh K H d v/\aQ K H g a from b)
  let{w,p,rfl,hw,i}:=(show ∃v a,ys=v::a/\bh K H d v/\aQ K H g a from c)
  let{hl,q}:=aQ.both g a p f i
  refine{by rw[ZP,ZP,hl],λj x y k l=>?_}
  cases j with
  |zero=>
   cases k;cases l;exact{d,Nat.le_max_left _ _,o,hw}
  |succ j=>
   let{e,b,c,r}:=q j x y k l
   exact{e,Zn b (Nat.le_max_right _ _),c,r}
end
section
variable{X:Cx}{pins:List (Addr×Obj)}{σ:St}{H:Hp}{s:Shared}{a:Addr}{y:V}{u:Value}{o:Option V}{A:Around}{E:Value->Shared->Prop}
theorem Qh{Q:Value->Shared->Prop}(p:A.units+1<À)(I:Inv X pins σ H s)(g:dI H a y o)(j:RelV y u)(h:∀s',Inv X pins σ H s'->Q (.bool o.isSome) s') :
 wpAny (model X.prog X.w) A (Æ .In u (.ref a)) Q E s:=by
 rcases g with⟨c,k,e,d,l⟩ |⟨c,k,b,e,d,i,l⟩
 .subst d
  let{z,hd,m,rel,f}:=kg I.bc e
  refine wpAny_in_of (vc j) hd f.mapOf ?_;rw[<-(rel.val k).iF,<-l];exact h _ (I.tok _)
 .subst d;cases(show u=Zo b from j)
  let{z,hd,n,rel,f}:=xW I.bc e
  refine wpAny_in_heap (wd5 p) (su I.bc i) hd f ?_;have q:=(rel.val k).iF;rw[wet]at q;rw[<-q,<-l];exact h _ (I.tok _)
theorem HN{Q:Value->Shared->Prop}(p:A.units+1<À)(I:Inv X pins σ H s)(g:dI H a y o)(j:RelV y u)(h:∀s',Inv X pins σ H s'->Q (.bool (!o.isSome)) s') :
 wpAny (model X.prog X.w) A (Æ .NotIn u (.ref a)) Q E s:=by
 rcases g with⟨c,k,e,d,l⟩ |⟨c,k,b,e,d,i,l⟩
 .subst d
  let{z,hd,m,rel,f}:=kg I.bc e
  refine wpAny_notIn_of (vc j) hd f.mapOf ?_;rw[<-(rel.val k).iF,<-l];exact h _ (I.tok _)
 .subst d;cases(show u=Zo b from j)
  let{z,hd,n,rel,f}:=xW I.bc e
  refine wpAny_notIn_heap (wd5 p) (su I.bc i) hd f ?_;have q:=(rel.val k).iF;rw[wet]at q;rw[<-q,<-l];exact h _ (I.tok _)
theorem Inv.EE{l g:Hp}{j s1:Shared}{h':Heap}(C:Inv X pins σ l j)(r:s1.os=j.os)(bare:AllBare s1.gens)(un:Un (qW X.stack) [] l g j.heap s1.heap)(bc:j1 X.prog X.w g s1.heap)
 (p:El j.heap.objs.size g (qW X.stack) s1.heap h') (t:∀b∈qW X.stack,g b=τ):Un (qW X.stack) [] l g j.heap h'/\j1 X.prog X.w g h'/\∀tk,Inv X pins σ g {s1 with heap:=h',toks:=tk}:=by
 have e:Un (qW X.stack) [] l g j.heap h':=by
  refine{λb o d n a f=>p.keep b o (un.keep b o d n a f) (.inl (Zg d)) a,λb o d n a f=>?_,un.free,λb o d f=>?_,un.pj,un.nc,un.pk}
  .let{sl,h}:=un.slot b o d n a f
   let{i,k}:=p.slot b _ h a
   exact⟨i,k⟩
  .let{m,h}:=un.there b o d f
   by_cases q:b∈qW X.stack
   .let{sl,k}:=p.slot b m h q
    exact{_,k}
   .exact{m,p.keep b m h (.inl (Zg d)) q}
 have c:=bc.past p t;exact{e,c,λtk=>C.vo (s':={s1 with heap:=h',toks:=tk}) r e c bare λb z=>absurd z (by simp)}
theorem Kp(g:X.A.units<À):jZ X (Æ .Eq) PQ:=by
 intro c s σ H x y v u Q I f i h
 let{a,b,r,t,rfl,rfl,ha,j,k,l,q}:=h
 cases f;cases i
 let{_,m,w,d,n}:=kg I.bc ha
 let{_,o,z,e,p}:=kg I.bc j
 refine PySem.W.keq_eq m o n p g (λ_=>sD e l d k) {.bl _,H,I,rfl,?_};rw[<-d.9,<-e.9];exact q
end
section
variable{x:Str}
theorem iu{X:Cx}{K:Z6}(g:X.K=K):cu X (.builtin "len") (λxs H Q=>∃p ys,xs=[.ref p]/\(aM K H p ys\/g8 K H p ys)/\Q (.int ys.9) H):=by
 subst g;exact nv
inductive N8(x y:V)(H:Hp)(Q:VK):Prop
 |mk (l b xs zs) (_:x=.ref l) (_:y=.ref b) (_:Rd H l (.lst xs)) (_:Rd H b (.lst zs)) (_:xs.9+zs.9<=sizeLine) (_:∀p,H p=τ->Q (.ref p) (upd H p (.lst (xs++zs))))
end
section
variable{κ:Type}[DecidableEq κ]
theorem EF{kvs:List (κ×V)}{k:κ}(h:cZ kvs k=τ):¬k∈kvs.map (·.1):=by
 intro m
 let{p,a,e}:=Ze.mp m
 have q:(kvs.any λb=>decide (b.1=k))=true:=Ē.mpr {p,a,decide_eq_true e};rw[k7,h]at q;exact absurd q (by simp)
theorem wQ{kvs:List (κ×V)}{k:κ}{v:V}(h:cZ kvs k=ρ v):k∈kvs.map (·.1):=by
 have q:(kvs.any λa=>decide (a.1=k))=true:=by
  rw[k7,h]
  all_goals rfl
 let{p,b,e}:=Ē.mp q
 exact Ze.mpr {p,b,of_decide_eq_true e}
end
section
variable{X:Cx}{es:List Expr}{t:TA}{pos:Pos}
theorem cM{g}(h:PA X es t):PE X (.Tuple es g pos) (Py t):=by
 refine{?_};intro a s σ H Q I i;refine wpAny_Tuple_spliced (cj (h pos a s σ H _ I i) λj c ⟨k,d,f,r,z,q⟩=>{by rw[<-r.9];exact z,?_});have l:d c.8=τ:=f.bc.fresh (Zf _);refine{.ref c.8,upd d c.heap.objs.size (.tup k),f.laid (t':=c.toks) (λb u e=>Zb _ e) (Zf _) ?_,rfl,q _ l};exact{z,j,r,{_,Zr _ rfl,rfl,1}}
theorem bB(h:PA X es t):PE X (.List es pos) (Pz t):=by
 refine{?_};intro a s σ H Q I g;refine wpAny_List_spliced (cj (h pos a s σ H _ I g) λi c ⟨j,d,f,r,z,q⟩=>{by rw[<-r.9];exact z,?_});have k:d c.8=τ:=f.bc.fresh (Zf _);refine{.ref c.8,upd d c.heap.objs.size (.lst j),f.laid (t':=c.toks) (λb u e=>Zb _ e) (Zf _) ?_,rfl,q _ k};exact⟨z,i,0,r,Zr _ rfl⟩
theorem j8(h:k∉mv.map (·.1)):cZ (bM mv) (ZA k:Key)=τ:=by
 cases q:cZ (bM mv) (ZA k:Key) with
 |none=>rfl
 |some v=>
  have:=wQ q;unfold bM at this;rw[Zj]at this
  let{m,a,e}:=Ze.mp this
  have b:m.1=k:=Ě e;exact absurd (Ze.mpr ⟨m,a,b⟩) h
theorem vz(f:Str->V)(h:k∉g):cZ (pB f g) (ZA k:Key)=τ:=by
 cases q:cZ (pB f g) (ZA k:Key) with
 |none=>rfl
 |some v=>
  have:=wQ q;unfold pB at this;rw[Zj]at this
  let{m,a,e}:=Ze.mp this
  have b:m=k:=Ě e;subst b;exact absurd a h
end
section
variable{P:ZC}{w:World}{K:Z6}{mg:Str->Option Value}{base:Heap}
theorem xO.ok{x g:Str}{st:Stmt}{f:Addr}{fd:Ë}{N ps:List Str}{k:Nat}{sp:Sp}(F:xO K x g st f fd)(S:rB N ps (aD st))(len:∀vs H Q E,sp vs H Q E->vs.9=ps.9)
 (l:∀(j:Value) (A:Around) (outer:List Env) (s:Shared) (H:Hp) (vs:List V) (Q:VK) (E:XK),d5 k (A.deeper (envOfC g (aD st) s.heap.objs.size f j))->sp vs H Q E ->
   ∃t,vp (pD cY P w K mg base N g (aD st) f j A outer s H E).Hs (cC st) t/\t (Ends.fn Q) (start N vs) H):aW P w K mg base cY (k+1) f fd ps sp:=by
 let{i,m,kV,c,pm,n,j,ct,d,rfl,lk,a}:=F.ex
 refine JD lk a S len λA outer s H vs Q E e b=>?_
 let{t,h,q}:=l j A outer s H vs Q E e b
 exact⟨t,h.Hs,q⟩
theorem fO(d:Addr)(o:Obj)(kvs:List (Key×V)):jS (HF d o kvs) (λH=>H d=ρ (.frz o (.dK kvs))) (kvs.map λg=>kV g.1) where
 go:=λi H ok h=>{ok,by rwa[Z4]at h}
 ur:=λi H x a ok h q=>by
  let{rfl,g,e,rfl}:=q
  refine{rfl,?_};rw[Z9,e];rfl
 stop:=λH ok=>{ok,by rw[Z4];exact Zf _}
end
section
variable{X:Cx}{tg:Expr}
theorem zH{P:ZC}{w:World}{K:Z6}{U:Expr}{it:Addr}{n:Nat}{Pv:Nat->Value->Prop}{St:Nat->Heap->Prop}{val:Nat->V}
 (T:∀A:Around,A.handled=τ->Walks P w A it [it] [it] n Pv St)
 (g:∀i h,St i h->∃(o:Obj) (nm:String) (vs:Array Value),h.get? it=ρ o/\o.cls=.type nm/\o.data=.fields vs/\Jw nm)
 (j:∀i h h',St i h->(∀o,h.get? it=ρ o->h'.get? it=ρ o)->St i h')
 (l:∀(A:Around) (i:Nat) (s:Shared) (Q:Value->Shared->Prop) (E:Value->Shared->Prop),St i s.heap->Q (.ref it) s->wpAny (model P w) A (pyIter (.ref it)) Q E s)
 (p:∀i u,Pv i u->RelV (val i) u):Turn P w K U (Oj n val) [it] it (λi h=>St i h/\i<=n) where
 mem:=by simp
 obj:=λi h st b f=>by
  have e:b=it:=by simpa using f
  subst e
  let{o,nm,vs,e,c,d,_}:=g i h st.1
  exact{o,e,λv z=>by rw[d]at z;cases z}
 keep:=λi h h' st k=>{j i h h' st.1 λo e=>k it (by simp) o e,st.2}
 item:=by
  intro X t hw x hc i a s σ H E I q st r;subst t hw x
  let{y,f1,f2,B,C,D}:=q it (by simp)
  refine(T X.A (I.ok.hd hc)).item i s _ _ r st.1 λv h' G L m J=>?_;have M:Inv X a σ H {s with heap:=h',toks:=G}:=I.turned (λb o f e=>J b o (by simpa using f) e) y f1 B C D
  let{o,nm,vs,e,c,d,hn}:=g _ _ m
  exact{1,Bg (s:={s with heap:=h',toks:=G}) e c d hn {val i,H,M,p i v L,⟨rfl,rfl⟩,⟨m,r⟩,λb f=>(q b f).1}}
 done:=by
   intro X t hw x hc i a s σ H E I q st r;subst t hw x
   let{y,f1,f2,B,C,D}:=q it (by simp)
   have e:i=n:=by
    have N:=st.2;have O:n<=i:=r
    lia
   subst e;exact(T X.A (I.ok.hd hc)).done s _ _ st.1 λh' G J=>{rfl,I.turned (λb o f e=>J b o (by simpa using f) e) y f1 B C D}
 self:=λA i s Q E st h=>l A i s Q E st.1 h
theorem wR{l:Expr}{C:TE}(hl:PE X l C):PI X tg l (PD C):=by
 refine{?_};intro f s σ H R I h;refine cj (hl f s σ H _ I h) λv a ⟨x,B,n,D,G⟩=>?_
 let{z,e,q}:=G
 subst e
 let{t,rfl}:=D
 have fin:∀(j:String) (o:Obj),(∀m:Around,m.handled=τ->Walks X.prog X.w m a.heap.objs.size [a.8] [a.8] z.cps.size (SignAt z) (λi h=>h.IsStrIter a.heap.objs.size j z t i)) ->
  (∀(A:Around) (i:Nat) (s:Shared) (Q:Value->Shared->Prop) (E:Value->Shared->Prop),s.heap.IsStrIter a.heap.objs.size j z t i->Q (.ref a.8) s->wpAny (model X.prog X.w) A (pyIter (.ref a.8)) Q E s) ->
  Jw j->(a.heap.push o).IsStrIter a.heap.objs.size j z t 0->Oq X f σ tg R (.ref a.8) {a with heap:=a.heap.push o}:=by
  intro j o J g p r
  refine{a.8,[a.8],_,_,B,rfl,n.kept (t':=a.toks) λb o e=>Zb _ e,
   zH (val:=Bn z) J (λi h st=>?_) (λi h O st k=>?_) g (λi u L=>?_),{r,ZE _},λb M=>?_,q}
  .let{o,e,c,d}:=st
   exact{o,j,_,e,c,d,p}
  .let{o,e,c,d}:=st
   exact{o,k o e,c,d}
  .let{c,N,hc,e}:=L
   refine{N,?_};rw[e,ς,hc];rfl
  .have e:b=a.8:=by simpa using M
   subst e;exact n.Cr (Zf _) (n.bc.fresh (Zf _))
 cases ha:z.cps.all (· < 128)
 .exact wpAny_pyIter_wide ha (fin "str_iterator" _ (λm y=>Walks.strWide y _ z t) (λA i s Q E st h=>wpAny_pyIter_striter_wide st h) ⋯ {_,Zr _ rfl,rfl,rfl})
 .exact wpAny_pyIter_ascii ha (fin "str_ascii_iterator" _ (λm y=>Walks.strAscii y _ z t) (λA i s Q E st h=>wpAny_pyIter_striter_ascii st h) ⋯ {_,Zr _ rfl,rfl,rfl})
theorem y4(hc:X.calm=true):cu X (.builtin "any") (λxs H Q=>∃p bs,xs=[.ref p]/\aM X.K H p (Ú V.bl bs)/\Q (.bl (bs.any id)) H):=by
 intro d s σ H xs o Q I r h
 let{p,bs,rfl,j,q}:=h
 let{u,rfl,k}:=vals1 r
 cases k
 let{a,l,pl,t}:=I.list j
 have f:=q8 l;have hl:=pl.isList;have m:=I.ok.hd hc;have c:p<s.8:=by let{_,e,_}:=hl;exact Zg e
 refine call_any_walk (ļ hl ?_)
 refine{s.8,[s.8,p],[s.8],a.toArray.size,_,_,λi=>(bs[i]?).getD false,rfl,Ŭ (A:=X.A.in1) m _ p (Zt c) a.6,
  {{_,Zr _ rfl,rfl,rfl},hl.push _},λi v w x y n g=>?_,λz B hk=>?_}
 .let{b,e,rfl}:=f.get i v (by simpa using n)
  simp only[e,wh9]at g;exact ď g
 .have e:((ZF a.toArray.size).any λi=>(bs[i]?).getD false)=bs.any id:=by
   rw[ZB,f.9];exact LSm.range_any bs
  rw[e];exact{.bl _,H,I.kept (LSm.kept_iter hk),rfl,q}
theorem gP(hc:X.calm=true):cu X (.builtin "all") (λxs H Q=>∃p bs,xs=[.ref p]/\aM X.K H p (Ú V.bl bs)/\Q (.bl (bs.all id)) H):=by
 intro d s σ H xs o Q I r h
 let{p,bs,rfl,j,q}:=h
 let{u,rfl,k}:=vals1 r
 cases k
 let{a,l,pl,t}:=I.list j
 have f:=q8 l;have hl:=pl.isList;have m:=I.ok.hd hc;have c:p<s.8:=by let{_,e,_}:=hl;exact Zg e
 refine call_all_walk (ļ hl ?_)
 refine{s.8,[s.8,p],[s.8],a.toArray.size,_,_,λi=>(bs[i]?).getD true,rfl,Ŭ (A:=X.A.in1) m _ p (Zt c) a.6,
  {{_,Zr _ rfl,rfl,rfl},hl.push _},λi v w x y n g=>?_,λz B hk=>?_}
 .let{b,e,rfl}:=f.get i v (by simpa using n)
  simp only[e,wh9]at g;exact ď g
 .have e:((ZF a.toArray.size).all λi=>(bs[i]?).getD true)=bs.all id:=by
   rw[ZB,f.9];exact LSm.range_all bs
  rw[e];exact{.bl _,H,I.kept (LSm.kept_iter hk),rfl,q}
theorem wU(hc:X.calm=true):cu X (.builtin "sorted") (λxs H Q=>∃d kvs g,xs=[.ref d]/\H d=ρ (.dK kvs)/\kvs.map (·.1)=Ú (ZA:Str->Key) g/\g.9<64 /\
 ∀l ss,H l=τ->ss.Perm g->sortedS ss=true->Q (.ref l) (upd H l (.lst (ss.map V.str)))):=by
 intro k s σ H xs Y Q I r h
 let{d,kvs,g,rfl,hd,hk,v,q}:=h
 let{u,rfl,N}:=vals1 r
 cases N
 let{D,lo,x,rel,O}:=sr I.bc hd
 let{ep,y}:=O.dictAt
 have R:=I.ok.hd hc;have n:kvs.9=g.9:=by have:=congrArg ð hk;simpa using this
 have hn:x.9<=sizeLine:=by rw[<-rel.9];exact D
 refine wcW wh3 wgw wgx (wgy _) ?_;unfold È.«sorted»;refine Z7 (m:=checkCount "sorted" 1 1 _) (Zc ?_);refine Z7 (wcT (A:=X.A.in1) (weR (knd:=bG X.prog X.w) (kvs:=x) (ep:=ep) lo) R y hn λi E a z c=>?_);have hl:a.toList.9=x.9:=by rw[ZR];exact c.1
 refine Z7 (Ξ ?_ (by rw[hl];exact hn));have B:StrsAre a.toList g:=xQ (P:=X.prog) (w:=X.w) hk rel hl λj u e=>c.2 j u (by rw[<-á];exact e);have f:(i.push (seqObj "list" a.toList.toArray 0)).get? i.7=ρ (seqObj "list" a.toList.toArray 0):=Zr _ rfl;have p:a.toList.9<64:=by rw[hl,<-rel.9,n];exact v
 refine Z7 (ZX (Č wfE {_,f,rfl} wfg (list_sort_treeK strKind_oneLt f B.keysOf (λG J rest e=>keyKind_strs (by rw[<-e];exact B)) p λC a1 a2=>{1,?_}) (wfF _)))
 let{t,S,L,T}:=sorted_out_str B a1 a2
 have M:Inv X k σ H {s with heap:=i,toks:=E}:=I.kept z
 let{e,U}:=wga (out:=(arrOf C).map (·.2)) f
 refine Zc {1,{.ref i.7,upd H i.objs.size (.lst (t.map V.str)),M.laid (t':=E) (λb o q=>?_) (Zf _) {?_,_,e,pw S,?_},rfl,q _ t (M.bc.fresh (Zf _)) L T}}
 .have lt:b<i.7:=Zg q;rw[wfG (Zt lt) (by rw[ω];exact Ă lt)];exact Zb _ q
 .rw[Z4,L.length_eq,<-n];exact D
 .rw[Ĳ];exact U
theorem mM(hc:X.calm=true):cu X (.type "list") (λxs H Q=>∃d kvs,xs=[.ref d]/\H d=ρ (.dK kvs)/\∀l,H l=τ->Q (.ref l) (upd H l (.lst (kvs.map λg=>kV g.1)))):=by
 intro k s σ H xs y Q I r h
 let{d,kvs,rfl,hd,q}:=h
 let{u,rfl,n}:=vals1 r
 cases n
 let{m,lo,f,rel,o}:=sr I.bc hd
 let{ep,i}:=o.dictAt
 have p:=I.ok.hd hc;have hn:f.9<=sizeLine:=by rw[<-rel.9];exact m
 refine wha (weR (knd:=bG X.prog X.w) (kvs:=f) (ep:=ep) lo) p i hn λt v b c kp x a=>?_;have hl:b.toList.9=f.9:=by rw[ZR];exact a.1
 refine{.ref s.8,_,I.laid (t':=v) kp (Zf _) (show bT X.prog X.w _ t _ (.lst (kvs.map λg=>kV g.1)) from {?_,b.toList,c,vi (P:=X.prog) (w:=X.w) rel hl λj u e=>a.2 j u (by rw[<-á];exact e),?_}),rfl,q _ (I.bc.fresh (Zf _))}
 .rw[Z4];exact m
 .rw[Ĳ];exact x
theorem zI(hc:X.calm=true):cu X (.type "list") (λxs H Q=>∃v d kvs,xs=[.ref v]/\H v=ρ (ni v d)/\H d=ρ (.dK kvs)/\∀l,H l=τ->Q (.ref l) (upd H l (.lst (kvs.map (·.2))))):=by
 intro k s σ H xs D Q I r h
 let{v,d,kvs,rfl,n,hd,q}:=h
 let{u,rfl,o}:=vals1 r
 cases o
 let{m,lo,b,rel,p}:=sr I.bc hd
 let{ep,i}:=p.dictAt
 let{g,_}:=(show bT X.prog X.w H s.heap v (ni v d) from I.bc v _ n)
 have x:=I.ok.hd hc;have hn:b.9<=sizeLine:=by rw[<-rel.9];exact m
 refine wha (wgz (knd:=bG X.prog X.w) (kvs:=b) (ep:=ep)) x ⟨g,i⟩ hn λy z a c kp A f=>?_;have hl:a.toList.9=b.9:=by rw[ZR];exact f.1
 have e:a.toList=b.map (·.2):=PySem.W.kdl_vals_eq a.toList hl λj u e=>f.2 j u (by rw[<-á];exact e)
 have B:∀{kvs:List (Key×V)} {b:List (Key×Value)},KV kvs b->Vals (kvs.map (·.2)) (b.map (·.2)):=λ{kvs b} r=>by
  induction r with
  |nil=>exact .nil
  |cons r t C=>exact .cons r.2 C
 refine{.ref s.8,_,I.laid (t':=z) kp (Zf _) (show bT X.prog X.w _ y _ (.lst (kvs.map (·.2))) from {?_,a.toList,c,by rw[e];exact B rel,?_}),rfl,q _ (I.bc.fresh (Zf _))}
 .rw[Z4];exact m
 .rw[Ĳ];exact A
theorem Cv{P:ZC}{w:World}{K:Z6}{g:List Expr}{k:Nat}{pos:Pos}(a e it:Addr)(j:e≠it):Turn P w K (.Tuple g k pos) (M1 K a) [e,it] e (λi h=>(∃old,IsEnum h e it (i:Nat) old)/\h.IsListIter it a i) where
 mem:=by simp
 obj:=λi h st b f=>by
  let{{old,c},o,t,hc,hd}:=st
  rcases ZD.mp f with rfl |f
  .exact{_,c,λv z=>by
    have Q:wh2 _=whw v:=z
    cases Q}
  .have R:b=it:=by simpa using f
   subst R;exact{o,t,λv z=>by rw[hd]at z;cases z}
 keep:=λi h O st k=>{st.1.imp λold c=>k e (by simp) _ c,st.2.at λo q=>k it (by simp) o q}
 item:=by
  intro X A hw B hc i l s σ H E I C st D;subst A hw B
  let{S,x,r,G}:=D
  let{J,L,p,T}:=I.list r
  let{u,U,V}:=L.get G
  let{{old,c},hit}:=st
  refine wpAny_pyNext_enum_item c hit p.isList (x:=u) (by simpa using U) j λO t m Y Z hk=>?_;refine{1,wem t λVj M d=>?_}
  let{_,N,_}:=id hit
  have n:e<s.8:=Zg c
  let{fr,I1,hn}:=xZ (y:=.int (i:Nat)) (s.toks+1) I C (λb o h q=>(d.2 b (Cg h).1).trans (hk b o (Cg h).1 (Cg h).2 q)) ((d.2 _ (ö n)).trans Y) {_,rfl} V (MG n (Zg N))
  exact{.ref s.8,_,I1,rfl,{s.8,x,fr,rfl,rfl,λys hy=>by rw[I.sv hy r];exact G},{{u,by simpa using M},m.at λo q=>(d.2 it (Á j)).trans q},hn}
 done:=by
   intro X A hw B hc i l s σ H E I C st D;subst A hw B
   let{S,r,G}:=D
   let{J,L,p,T}:=I.list r
   have hl:=L.9
   let{{old,c},hit}:=st
   let{g0,g1,g2,g3,g4,g5}:=C it (by simp)
   exact wpAny_pyNext_enum_end (I.ok.hd hc) c hit p.isList (Ķ (by simp;lia)) λO eb=>{rfl,I.turned (t':=s.toks) (λb o f e=>eb b o f e) g0 g1 g3 g4 g5}
 self:=λ_ _ _ _ _ st h=>let ⟨⟨_,c⟩,_⟩:=st;Ψ c h
theorem nA{g:List Expr}{k:Nat}{j:Pos}{l:Expr}{o:TA}{p pos:Pos}(r:Gl X "enumerate")(t:X.mg "enumerate"=τ)(ha:PA X [l] o)(hs:starEach [l] X.5=[(false,eval l X.5)]:=by rfl) :
 PI X (.Tuple g k j) (.Call (.Name "enumerate" p) [l] [] pos) (ML X.K o):=by
 refine{?_};intro c s σ H R I h;refine Call_ (j4 I r t js (wbX (cj (ha pos c s σ H _ I h) λD d ⟨E,m,i,v,w⟩=>?_) hs rfl))
 let{a,G,e,x,q}:=w
 subst e
 let{u,rfl,y}:=vals1 v
 cases y
 let{z,J,pl,L}:=i.list x
 refine call_enumerate_list pl.isList λA n hit B kp=>Ψ n ?_;have C:Inv X c σ m {d with heap:=A}:=i.kept (t':=d.toks) kp;refine{d.8+1,[d.8+1,d.8],_,_,m,rfl,C,Cv a _ _ (ö (Ď _)),{{_,n},hit},λb M=>?_,q}
 have f:d.8<=b:=by
  grind
 exact i.Cr f (i.bc.fresh f)
theorem wV(hc:X.calm=true):cu X (.type "list") (λxs H Q=>∃z,xs=[.str z]/\z.9<=sizeLine/\∀l,H l=τ->Q (.ref l) (upd H l (.lst (df z)))):=by
 intro m s σ H xs d Q I r h
 let{z,rfl,n,q}:=h
 let{u,rfl,t,rfl}:=vals1 r
 refine call_list_str (I.ok.hd hc) z t (λi o f c kp p b=>?_) n
 have v:∀(d:List Value) (a:List Nat),d.9=a.9->(∀(j:Nat) (u:Value),d[j]?=ρ u->∃c g,a[j]?=ρ c/\u=.str {#[c]} g)->Vals (a.map λc=>V.str {#[c]}) d:=by
  intro d
  induction d with
  |nil=>
   intro a hl _;have:a=[]:=ĵ.mp hl.symm;subst this;exact .nil
  |cons u d x=>
   intro a hl h
   cases a with
   |nil=>simp at hl
   |cons c a=>
    let{y,g,A,B}:=h 0 u rfl
    have k:c=y:=by simpa using A
    subst k;exact .cons ⟨g,B⟩ (x a (by simpa using hl) λj u i=>h (j+1) u (by simpa using i))
 have hl:f.toList.9=z.cps.toList.9:=by rw[ZR,ZR];exact b.1
 refine{.ref s.8,_,I.laid (t':=o) kp (Zf _) (show bT X.prog X.w _ i _ (.lst (df z)) from {?_,f.toList,c,v f.toList z.cps.toList hl λj u e=>?_,?_}),rfl,q _ (I.bc.fresh (Zf _))}
 .unfold df;rw[Z4,ZR];exact n
 .let{c,g,C,D}:=b.2 j u (by rw[<-á];exact e)
  exact{c,g,by rw[á];exact C,D}
 .rw[Ĳ];exact p
theorem zJ(hc:X.calm=true):cu X (.type "list") (λxs H Q=>∃(p:Addr) (n:Nat),xs=[.ref p]/\H p=ρ (.rng 0 (n:Int))/\n<=sizeLine/\∀l,H l=τ->Q (.ref l) (upd H l (.lst ((ZF n).map λi=>V.int (i:Nat))))):=by
 intro m s σ H xs b Q I r h
 let{p,n,rfl,x,hn,q}:=h
 let{u,rfl,y}:=vals1 r
 cases y
 let{t,u,v,e}:=I.bc p _ x
 have f:n<=2^24:=by rw[Ö]at hn;lia
 refine call_list_range (I.ok.hd hc) (n:=n) (show IsRange s.heap p 0 (n:Int) 1 t u v from e) (small_one () () () ()) (by rw[rangeSize_one];split<;>lia) f λg z d c kp A a=>?_
 have B:∀(b:List Value) (k:Nat),(∀(j:Nat) (u:Value),b[j]?=ρ u->∃t,u=.int ((k+j:Nat):Int) t)->Vals ((wfs k b.9).map λi=>V.int (i:Nat)) b:=by
  intro b
  induction b with
  |nil=>intro k _;exact .nil
  |cons u b C=>
   intro k h
   let{t,e}:=h 0 u rfl
   rw[ZP,whb,Zw];refine .cons ⟨t,e⟩ (C (k+1) λj u g=>?_)
   let{t,e}:=h (j+1) u (by simpa using g)
   exact{t,by rw[e];congr 1;lia}
 have hl:d.toList.9=n:=by rw[ZR];exact a.1
 have o:=B d.toList 0 λj u e=>by
  let{t,D}:=a.2 j u (by rw[<-á];exact e)
  exact{t,by rw[D];congr 1;lia}
 rw[hl,<-List.range_eq_range']at o;refine{.ref s.8,_,I.laid (t':=z) kp (Zf _) (show bT X.prog X.w _ g _ (.lst ((ZF n).map λi=>V.int (i:Nat))) from {?_,d.toList,c,o,?_}),rfl,q _ (I.bc.fresh (Zf _))}
 .rw[Z4,ZJ];exact hn
 .rw[Ĳ];exact A
theorem j9:jZ X (binaryOp .Mult) (λx y H Q=>∃z n,x=.str z/\y=.int n/\MulOk z n/\Q (.str (é z n)) H):=by
 intro a s σ H x y v u Q I b c h
 let{z,n,rfl,rfl,ok,q}:=h
 let{t,rfl}:=b
 let{e,rfl}:=c
 exact SB.mul ok λd k=>{.str _,H,I.tok k,⟨d,rfl⟩,q}
theorem g9(hc:X.calm=true):cu X (.builtin "sum") (λxs H Q=>∃p ns,xs=[.ref p]/\aM X.K H p (Ú V.int ns)/\Q (.int ns.sum) H):=by
 intro b s σ H xs j Q I r h
 let{p,ns,rfl,d,q}:=h
 let{u,rfl,f}:=vals1 r
 cases f
 let{a,g,pl,k}:=I.list d
 let{c,e,rfl}:=mF g
 have hl:s.heap.IsList p (intItems c.6):=by
  have:intItems c.6=a.6:=by rw[e];unfold intItems;simp
  rw[this];exact pl.isList
 refine sum_intListG (I.ok.hd hc) hl λl m i hk=>?_;refine{.int _,H,I.kept hk,{i,?_},q};rw[preSum_eq,Š (by simp)]
theorem EG:PX X .Mult V7:=by
 intro a s σ H x y v u Q I b c h
 let{i,j,d,e,hc,q}:=h
 subst d;subst e
 let{t,rfl}:=b
 let{f,rfl}:=c
 exact imul_int {.int _,H,I.tok _,{_,rfl},q} hc.ok
theorem Cw(hc:X.calm=true):cu X (.builtin "max") (λxs H Q=>∃p ns,xs=[.ref p]/\aM X.K H p (Ú V.int ns)/\ns≠[]/\∀M,M∈ns->(∀a∈ns,a<=M)->Q (.int M) H):=by
 intro g s σ H xs w Q I r h
 let{p,ns,rfl,i,c,q}:=h
 let{u,rfl,k}:=vals1 r
 cases k
 let{d,l,pl,x}:=I.list i
 let{b,e,rfl}:=mF l
 have hl:s.heap.IsList p (intItems b.6):=by
  have:intItems b.6=d.6:=by rw[e];unfold intItems;simp
  rw[this];exact pl.isList
 have f:0<b.toArray.size:=by
  rw[ZB];exact wgA λz=>c (by rw[Đ z];rfl)
 refine max_intList (I.ok.hd hc) hl f λv y A m hk=>?_
 let{t,rfl}:=intItems_at m
 let{B,n}:=argBest_gt (numAt b.6) (b.toArray.size-1)
 refine{.int _,H,I.kept hk,⟨t,rfl⟩,q _ ?_ λa ha=>?_}
 .rw[numAt_eq];exact getD_mem (by rw[Z4];simp only[ZB]at *;omega)
 .let{j,o,rfl}:=mem_getD ha
  rw[Z4]at o;have:=n j (by simp only[ZB]at *;omega);rw[numAt_eq]at this;exact this
def iw(K:Z6)(J:It)(l:Addr)(σf:St)(tt:TT)(te:TE)(H:Hp)(Q:Hp->Prop):Prop:=
 ∃W:Nat->Nat->List V->Hp->Prop,(∃m,W 0 m [] (upd H l (.lst [])))/\∀i m ys H2,W i m ys H2->H2 l=ρ (.lst ys) /\
  ((J.stop i H2/\Q H2)\/(J.go i H2/\ys.9<sizeLine/\∀x H3,J.ur i H2 x H3->∃p a b,x=.ref p/\g8 K H3 p [a,b]/\tt (ρ a::ρ b::σf) H3 λok H4=>
    if ok=true then te (ρ a::ρ b::σf) H4 λy H5=>H5 l=ρ (.lst ys)/\∃m',m'<m/\W (i+1) m' (ys++[y]) (upd H5 l (.lst (ys++[y])))
    else ∃m',m'<m/\W (i+1) m' ys H4))
def EH(K:Z6)(wi:TI)(ix:List Nat)(tt:TT)(te:TE):TE:=λσ H Q=>wi σ H λJ H1=>∀l,H1 l=τ->iw K J l (pick σ ix) tt te H1 (λH2=>Q (.ref l) H2)
def HP(K:Z6)(wi:TI)(ix:List Nat)(tt:TT)(te:TE)(i:Nat):TS:=λD σ H=>wi σ H λJ H1=>∀l,H1 l=τ->iw K J l (pick σ ix) tt te H1 (λH2=>D.nx (σ.set i (ρ (.ref l))) H2)
theorem ja:jZ X (binaryOp .Add) N8:=by
 intro d s σ H x y v u Q I g i h
 let{l,b,t,w,rfl,rfl,j,k,A,q}:=h
 cases g;cases i
 let{z,c,n,r,e}:=j.ok I.bc
 let{B,a,C,f,m}:=k.ok I.bc
 have hl:=r.9;have o:=f.9;refine wh8 e m ?_ (by grind);have p:c.6++a.6=(c++a).6:=by simp
 rw[p];exact{.ref _,_,I.N7 (t':=s.toks) (r.append f) (by grind),rfl,q _ I.fresh}
theorem Cy{K:Z6}(g:X.K=K)(hc:X.calm=true):cu X (.builtin "sum") (λxs H Q=>∃p ns,xs=[.ref p]/\aM K H p (Ú V.int ns)/\Q (.int ns.sum) H):=by
 subst g;exact g9 hc
def sE(K:Z6)(J:It)(l:Addr)(σf:St)(tt:TT)(te:TE)(H:Hp)(Q:Hp->Prop):Prop:=
 ∃W:Nat->Nat->List V->Hp->Prop,(∃m,W 0 m [] (upd H l (.lst [])))/\∀i m ys H2,W i m ys H2->H2 l=ρ (.lst ys) /\
  ((J.stop i H2/\Q H2)\/(J.go i H2/\ys.9<sizeLine/\∀x H3,J.ur i H2 x H3->∃p a b c,x=.ref p/\g8 K H3 p [a,b,c]/\tt (ρ a::ρ b::ρ c::σf) H3 λok H4=>
    if ok=true then te (ρ a::ρ b::ρ c::σf) H4 λy H5=>H5 l=ρ (.lst ys)/\∃m',m'<m/\W (i+1) m' (ys++[y]) (upd H5 l (.lst (ys++[y])))
    else ∃m',m'<m/\W (i+1) m' ys H4))
def Kq(K:Z6)(wi:TI)(ix:List Nat)(tt:TT)(te:TE):TE:=λσ H Q=>wi σ H λJ H1=>∀l,H1 l=τ->sE K J l (pick σ ix) tt te H1 (λH2=>Q (.ref l) H2)
end
section
variable{X:Cx}{pins:List (Addr×Obj)}{σ:St}{H:Hp}{s:Shared}{e:Addr}
theorem Cx.Ok.marked(ok:X.Ok):(X.marked e).Ok:=
 {ok.mod,ok.kind,ok.glob,ok.blt,ok.above,ok.inj,ok.has,ok.K3,λz=>Bool.noConfusion z,ok.frames,ok.LZ,ok.Oh,ok.bs,ok.E5,ok.zf,ok.Cb,ok.ng,ok.Hq}
theorem Inv.marked(I:Inv X pins σ H s):Inv (X.marked e) pins σ H s:=⟨I.ok.marked,I.os,I.bare,I.base,I.loc,I.cell,I.free,I.gz,I.pin,I.bc,I.len⟩
theorem Inv.unmarked(ok:X.Ok)(I:Inv (X.marked e) pins σ H s):Inv X pins σ H s:=⟨ok,I.os,I.bare,I.base,I.loc,I.cell,I.free,I.gz,I.pin,I.bc,I.len⟩
theorem Qi(e:h.get? x=ρ {.ref C,od,.fields vs,sl}):bT P w H h x (XC x C od):=
 {⟨vs,sl,e⟩,{_,e},λd f ⟨a,b,c⟩ k=>{a,b,k _ c}}
theorem Inv.N9{φ:Heap->Prop}(I:Inv X pins σ H s)(hn:H x=τ)(g:X.s₀.8<=x)(hl:x≠X.env.locals)(hc:∀y c,X.env.cells.lookup y=ρ c->c≠x)(j:∀p∈X.pn++pins,p.1≠x)(ok:bT X.prog X.w (upd H x (.ext φ)) s.heap x (.ext φ)) :
 Inv X pins σ (upd H x (.ext φ)) s:=by
 have u:=I.base;refine{I.ok,I.os,I.bare,{u.keep,u.slot,λb o q n h=>?_,u.there,λb f q=>?_,λb o v q=>?_,λb ps q=>?_},I.loc,I.cell,by rw[af (Á hl)];exact I.free,λy c e=>by rw[af (hc y c e)];exact I.gz y c e,λp d=>?_,λa o e=>?_,I.len}
 .rw[af (λz=>by rw[z]at q;exact absurd (Zx (Zg q) g) (Ø _))];exact u.free b o q n h
 .have e:=u.pj b f q;rw[af (aa e hn)];exact e
 .have e:=u.nc b o v q;rw[af (aa e hn)];exact e
 .let{m,e}:=u.pk b ps q
  exact{m,by rw[af (aa e hn)];exact e}
 .let{a1,a2,a3}:=I.pin p d
  exact{a1,by rw[af (j p d)];exact a2,a3}
 .by_cases z:a=x
  .subst z;rw[a7]at e;cases e;exact ok
  .rw[af z]at e;refine(I.bc a o e).qX (λb u _ q=>q) (λb q=>?_) λb f q=>?_
   .rw[af (aa q hn)];exact q
   .rw[af (aa q hn)];exact q
theorem Inv.EI{m:Str->Option Value}(I:Inv X pins σ H s)(J:X.N.Nodup)(C:X.N[j]?=ρ n)(hk:X.env.scope.names.lookup n=ρ .local)
 (T:∃m,s.heap.Ns X.env.locals m/\(∀(i:Nat) (x:Str) (v:V),X.N[i]?=ρ x->σ[i]?=ρ (ρ v)->LY X.env.scope x->∃u,RelV v u/\Look X.env s.heap m x u)/\h'.Ns X.env.locals (λx=>if x=n then v else m x))
 (hs:ć X.env.locals s.heap h'):Inv X pins (σ.set j τ) H {s with heap:=h',toks:=tk}:=by
 let{m,hn,hl,r}:=T
 have Cp:=I.Cp
 let{Q,_,_,A,_}:=id hn
 refine{I.ok,I.os,I.bare,{λb o e n t h=>?_,λb o e n t h=>?_,I.base.free,λb o e h=>?_,I.base.pj,I.base.nc,I.base.pk},{_,r,λi y B g l D=>?_},λy c e=>?_,I.free,I.gz,λp E=>?_,λb ob e=>?_,by simpa using I.len}
 .exact(hs.2 b (Zt (Zx (Zg e) I.ok.above))).trans (I.base.keep b o e n t h)
 .let{sl,g}:=I.base.slot b o e n t h
  exact{sl,(hs.2 b (Zt (Zx (Zg e) I.ok.above))).trans g}
 .let{G,g}:=I.base.there b o e h
  exact{G,(hs.2 b (Zt (Zx (Zg e) I.ok.above))).trans g}
 .by_cases f:i=j
  .subst f;have:i<σ.9:=by rw[I.len];exact(Za.mp C).1
   rw[ŋ this]at l;cases l
  .rw[Ś (Á f)]at l
   let{L,M,q}:=hl i y B g l D
   refine{L,M,?_};rcases q with⟨k,e⟩ |⟨k,c,e,z⟩
   .refine .inl {k,?_};have:y≠n:=λe=>f (rQ J g (e ▸ C));simp[this,e]
   .exact .inr {k,c,e,z.sameBut hs (Cp y c e)}
 .let{w,z}:=I.cell y c e
  exact{w,z.sameBut hs (Cp y c e)}
 .let{e,n,ne,O,d}:=I.pin p E
  exact{(hs.2 p.1 ne).trans e,n,ne,O,d}
 .refine(I.bc b ob e).qX (λc w hc q=>(hs.2 c ?_).trans q) (λ_ q=>q) λ_ _ q=>q;rintro rfl;have a:=I.free;rcases hc with rfl |hc
  .rw[a]at e;cases e
  .rw[a]at hc;cases hc
theorem y6{K:Z6}{J:It}(h:iw K J l g j o H Q):vt (E7 K 2 (k4 (dA 0) (k4 (dA 1) E6))) 2 J l g j o H Q:=
 let ⟨W,a,t⟩:=h
 {W,a,λi m ys f w=>let ⟨p,q⟩:=t i m ys f w;{p,q.imp id λ⟨a,b,c⟩=>{a,b,λx k n u y=>by revert n;refine zt 2 _ ?_;exact λ_ _=>let ⟨p,v,d,e,r,s⟩:=c x k y;{p,[v,d],e,r,rfl,v,[d],rfl,d,[],rfl,rfl,{[ρ v,ρ d],rfl,rfl},s}}}}
theorem EJ{K:Z6}{J:It}(h:sE K J l g j o H Q):vt (E7 K 3 (k4 (dA 0) (k4 (dA 1) (k4 (dA 2) E6)))) 3 J l g j o H Q:=
 let ⟨W,a,t⟩:=h
 {W,a,λi m ys k w=>let ⟨p,q⟩:=t i m ys k w;{p,q.imp id λ⟨a,b,c⟩=>{a,b,λx n r z y=>by revert r;refine zt 3 _ ?_;exact λ_ _ _=>let ⟨p,v,f,d,e,u,s⟩:=c x n y;{p,[v,f,d],e,u,rfl,v,[f,d],rfl,f,[d],rfl,d,[],rfl,rfl,{[ρ v,ρ f,ρ d],rfl,rfl},s}}}}
end
section
variable{m:Str}
abbrev EK(X:Cx)(ifs:List Expr)(t:TT):Prop:=Bx (∀(pins:List (Addr×Obj)) (s:Shared) (σ:St) (H:Hp) (Q:Bool->Hp->Prop),Inv X pins σ H s->t σ H Q ->
  wpAny (model X.prog X.w) X.A (forIn ifs true λc r=>if r=true then do let ok <-isTrue c X.env (eval c X.5);pure (Ř ok) else pure (Ř r)) (TP X pins σ Q) X.xe s)
theorem b8{X:Cx}:EK X [] rV:={λ_ _ _ H _ I h=>wpAny_tests_nil ⟨H,I,h⟩}
theorem dh{X:Cx}(h:PT X c t):EK X [c] t:={λa s σ H Q I hw=>wpAny_tests_one (h a s σ H Q I hw)}
theorem Nb{α:Type}{M:Model}{A:Around}{m:Sem α}{Q:α->Shared->Prop}{E:Value->Shared->Prop}{s:Shared}(h:wpAny M A m Q (λ_ _=>False) s):wpAny M A m Q E s:=Å h (λ_ _ x=>x) λ_ _ z=>z.elim
end
section
variable{X:Cx}{pins:List (Addr×Obj)}{σ:St}{H:Hp}{s₂:Shared}{scope:Ð}{x:Str}{xs ys:List Str}{ix:List Nat}{cl:List (Str×Addr)}{fp:List Addr}{L:Addr}
theorem HQ(B:bQ X scope x ys ix)(I:Inv X pins σ H s₂)(j:∀b∈fp,rR X pins H b)(l:∀b∈fp,b<s₂.8)(r:s₂.8<=L)
 (g:∀y c,cl.lookup y=ρ c->X.env.cells.lookup y=ρ c) (p:∀y∈scope.names,y.2=.free->∃c,cl.lookup y.1=ρ c):(bq X scope N cl L s₂ H fp (X.pn++pins)).Ok where
 mod:=I.ok.mod
 kind:=B.kind
 glob:=I.ok.glob
 blt:=I.ok.blt
 above:=r
 inj:=λa b c i m=>I.ok.inj a b c (g a c i) (g b c m)
 has:=λa ha=>by
  let{k,f,hk}:=wJ (env:=X.5) B.Eh (x:=a) ha
  exact p (a,k) f hk
 K3:=λ_ _ h=>nomatch h
 hd:=I.ok.hd
 frames:=I.ok.frames
 LZ:=.inl rfl
 Oh:=λb d=>{Zt (Zx (l b d) r),λy c h=>(j b d).2.2.2.2.1 y c (g y c h)}
 bs:=I.bs
 E5:=Zn I.ok.E5 I.sz
 zf:=λb o e d=>by
  rcases(j b d).2.2.2.1 with z |z
  .exact I.ok.zf b o e z
  .exact absurd (Zx (Zx (Zg e) I.ok.E5) z) (Ø _)
 Cb:=λb d f=>by
  rcases ZD.mp (I.si b f) with z |z
  .exact(j b d).2.1 z
  .exact(j b d).2.2.1 z
 ng:=I.stack
 Hq:=I.rE
theorem EL{m₁:Str->Option Value}(B:bQ X scope x ys ix)(I:Inv X pins σ H s₂)(hf:∀b∈fp,rR X pins H b)(J:∀b∈fp,b<s₂.8)(T:s₂.8<=L)
 (g:∀y c,cl.lookup y=ρ c->X.env.cells.lookup y=ρ c) (C:∀y∈scope.names,y.2=.free->∃c,cl.lookup y.1=ρ c)
 (kp:∀b o,s₂.heap.get? b=ρ o->t.get? b=ρ o) (U:t.Ns L m₁) (hl:l=s₂.8) (Vk:l≠L) (ho:t.get? l=ρ {cls:=.type "list",data:=.seq ([]:List Value).toArray n₀}) :
 Inv (bq X scope (xs++ys) cl L s₂ H fp (X.pn++pins)) [] (Ġ xs.length τ++pick σ ix) (upd H l (.lst [])) {s₂ with heap:=t,toks:=tk}:=by
 subst hl;have Q:=I.bc.fresh (Zf s₂.8);refine{HQ B I hf J T g C,rfl,I.bare,Un.laid kp (Zf _) Q,{m₁,U,λi y v D E Z=>?_},λy c e=>?_,?_,λy c e=>?_,λp O=>?_,I.bc.laid kp (Zf _) {ZE _,[],n₀,.nil,ho},?_}
 .obtain⟨j,rfl⟩:∃j,i=xs.9+j:=by
   by_cases z:i<xs.9
   .rw[ZN (by simpa using z)]at E;simp[z]at E
   .exact{i-xs.9,()}
  have G:ys[j]?=ρ y:=by
   have D:(xs++ys)[xs.9+j]?=ρ y:=D;rwa[ZL (Nat.le_add_right _ _),Ρ]at D
  let{i,hi,R,hk,a}:=B.slots j y G
  have f:(σ[i]?).join=ρ v:=by
   have:(pick σ ix)[j]?=ρ (ρ v):=by rwa[ZL (by simp),wdy,Ρ]at E
   unfold pick at this;rw[Z9,hi]at this;exact Zi this
  have s:σ[i]?=ρ (ρ v):=by
   cases q:σ[i]? with
   |none=>rw[q]at f;cases f
   |some z=>rw[q]at f;rw[show z=ρ v from f]
  let{m,hn,M}:=I.loc
  have N:LY X.env.scope y:=.inr (hk.imp id id)
  let{u,r,l}:=M i y v R s N
  refine{u,r,.inr {rZ a,?_}};rcases l with⟨k,_⟩ |⟨_,c,hc,h⟩
  .have A:X.env.scope.names.lookup y=ρ .local:=k;rcases hk with z |z
   .rw[z]at A;cases A
   .rw[z]at A;cases A
  .let{S,w}:=C (y,.free) (Ő a) rfl
   have:=g y S w;rw[hc]at this;cases this
   let{o,q,d}:=h
   exact{c,w,o,kp c o q,d}
 .let{v,o,q,d}:=I.cell y c (g y c e)
  exact{v,o,kp c o q,d}
 .show upd H s₂.heap.objs.size (.lst []) L=τ;rw[af (Á Vk)];exact I.bc.fresh T
 .let{v,o,q,d}:=I.cell y c (g y c e)
  rw[af (Zt (Zg q))];exact I.gz y c (g y c e)
 .rw[Ó]at O
  let{q,n,ne,V,d}:=I.pin p O
  have lt:=Zg q;refine{kp _ _ q,by rw[af (Zt lt)];exact n,Zt (Zx lt T),λY=>?_,d};rcases ZD.mp (I.si p.1 Y) with z |z
  .exact ne z
  .exact V z
 .simp[pick,B.len,bq]
theorem BA(B:bQ X scope x ys ix)(cl L s H ex pn):PG (bq X scope ([x]++ys) cl L s H ex pn) (.Name x g) (dA 0):=
 have a:(relabel scope X.5).names.lookup x=ρ .local:=Ō B.var
 j6 B.nd rfl (.inl a) (.inr a)
end
section
variable{X:Cx}{e:Expr}{es:List Expr}{te:TE}{t:TA}
theorem a5(ha:PE X e te)(g:PA X es t)(hs:starEach (e::es) X.5=(false,eval e X.5)::starEach es X.5:=by rfl):PA X (e::es) (Bk te t):=by
 refine{?_};intro pos a s σ H Q I h;rw[hs];show wpAny _ _ (spliced ((false,eval e X.5)::backTo pos (starEach es X.5))) _ _ s;refine Calls.spliced_cons (cj (ha a s σ H _ I h) λu b ⟨x,c,d,f,i⟩=>?_);exact cj (g pos a b σ c _ d i) λo p ⟨j,k,l,m,n⟩=>{x::j,k,l,.cons f m,n}
theorem aC(ha:PE X e te)(hs:starEach [e] X.5=(false,eval e X.5)::starEach [] X.5:=by rfl):PA X [e] (Bk te Ce):=a5 ha dS hs
end
section
variable{X:Cx}{o i:Expr}{td ty:TE}
theorem Kr(j:X.A.units+1<À)(hi:PE X i ty)(l:PE X o td):PC X .In i o (PB ty td):=by
 refine{?_};intro b s σ H Q I h;refine cj (hi b s σ H _ I h) λv c ⟨y,d,e,f,k⟩=>cj (l b c σ d _ e k) λu w ⟨x,m,n,p,a,q,ex,g,r⟩=>?_;subst ex;obtain rfl:u=Zo a:=p;exact Qh j n g f λz t=>{.bl q.isSome,m,t,rfl,r}
theorem vA(j:X.A.units+1<À)(hi:PE X i ty)(l:PE X o td):PC X .NotIn i o (HE ty td):=by
 refine{?_};intro b s σ H Q I h;refine cj (hi b s σ H _ I h) λv c ⟨y,d,e,f,k⟩=>cj (l b c σ d _ e k) λu w ⟨x,m,n,p,a,q,ex,g,r⟩=>?_;subst ex;obtain rfl:u=Zo a:=p;exact HN j n g f λz t=>{.bl (!q.isSome),m,t,rfl,r}
end
section
variable{X:Cx}{e:Expr}{es:List Expr}{te:TE}{t:TJ}{pos:Pos}
theorem zK(h:PJ X es t):PJ X (.Constant (.str z) j pos::es) (Qe z t):={λa s σ H b Q I q=>
 joinParts_cons (wgv {q.1,h a _ σ H _ Q (I.tok _) q.2})}
theorem ER(he:PE X e te)(h:PJ X es t):PJ X (.FormattedValue e (-1) τ pos::es) (Qf te t):={λa s σ H j Q I q=>by
 refine joinParts_cons (FormattedValue_plain (cj (he a s σ H _ I q) λv n ⟨y,d,f,g,k⟩=>?_));rcases k with⟨i,rfl,hl,b,c⟩ |⟨z,rfl,hl,b,c⟩
 .let{l,rfl}:=g
  exact formatField_int_small hl {b,h a _ σ d _ Q (f.tok _) c}
 .let{l,rfl}:=g
  exact formatField_str (λo m=>{b,h a _ σ d _ Q (f.tok _) c}) hl}
end
section
variable{X:Cx}{x:Str}{p pos:Pos}{e:Expr}{es:List Expr}{t:TA}{id:String}{r:List V->Hp->VK->Prop}
def Ov(r:List V->Hp->VK->Prop)(t:TA):TE:=λσ H Q=>t σ H λvs H1=>r vs H1 Q
theorem ak(hc:cu X (.builtin id) r)(j:Gl X x)(l:X.mg x=τ)(o:ZW x=ρ (.builtin id))(ha:PA X (e::es) t)(hn:x≠"__name__":=by decide)(g:(x==("__debug__":Str))=false:=by decide)
 (he:starEach (e::es) X.5=(false,eval e X.5)::starEach es X.5:=by rfl) (hpl:(backTo pos (starEach es X.5)).any (·.1)=false:=by rfl):PE X (.Call (.Name x p) (e::es) [] pos) (Ov r t):=by
 refine{?_};intro a s σ H Q I h;refine ę (j4 I j l o ?_ hn g);exact wdL (cj (ha pos a s σ H _ I h) λb c ⟨d,f,i,k,m⟩=>hc a c σ f d b Q i k m) he hpl
end
section
variable{X:Cx}{e:Expr}{te:TE}{lo hi:Option Expr}{tl th:TO}{pos p2:Pos}
def Qj(X:Cx)(r:V->Option Int->Option Int->Hp->VK->Prop):Prop:=
 ∀(pins:List (Addr×Obj)) (s:Shared) (σ:St) (H:Hp) (x:V) (v vl vu:Value) (lo hi:Option Int) (sl:Addr) (Q:VK),Inv X pins σ H s->RelV x v->s.heap.IsSliceOf sl vl vu .none->IsPart vl lo->IsPart vu hi->r x lo hi H Q ->
  ∃T id,δ (.type T) "__getitem__"=pure (ρ (.builtin id))/\s.TypeIs v T/\wpAny (model X.prog X.w) X.A (getItem v (.ref sl)) (EP X pins σ Q) X.xe s
theorem cB{r:V->Option Int->Option Int->Hp->VK->Prop}(j:Qj X r)(he:PE X e te)(hl:PO X lo tl)(o:PO X hi th):PE X (.Subscript e (.Slice lo hi τ p2) pos) (Vd r te tl th):=by
 refine{?_};intro a s σ H Q I h;refine Subscript_ (cj (he a s σ H _ I h) λv i ⟨x,k,m,n,p⟩=>?_);refine wpAny_Slice (cj (hl a i σ k _ m p) λd t ⟨l,y,z,pl,B⟩=>cj (o a t σ y _ z B) λf c ⟨u,g,C,D,E⟩=>?_);rw[evalPart_none];refine Zc ?_;have G:Inv X a σ g {c with heap:=c.heap.push {cls:=.type "slice",data:=.fields #[d,f,.none]}}:=C.kept (t':=c.toks) λb ob q=>Zb _ q
 let{T,id,J,L,M}:=j a {c with heap:=c.heap.push {cls:=.type "slice",data:=.fields #[d,f,.none]}} σ g x v d f l u c.heap.objs.size Q G n (Heap.IsSliceOf.new ..) pl D E
 show wpAny (model X.prog X.w) X.A (wg9 e (.Slice lo hi τ p2) v (.ref c.8)) (EP X a σ Q) X.xe {c with heap:=c.heap.push {cls:=.type "slice",data:=.fields #[d,f,.none]}};exact tail_any (ops:=[.ref c.8,v]) L J M (by with_unfolding_all rfl)
end
section
variable{X:Cx}{o e:Expr}{es:List Expr}{to:TE}{t:TA}{name:Str}{apos gN:Pos}{T id:String}{r:V->List V->Hp->VK->Prop}
theorem EV(p:wfW T)(slot:Slot T name id)(l:typeOf (.builtin id)=pure (.type "method_descriptor"))(C:Kj X id r)(J:PE X o to)
 (g:ė o name X.env (eval o X.5)=eval o X.5:=by rfl) (j:(apos.endLine==gN.line)=true:=by rfl):PE X (.Call (.Attribute o name apos) [] [] gN) (N1 X.K T r to):=by
 refine{?_};intro a s σ H Q I h;refine wpAny_Call_method0_late g j (cj (J a s σ H _ I h) λv d ⟨x,e,b,c,ty,f⟩=>?_)
 let{i,k}:=Ex b c ty
 exact{T,id,p,slot,l,i,k,wft rfl (PySem.evalArgs_none (C a d σ e x [] v [] Q b c .nil f))}
theorem fJ(J:wfW T)(slot:Slot T name id)(C:typeOf (.builtin id)=pure (.type "method_descriptor"))(U:Kj X id r)(ho:PE X o to)(ha:PA X (e::es) t)
 (j:ė o name X.env (eval o X.5)=eval o X.5:=by rfl)
 (p:((backTo gN (starEach (e::es) X.5)).all (λx=>!x.1)&&(backToKw gN (Ĝ [] X.5)).all (λx=>x.1.isSome)
   && decide ((e::es).9+([]:List Ň).9+(if ([]:List Ň).isEmpty then 0 else 1)<30))=true:=by rfl)
 (l:(apos.endLine==gN.line)=true:=by rfl) (hs:starEach (e::es) X.5=(false,eval e X.5)::starEach es X.5:=by rfl) (g:(backTo gN (starEach es X.5)).any (·.1)=false:=by rfl) :
 PE X (.Call (.Attribute o name apos) (e::es) [] gN) (SJ X.K T r to t):=by
 refine{?_};intro a s σ H Q I h;refine wpAny_Call_method_late j p l rfl (cj (ho a s σ H _ I h) λv f ⟨x,i,b,c,ty,k⟩=>?_)
 let{m,n}:=Ex b c ty
 refine{T,id,J,slot,C,m,n,?_};have d:=ha gN a f σ i _ b k;rw[hs]at d ⊢;refine wft (by show (false ||(backTo gN (starEach es X.5)).any (·.1))=false;rw[g]<;>rfl) (Calls.evalArgs_plain ?_);exact cj d λq u ⟨w,y,z,A,B⟩=>U a u σ y x w v q Q z c A B
theorem mN:Qj X (λx lo hi H Q=>∃z,x=.str z/\z.9<=sizeLine/\Q (.str (ZZ z lo hi)) H):=by
 intro a s σ H x v p r lo hi sl Q I m n pl f h
 let{z,rfl,b,q}:=h
 let{t,rfl}:=m
 refine{"str",_,slot_str_getitem.lookup,typeIs_str s z t,?_};have fin:∀d k,EP X a σ Q (.str (ZZ z lo hi) d) {s with toks:=k}:=λd k=>{.str _,H,I.tok k,⟨d,rfl⟩,q}
 let{o,c,hc,hd}:=n
 cases pl with
 |none=>cases f with
  |none=>exact Λ (l:=τ) (u:=τ) (st:=τ) ⟨o,c,hc,hd⟩ rfl (Τ {Zn (Ĺ z _ _) b,fin})
  |int j e=>exact Λ (l:=τ) (u:=ρ (j,e)) (st:=τ) ⟨o,c,hc,hd⟩ rfl (Τ {Zn (Ĺ z _ _) b,fin})
 |int i g=>cases f with
  |none=>exact Λ (l:=ρ (i,g)) (u:=τ) (st:=τ) ⟨o,c,hc,hd⟩ rfl (Τ {Zn (Ĺ z _ _) b,fin})
  |int j e=>exact Λ (l:=ρ (i,g)) (u:=ρ (j,e)) (st:=τ) ⟨o,c,hc,hd⟩ rfl (Τ {Zn (Ĺ z _ _) b,fin})
end
section
variable{te:MH}{i:Nat}
theorem BC{X:Cx}{K:Z6}{o:Expr}{t:TE}{name:Str}{apos g:Pos}{T id:String}{r:V->List V->Hp->VK->Prop}(C:X.K=K)(I:wfW T)(slot:Slot T name id)(p:typeOf (.builtin id)=pure (.type "method_descriptor"))(J:Kj X id r)(U:PE X o t)
 (j:ė o name X.env (eval o X.5)=eval o X.5:=by rfl) (l:(apos.endLine==g.line)=true:=by rfl):PE X (.Call (.Attribute o name apos) [] [] g) (N1 K T r t):=by
 subst C;exact EV I slot p J U j l
noncomputable def Qk(te:MH)(i:Nat):M4:=λE D σ H=>te (E σ) σ H λv H1=>D.nx (σ.set i (ρ v)) H1
end
section
variable{prog:ZC}{w:World}{A:Around}{E:Value->Shared->Prop}{s:Shared}{K:Z6}{x dx C:Addr}{mA:Str->Option Value}{name:Str}{v:Value}
theorem get_map{Q:Value->Shared->Prop}(X:K.In s.heap)(I:zg s.heap x dx C mA)(j:wdt K C name=true)(l:wes K C=true)
 (ha:Û K (.ref C) name=ρ τ) (o:mA name=ρ v) (g:wh7 v=true) (h:Q v {s with toks:=s.toks+1}) :
 wpAny (model prog w) A (getAttr (.ref x) name expr) Q E s:=by
 let{a,J,hl}:=I.look
 exact PySem.W.get_value X J (wdY j).1 (PySem.W.findObj_own l ha rfl (by rw[hl,o])) g h
theorem HR{Q:Unit->Shared->Prop}(X:K.In s.heap)(I:zg s.heap x dx C mA)
 (hs:Û K (.ref C) "__setattr__"=ρ (ρ (.builtin "object.__setattr__"))) (g:wgM K C=true) (j:wfb K C name=ρ τ) (l:wes K C=true)
 (hw:ű mA ns) (hsz:ns.9<=sizeLine)
 (h:∀h',zg h' x dx C (λy=>if y=name then ρ v else mA y)->ć dx s.heap h'->Q .unit {s with heap:=h',toks:=s.toks+2}) :
 wpAny (model prog w) A (setAttr (.ref x) name v) Q E s:=by
 let{p,J,hl}:=I.look
 refine wey X J hs (PySem.W.osa_open (s:={s with toks:=s.toks+1}) (r:=τ) X J g j λb=>?_)
 let{q,hc,e}:=PySem.W.any_some l
 have i:s.heap.get? x=ρ {.ref C,ρ dx,.plain,#[]}:=I.obj;refine Z7 (Zc (Z7 (Z7 (΢ i (Z7 (we8 (s:={s with toks:=s.toks+1}) (wdg X hc) ?_))))));rw[e];refine Zc (a:=ρ dx) (Z7 (Zc (Z7 ?_)));refine wgB (s:={s with toks:=s.toks+1}) I.ns λh' c d=>?_
 let{t,k,m,f,n,o}:=c.count (wfh name v hw)
 refine Z7 (weS f (by grind [weT,Zn]) ?_);exact Zc (h _ {(d.2 _ (Á I.ne)).trans I.obj,c,I.ne} d)
end
section
variable{prog:ZC}{w:World}{A:Around}{E:Value->Shared->Prop}{s:Shared}{K:Z6}{x dx C f:Addr}{mA:Str->Option Value}{name:Str}
theorem EW{Q:Value×List Value->Shared->Prop}(X:K.In s.heap)(I:zg s.heap x dx C mA)(g:wdt K C name=true)
 (j:Û K (.ref C) name=ρ (ρ (.ref f))) (l:weP K (.ref f)=true) (o:mA name=τ) (h:Q (.ref f,[.ref x]) s) :
 wpAny (model prog w) A (ķ (.ref x) name pl) Q E s:=by
 let{a,J,hl}:=I.look
 exact PySem.W.method_fn X J (wdY g).1 (wdY g).2 j (beq_iff_eq.mp l) (by show (Θ name a).map (·.isSome)=ρ false;rw[hl,o];rfl) h
theorem EX{R:à->Shared->Prop}(X:K.In s.heap)(l:whn K C=true)
 (hi:Û K (.ref C) "__init__"=ρ (ρ (.ref f))) (o:PySem.W.typeIn K (.ref f)=ρ (.type "function"))
 (h:codeAny (model prog w) (A.under (.builtin "type.__call__" {.ref C::vs,j})) (.call (.ref f) {.ref (s.8+1)::vs,j}) (PySem.W.InitBack (s.8+1) R)
   {s with heap:=(s.heap.push Ę).push (Ħ C s.8)}) :
 codeAny (model prog w) A (.call (.ref C) ⟨vs,j⟩) R s:=by
 let{a,g,d,t,os}:=s
 exact PySem.W.make_core (PySem.W.makes_of X l) (ő X hi) (λself=>PySem.W.bind_fn X self o) (.inl rfl) h
end
section
variable{X:Cx}{pins:List (Addr×Obj)}{σ:St}{H:Hp}{s:Shared}{a C dx:Addr}{fs:List (Str×V)}{f:Str}{A:Around}{E:Value->Shared->Prop}
theorem Inv.made(I:Inv X pins σ H s):Inv X pins σ (upd (upd H s.heap.objs.size (.own (s.8+1))) (s.8+1) (.ins C s.heap.objs.size []))
 {s with heap:=(s.heap.push Ę).push (Ħ C s.8)}:=by
 have c:(s.heap.push Ę).get? s.8=ρ Ę:=Zr s.heap rfl
 have d:((s.heap.push Ę).push (Ħ C s.8)).get? (s.8+1)=ρ (Ħ C s.8):=by
  have:=Zr (s.heap.push Ę) (o:=Ħ C s.8) rfl;rwa[ã]at this
 have f:(s.heap.push Ę).Ns s.heap.objs.size (λ_=>τ):={Ę,#[],_,c,rfl,(λe g=>absurd g (by simp)),λ_=>rfl};have h:=I.laid (a:=s.8) (o:=.own (s.8+1)) (h':=s.heap.push Ę) (t':=s.toks) (λb u q=>Zb _ q) (Zf _) {_,c};refine h.laid (a:=s.8+1) (o:=.ins C s.heap.objs.size []) (t':=s.toks) (λb u q=>Zb _ q) (Ŷ (ã _ _)) ?_;have ne:s.heap.objs.size≠s.8+1:=Zt (Ď _);refine{by rw[af ne,a7],ZE _,ne,d,λ_=>τ,(wgO f).at λo q=>Zb _ q,λ_=>Õ,λy i=>absurd rfl i}
theorem BD{Q:Value->Shared->Prop}(j:ė e f env (eval e env)=eval e env)
 (h:wpAny (model prog w) A (eval e env) (λo g=>wpAny (model prog w) A (getAttr o f true) Q E g) E s):wpAny (model prog w) A (eval (.Attribute e f pos) env) Q E s:=
 Attribute_any_ h (by rw[arm_eval_Attribute,j])
end
section
variable{X:Cx}{ys:List Str}
theorem lW{K:Z6}(g:X.K=K):cu X (.type "list") (λxs H Q=>∃p ys,xs=[.ref p]/\(aM K H p ys\/g8 K H p ys)/\∀l,H l=τ->Q (.ref l) (upd H l (.lst ys))):=by
 subst g;exact dg
end
section
variable{sp:Sp}{t:TA}
noncomputable def Ks(sp:Sp)(t:TA):MH:=λE σ H Q=>t σ H λvs H1=>sp vs H1 Q E
end
section
variable{f C:Addr}
structure Mk(K:Z6)(C f:Addr):Prop where
 makes:whn K C=true
 init:Û K (.ref C) "__init__"=ρ (ρ (.ref f))
 fn:weP K (.ref f)=true
 kp:ğ K (.ref C)=true
end
section
variable{X:Cx}{st:Stmt}{tx:M4}
theorem EY(g:SH X st tx):MY X [st] tx:=by
 refine{?_};intro a s σ H D E I h;refine Ű (Å (g a s σ H D E I h) (λf b q=>?_) λ_ _ z=>z)
 cases f with
 |next=>exact ņ q
 |ret v=>exact q
 |brk=>exact q
 |cont=>exact q
end
section
variable{X:Cx}{t u:TS}{pos:Pos}
theorem aT{c:Expr}{a b:List Stmt}{g:TT}(hc:PT X c g)(ha:vp X a t)(l:vp X b u):PS X (.If c a b pos) (Qb g t u):=by
 refine{?_};intro e s σ H D I h;refine wpAny_If (cj (hc e s σ H _ I h) λd f ⟨i,j,k⟩=>?_)
 cases d with
 |true=>exact ha e f σ i D j k
 |false=>exact l e f σ i D j k
end
section
variable{prog:ZC}{w:World}{A:Around}{R:à->Shared->Prop}{s:Shared}
theorem Cz(I:Nat->Shared->Prop)
 (C:∀n s,I n s->wpAny (model prog w) A (pyNext it) (λr g=>match r with
   |none=>R (.ok .next) g
   |some v=>wpAny (model prog w) A (Υ target it v) (λ_ j=>wpAny (model prog w) A (assign target env v) (λ_ o=>
     wpAny (model prog w) A (forIn J true λc r=>if r=true then do let ok <-isTrue c env (eval c env);pure (Ř ok) else pure (Ř r)) (λok l=>
      if ok=true then wpAny (model prog w) A (eval T env) (λx p=>
       wpAny (model prog w) A (call (.builtin "list.append") [U,x]) (λ_ t=>∃m,m<n/\I m t) (notedBy (model prog w) A env λe s'=>R (.error e) s') p) (notedBy (model prog w) A env λe s'=>R (.error e) s') l
      else ∃m,m<n/\I m l) (notedBy (model prog w) A env λe s'=>R (.error e) s') o) (notedBy (model prog w) A env λe s'=>R (.error e) s') j) (notedBy (model prog w) A env λe s'=>R (.error e) s') g) (notedBy (model prog w) A env λe s'=>R (.error e) s') s)
 (n:Nat) (h:I n s) :
 codeAny (model prog w) A (.compLoop (.ListComp T [⟨target,iter,J,0⟩] scope pos) 0 it U env) R s:=by
 refine codeAny_loop rfl I (λn s u=>?_) n h;show wpAny _ A ((compTurn (.ListComp T [⟨target,iter,J,0⟩] scope pos) 0 it U env).onRaise (λx=>do noteFrame x env;theTreesLotGoes x)) _ _ s;refine wpAny_noted ?_;rw[compTurn_list];refine Z7 (Ŕ (Z7 (Å (C n s u) (λr g b=>?_) λ_ _ a=>a)))
 cases r with
 |none=>exact Zc b
 |some v=>
  refine Z7 (Å b (λ_ j f=>?_) λ_ _ a=>a);refine Z7 (Å f (λ_ o i=>Z7 (Å i (λok l d=>?_) λ_ _ a=>a)) λ_ _ a=>a)
  cases ok with
  |false=>exact Zc ⟨rfl,d⟩
  |true=>
   exact Z7 (Z7 (Å d (λx p k=>Z7 (Å k (λ_ t q=>Zc (Zc ⟨rfl,q⟩)) λ_ _ a=>a)) λ_ _ a=>a))
end
section
variable{X:Cx}{ta:TE}{a b:Expr}{pos:Pos}
theorem ck(g:jZ X (Æ op) r)(ha:PE X a ta)(j:PE X b l)(h:op≠.In:=by decide)(I:op≠.NotIn:=by decide):PT X (.Compare a [op] [b] pos) (Ju (Mw r ta l)):=eZ g ha j (ip _ h I)
end
section
variable{X:Cx}{pins:List (Addr×Obj)}{σ:St}{H:Hp}{s s':Shared}
theorem Inv.after(I:Inv X pins σ H s)(h:CE X.stack X.prog X.w H s Q u s'):EP X pins σ Q u s':=by
 let{v,c,os,bare,un,bc,r,q}:=h
 let{e,g,d,t,a}:=s'
 obtain rfl:a=s.os:=os;exact{v,c,I.call (h':=e) (g':=g) (d':=d) (t':=t) (ch:=[]) un bc bare (λb z=>absurd z (by simp)),r,q}
end
section
variable{X:Cx}{CX:DW}{k:Nat}{f C:Addr}{fd:Ë}{ps:List Str}{sp:Sp}{uv:List V}{ds:List Value}{E:XK}{x:Str}{p pos:Pos}{e:Expr}{es:List Expr}{t:TA}
theorem zL(F:aW X.prog X.w X.K X.mg X.base CX k f fd ps sp)(j:d5 k X.A)(l:Binds X.K fd ps ds)(hd:Vals uv ds)(J:Passes CX X E)
 (I:Inv X g σ H s) (r:Vals vs us) (h:sp (vs++uv) H Q E):wpAny (model X.prog X.w) X.A (call (.ref f) us) (EP X g σ Q) X.xe s:=by
 have b:Vals (vs++uv) (us++ds):=r.append hd;have hl:(us++ds).9=ps.9:=by rw[<-b.9];exact F.len _ _ _ _ h
 refine â (Þ (F.run X.A X.stack s H {us,[]} (us++ds) (vs++uv) Q E j I.HL (l s us I.gE hl) b h) λr c a=>?_)
 cases r with
 |error e=>exact J g σ H s e c I a
 |ok fl=>
  cases fl with
  |ret u=>exact I.after a
  |next=>exact Ä a
  |brk=>exact Ä a
  |cont=>exact Ä a
theorem lE(F:aW X.prog X.w X.K X.mg X.base CX k f fd ps sp)(j:d5 k X.A)(l:Gl X x)(J:X.mg x=ρ (.ref f))(hk:ğ X.K (.ref f)=true)(T:Binds X.K fd ps ds)(hd:Vals uv ds)(U:Passes CX X E)
 (ha:PA X (e::es) t) (g:(x==("__debug__":Str))=false:=by decide) (he:starEach (e::es) X.5=(false,eval e X.5)::starEach es X.5:=by rfl) (hpl:(backTo pos (starEach es X.5)).any (·.1)=false:=by rfl) :
 PE X (.Call (.Name x p) (e::es) [] pos) (Jv sp uv E t):=by
 refine{?_};intro a s σ H Q I h;refine ę (i6 I l J ?_ g);refine ť (h₀:=X.base) I.ok.mod.Jq hk (cj (ha pos a s σ H _ I h) λc d ⟨i,m,b,r,q⟩=>{b.gE,?_}) he hpl;exact zL F j T hd U b r q
theorem EZ(M:Mk X.K C f)(F:aW X.prog X.w X.K X.mg X.base CX k f fd ps sp)(l:d5 (k+1) X.A)(J:Binds X.K fd ps ds)(hd:Vals uv ds)
 (T:Passes CX X E) (I:Inv X g σ H s) (r:Vals vs us)
 (h:∀x j,H x=τ->H j=τ->j≠x->sp (.ref x::(vs++uv)) (upd (upd H j (.own x)) x (.ins C j [])) (λv U=>v=.non/\Q (.ref x) U) E) :
 wpAny (model X.prog X.w) X.A (call (.ref C) us) (EP X g σ Q) X.xe s:=by
 have c:=h (s.8+1) s.heap.objs.size (I.bc.fresh (í _)) (I.bc.fresh (Zf _)) (Zt (Ď _));have b:=Inv.made (C:=C) I;have d:Vals (V.ref (s.8+1)::(vs++uv)) (Zo (s.8+1)::(us++ds)):=.cons rfl (r.append hd)
 have hl:(Zo (s.8+1)::us++ds).9=ps.9:=by
  have e:=d.9;rw[F.len _ _ _ _ c]at e;exact e.symm
 refine â (EX (f:=f) I.gE M.makes M.init (beq_iff_eq.mp M.fn) (Þ (F.run _ X.stack _ _ {Zo (s.8+1)::us,[]} (Zo (s.8+1)::(us++ds)) _ _ E (l.make C us [])
  (b.HL.make C us []) (J _ (Zo (s.8+1)::us) b.gE hl) d c) λr i a=>?_))
 cases r with
 |error e=>exact T g σ _ _ e i b a
 |ok fl=>
  cases fl with
  |ret u=>
   let{v,m,n,o,p,q}:=b.after a
   subst p;exact{o,{V.ref (s.8+1),m,n,rfl,q}}
  |next=>exact Ä a
  |brk=>exact Ä a
  |cont=>exact Ä a
theorem jb(M:Mk X.K C f)(F:aW X.prog X.w X.K X.mg X.base CX k f fd ps sp)(j:d5 (k+1) X.A)(l:Gl X x)(J:X.mg x=ρ (.ref C))(T:Binds X.K fd ps ds)(hd:Vals uv ds)(U:Passes CX X E)
 (ha:PA X (e::es) t) (g:(x==("__debug__":Str))=false:=by decide) (he:starEach (e::es) X.5=(false,eval e X.5)::starEach es X.5:=by rfl) (hpl:(backTo pos (starEach es X.5)).any (·.1)=false:=by rfl) :
 PE X (.Call (.Name x p) (e::es) [] pos) (MA C sp uv E t):=by
 refine{?_};intro a s σ H Q I h;refine ę (i6 I l J ?_ g);refine ť (h₀:=X.base) I.ok.mod.Jq M.kp (cj (ha pos a s σ H _ I h) λc d ⟨i,m,b,r,q⟩=>{b.gE,?_}) he hpl;exact EZ M F j T hd U b r q
end
section
variable{X:Cx}{k:Nat}{f:Addr}{fd:Ë}{ps:List Str}{sp:Sp}{x:Str}{p pos:Pos}{e:Expr}{es:List Expr}{t:TA}
theorem HS(F:aW X.prog X.w X.K X.mg X.base (z9 X.prog X.w) k f fd ps sp)(j:d5 k X.A)(l:Binds X.K fd ps [])
 (I:Inv X g σ H s) (r:Vals vs us) (h:sp vs H Q E):wpAny (model X.prog X.w) X.A (call (.ref f) us) (EP X g σ Q) (Q4 X g σ E) s:=by
 have hl:(us++[]).9=ps.9:=by rw[Ó,<-r.9];exact F.len _ _ _ _ h
 have a:=l s us I.gE hl;rw[Ó]at a;refine â (Þ (F.run X.A X.stack s H {us,[]} us vs Q E j I.HL a r h) λr c b=>?_)
 cases r with
 |error e=>exact⟨H,s,I,b⟩
 |ok fl=>
  cases fl with
  |ret u=>exact I.after b
  |next=>exact Ä b
  |brk=>exact Ä b
  |cont=>exact Ä b
theorem F0(F:aW X.prog X.w X.K X.mg X.base (z9 X.prog X.w) k f fd ps sp)(j:d5 k X.A)(l:Gl X x)(J:X.mg x=ρ (.ref f))(hk:ğ X.K (.ref f)=true)(T:Binds X.K fd ps [])
 (ha:PA X.Hs (e::es) t) (g:(x==("__debug__":Str))=false:=by decide) (he:starEach (e::es) X.5=(false,eval e X.5)::starEach es X.5:=by rfl) (hpl:(backTo pos (starEach es X.5)).any (·.1)=false:=by rfl) :
 SG X (.Call (.Name x p) (e::es) [] pos) (Ks sp t):=by
 refine{?_};intro a s σ H Q E I h;refine ę (i6 I l J ?_ g);refine ť (h₀:=X.base) I.ok.mod.Jq hk (Nb (cj (ha pos a s σ H _ (I.nh _) h) λd i c=>?_)) he hpl
 let{m,n,b,r,q}:=c.gm
 exact{b.gE,Å (HS F j T b r q) (λ_ _ z=>z) λ_ _ z=>z}
end
section
variable{X:Cx}
theorem ag(F:aW X.prog X.w X.K X.mg X.base cY k f fd ps sp)(a:FnAt X.K X.mg x sm ps f fd)(ha:PA X (e::j) t)(o:d5 k X.A:=by exact d5.mono (by assumption) ⋯)(r:Gl X x:=by rfl)(l:(x==("__debug__":Str))=false:=by decide)
 (he:starEach (e::j) X.5=(false,eval e X.5)::starEach j X.5:=by rfl) (hpl:(backTo pos (starEach j X.5)).any (·.1)=false:=by rfl):PE X (.Call (.Name x p) (e::j) [] pos) (Jv sp [] E0 t):=
 lE F o r a.g a.F.kp a.b .nil lU ha l he hpl
end
section
variable{X:Cx}{pins:List (Addr×Obj)}{σ:St}{H:Hp}{s:Shared}{x:Addr}{φ:Heap->Prop}
theorem Inv.del(I:Inv X pins σ H s)(g:H x=ρ (.ext φ)):Inv X pins σ (_L.del H x) s:=by
 have ne:∀{b:Addr} {o:HO},H b=ρ o->(∀ψ,o≠.ext ψ)->b≠x:=λe n z=>by rw[z,g]at e;exact n φ (Zi e).symm
 have nn:∀{b:Addr},H b=τ->_L.del H x b=τ:=λ{b} e=>by
  by_cases z:b=x
  .rw[z];exact fx
  .rw[gj z];exact e
 have u:=I.base;refine{I.ok,I.os,I.bare,{u.keep,u.slot,λb o q n d=>nn (u.free b o q n d),u.there,λb f q=>?_,λb o v q=>?_,λb ps q=>?_},I.loc,I.cell,nn I.free,λy c e=>nn (I.gz y c e),λp h=>?_,λa o e=>?_,I.len}
 .have e:=u.pj b f q;rw[gj (ne e λψ z=>by cases z)];exact e
 .have e:=u.nc b o v q;rw[gj (ne e λψ z=>by cases z)];exact e
 .let{m,e}:=u.pk b ps q
  exact{m,by rw[gj (ne e λψ z=>by cases z)];exact e}
 .let{a1,a2,a3}:=I.pin p h
  exact{a1,nn a2,a3}
 .have i:H a=ρ o:=by
   by_cases z:a=x
   .rw[z,fx]at e;cases e
   .rw[gj z]at e;exact e
  refine(I.bc a o i).qX (λb u _ q=>q) (λb q=>?_) λb f q=>?_
  .rw[gj (ne q λψ z=>by cases z)];exact q
  .rw[gj (ne q λψ z=>by cases z)];exact q
end
section
variable{P:ZC}{w:World}{H:Hp}{h h':Heap}{x e:Addr}{o':HO}
theorem j1.write(ok:j1 P w H h)(g:Ms (H x))(he:e=x\/H e=ρ (.own x))(k:∀b u,b≠e->h.get? b=ρ u->h'.get? b=ρ u)(l:∃u,h'.get? e=ρ u)
 (new:bT P w (upd H x o') h' x o'):j1 P w (upd H x o') h':=λb u q=>by
 have d:∀c y,H c=ρ (.own y)->c≠x:=λc y r z=>by subst z;rw[r]at g;exact g
 have f:∀c i,H c=ρ (.tup i)->c≠x:=λc i r z=>by subst z;rw[r]at g;exact g
 by_cases j:b=x
 .subst j;rw[a7]at q;cases q;exact new
 .rw[af j]at q
  by_cases a:b=e
  .have m:H b=ρ (.own x):=by
    rcases he with z |z
    .exact absurd (a.trans z) j
    .rw[a];exact z
   rw[q]at m;cases m
   let{v,n}:=l
   exact{v,by rw[a];exact n}
  .refine(ok b u q).qX (λc v hc r=>k c v ?_ r) (λc r=>by rw[af (d c b r)];exact r) λc i r=>by rw[af (f c i r)];exact r
   rcases hc with rfl |hc
   .exact a
   .rintro rfl;rcases he with z |z
    .exact d c b hc z
    .rw[hc]at z;cases z;exact j rfl
end
section
variable{fs ex:List Addr}{H:Hp}{h h':Heap}{x e:Addr}{o:HO}
theorem Un.write(g:Ms (H x))(he:e=x\/H e=ρ (.own x))(k:∀b u,b≠e->h.get? b=ρ u->h'.get? b=ρ u)(j:∃u,h'.get? e=ρ u):Un fs ex H (upd H x o) h h':=by
 have f:∀b,H b=τ->b≠x:=λb n z=>by subst z;rw[n]at g;exact g
 have d:∀b,H b=τ->b≠e:=λb n z=>by
  subst z;rcases he with r |r
  .grind
  .grind
 have c:∀b u,H b=ρ u->¬Ms (ρ u)->b≠x:=λb u q i z=>by subst z;rw[q]at g;exact i g
 refine{λb u q n _ _=>k b u (d b n) q,λb u q n _ _=>{u.slots,k b u (d b n) q},λb u q n _=>by rw[af (f b n)];exact n,λb u q _=>?_,
  λb l q=>by rw[af (c b _ q λz=>z)];exact q,λb u l q=>by rw[af (c b _ q λz=>z)];exact q,λb ps q=>{#[],by rw[af (c b _ q λz=>z),q];simp}}
 by_cases a:b=e
 .subst a;exact j
 .exact{u,k b u a q}
end
section
variable{X:Cx}{pins:List (Addr×Obj)}{σ:List (Option V)}{H:Hp}{s:Shared}{h':Heap}
theorem Inv.write(I:Inv X pins σ H s)(j:Ms (H x))(he:e=x\/H e=ρ (.own x))(k:∀b u,b≠e->s.heap.get? b=ρ u->h'.get? b=ρ u)(g:∃u,h'.get? e=ρ u)
 (new:bT X.prog X.w (upd H x o) h' x o):Inv X pins σ (upd H x o) {s with heap:=h',toks:=t'}:=I.un (Un.write j he k g) (I.bc.write j he k g new)
end
section
variable{X:Cx}{a b c:Expr}{ta tb tc:TE}{pos:Pos}
theorem y8(o:jZ X (Æ op) r)(j:jZ X (Æ g) p)(ha:PE X a ta)(t:PE X b tb)(hc:PE X c tc)
 (C:lastMarks [op,g] [b,c]=false:=by with_unfolding_all rfl):PE X (.Compare a [op,g] [b,c] pos) (Kf r p ta tb tc):=by
 refine{?_};intro f s σ H Q I h
 refine Compare_chain (cj (ha f s σ H _ I h) λv q ⟨x,w,A,B,D⟩=>chain_link (cj (t f q σ w _ A D) λu E ⟨y,G,J,i,L⟩=>
  cj (o f E σ G x y v u _ J B i L) λd M ⟨z,l,m,N,k,e,n⟩=>?_)) C
 subst e;cases N;refine ď ?_
 cases k with
 |false=>exact ite_ff {.bl false,l,m,rfl,n}
 |true=>exact ite_tt (chain_last (cj (hc f M σ l _ m n) λO R ⟨S,T,U,V,Y⟩=>j f R σ T y S u O Q U i V Y))
theorem Inv.Kt{g:List (Addr×Obj)}{σ:St}{H:Hp}{s:Shared}{p:Addr}{xs ys:List V}{j its':List Value}{n n':Nat}{f:Obj->Obj}(I:Inv X g σ H s)(h:H p=ρ (.lst xs))
 (o:s.heap.get? p=ρ {cls:=.type "list",data:=.seq j.toArray n}) (l:f {cls:=.type "list",data:=.seq j.toArray n}={cls:=.type "list",data:=.seq its'.toArray n'}) (r:Vals ys its') (hz:ys.9<=sizeLine) (t:Nat) :
 Inv X g σ (upd H p (.lst ys)) {s with heap:=s.heap.update p f,toks:=t}:=by
 have e:(s.heap.update p f).get? p=ρ {cls:=.type "list",data:=.seq its'.toArray n'}:=by
  rw[ħ f o (by rw[l]<;>rfl),l]
 refine I.write (x:=p) (e:=p) (by rw[h];trivial) (.inl rfl) (λb u a q=>(ZY _ _ (Á a)).trans q) {_,e} ?_;exact⟨hz,its',n',r,e⟩
theorem set_list:MT X N0:=by
 intro a s σ H o i v C D u Q I w x y h
 let{p,z,k,j,rfl,rfl,e,A,q}:=h
 cases w
 let{t,rfl}:=x
 let{b,n,r,d,B}:=I.lst e
 let{c,E,f,g}:=Bm A
 have hl:=r.9;have hn:=mE
 have l:Inv X a σ (upd H p (.lst (z.set j v))) {s with heap:=s.heap.update p (ê (·.setIfInBounds j u))}:=
  I.Kt e d (zD b n j u) (r.set y j) (by rw[ě];exact B) s.toks
 by_cases m:0<=k
 .have hk:k.toNat=j:=by
   rw[wh1 m g]at c;exact Zi c
  exact PySem.W.ki_setAt d m () (by rw[ZB,<-hl];exact g) (by rw[hk];exact{_,l,q})
 .have hk:(k+(b.toArray.size:Int)).toNat=j:=by
   rw[wgu () f]at c;rw[ZB,<-hl];exact Zi c
  exact PySem.W.ki_setBack d () (by rw[ZB,<-hl];exact f) () (by rw[hk];exact{_,l,q})
end
section
variable{X:Cx}{pins:List (Addr×Obj)}{σ:St}{H:Hp}{s:Shared}{l:Addr}{xs ys:List V}
theorem Inv.Nc{g its':List Value}{n:Nat}{f:Array Value->Array Value}{t':Nat}(I:Inv X pins σ H s)(j:H l=ρ (.lst xs))
 (e:s.heap.get? l=ρ {cls:=.type "list",data:=.seq g.toArray n}) (o:f g.6=its'.6) (p:Vals ys its') (hz:ys.9<=sizeLine) :
 Inv X pins σ (upd H l (.lst ys)) {s with heap:=s.heap.update l (ê f),toks:=t'}:=by
 have q:=PySem.IsL.update e f;rw[o]at q;refine I.write (x:=l) (e:=l) (by rw[j];exact trivial) (.inl rfl) (λc u a b=>(ZY s.heap (ê f) (Á a)).trans b) {_,q} ?_;exact{hz,its',_,p,q}
theorem cb:SD X "list.append" HJ:=by
 intro b s σ H x i v j Q I d f h
 let{l,k,y,rfl,rfl,c,m,q}:=h
 cases d
 let{u,rfl,g}:=f.one
 let{z,a,n,r,hl,e}:=I.HM c
 refine call_meets ZS {_,e,rfl} F.entry_list_append (F.args_list_append_2 _ _) (PySem.list_append l a.toArray n u (by grind)) {e,?_};refine{.non,_,I.Nc (its':=a++[u]) c e (by simp) (r.append (.cons g .nil)) ?_,rfl,q};rw[Zd,Ŏ]
 lia
theorem Ku:SD X "list.pop" Q8:=by
 intro d s σ H x m v o Q I g i h
 let{l,p,y,rfl,rfl,f,j,q}:=h
 cases g;have b:=i.zero;subst b
 let{z,a,n,r,hl,e}:=I.HM f
 let{u,t,k}:=r.get j
 have c:a.toArray[a.toArray.size-1]?=ρ u:=by
  grind
 refine call_meets wgC {_,e,rfl} F.entry_list_pop (F.args_list_pop_1 _) (MeetsSeq.list_pop_last l a.toArray n u c (by grind)) {e,?_};refine{y,_,I.Nc (its':=a.dropLast) f e ?_ r.dropLast ?_,k,q}
 .grind
 .grind
end
section
variable{X:Cx}{pins:List (Addr×Obj)}{σ:St}{H:Hp}{s:Shared}{a:Addr}{y v:V}{u r:Value}{A:Around}{E:Value->Shared->Prop}
theorem CA{Q:Value->Shared->Prop}(C:A.units+1<À)(I:Inv X pins σ H s)(g:dI H a y (ρ v))(t:RelV y u)(h:∀j s',Inv X pins σ H s'->RelV v j->Q j s') :
 wpAny (model X.prog X.w) A (getItem (.ref a) u) Q E s:=by
 rcases g with⟨d,k,e,f,l⟩ |⟨d,k,b,e,f,n,l⟩
 .subst f
  let{z,hd,q,rel,i}:=kg I.bc e
  let{j,hw,c}:=iY.rA (v:=v) (o:=valueAt q k) (by rw[l];exact rel.val k)
  exact wpAny_getItem_of (vc t) i.mapOf hw (h j _ (I.tok _) c)
 .subst f;cases(show u=Zo b from t)
  let{z,hd,r,rel,i}:=xW I.bc e
  let{j,hw,c}:=iY.rA (v:=v) (o:=(atKey r k).map (·.2)) (by rw[l];exact rel.val k)
  let{p,x,m}:=Ζ.mp hw
  refine wpAny_getItem_heap (wd5 C) (su I.bc n) i x ?_;rw[m];exact h j _ (I.tok _) c
theorem wW(I:Inv X pins σ H s)(g:Ms (H a))(hs:ć a s.heap h')(he:∃q,h'.get? a=ρ q)(new:bT X.prog X.w (upd H a ob) h' a ob) :
 Inv X pins σ (upd H a ob) {s with heap:=h',toks:=t'}:=
 I.write (x:=a) (e:=a) g (.inl rfl) (λb q c z=>(hs.2 b c).trans z) he new
theorem CC{Q:Unit->Shared->Prop}(J:A.units+1<À)(I:Inv X pins σ H s)(g:jT H a y v T)(t:RelV y u)(C:RelV v r)(h:∀s',Inv X pins σ T s'->Q .unit s') :
 wpAny (model X.prog X.w) A (setItem (.ref a) u r) Q E s:=by
 rcases g with⟨d,k,e,j,l,m⟩ |⟨d,k,b,e,j,x,l,m⟩
 .subst j m
  let{z,hd,G,rel,n}:=sr I.bc e
  have o:G.9<=sizeLine:=by rw[<-rel.9];exact z
  have hl:(putK d k v).9<=sizeLine:=by have:=k8 d k v;lia
  refine wpAny_setItem_pairs (hsz:=o) (vc t) n λB f p=>h _ ?_;have L:∃q,B.get? a=ρ q:=let ⟨q,_,_,i,_⟩:=f;⟨q,i⟩
  exact wW I (by rw[e];exact Õ) p L (Er hl hd (rel.put k C) f)
 .subst j m;cases(show u=Zo b from t)
  let{z,hd,M,rel,n}:=MZ I.bc e
  have o:M.9<=sizeLine:=by rw[<-wg8 rel];exact z
  have hl:(putK d k v).9<=sizeLine:=by have:=k8 d k v;lia
  refine wpAny_setItem_heap (hsz:=o) (wd5 J) (su I.bc x) n λB f p=>h _ ?_
  let{q,N,O,i,R,S,U,_,V}:=f
  refine wW I (by rw[e];exact Õ) p ⟨q,i⟩ {hl,hd,_,(rel.put k x C).keeps λc Y D=>?_,q,N,O,i,R,S,U,V};rw[af (Mr D e (λz=>nomatch z))];exact D
end
theorem BE{X:Cx}(h:Ot X pos keys values j)(g:keys.all (·.isSome)=true)(hl:keys.9=values.9)(p:keys≠[])
 (l:keys.9<=15):PE X (.Dict keys values pos) (MN j):=by
 refine{?_};intro b s σ H Q I q;have hn:=I.bc.fresh (Zf s.8);have k:=I.laid (a:=s.8) (o:=.dK []) (h':=s.heap.push {cls:=.type "dict",data:=.dict #[]}) (t':=s.toks) (λ_ _ q=>Zb _ q) (Zf _) (sh s.heap I.big);refine wpAny_Dict_walk (knd:=bG X.prog X.w) g hl p l (cj (h b _ σ _ _ k (q _ hn)) λE G ⟨ps,J,i,rel,e,d,m,lk,n⟩=>?_);subst m
 let{r,c,t}:=sj (P:=X.prog) (w:=X.w) rel
 let{z,hd,u,v,x}:=sr i.bc e
 cases v;refine{r,c,x,λh' f y=>{.ref s.8,_,?_,rfl,n}}
 have A:(k9 [] d).9<=sizeLine:=by
  have B:=uB d [];rw[wdH]at B;rw[Ö];lia
 have C:∃q,h'.get? s.8=ρ q:=let ⟨q,_,_,D,_⟩:=f;⟨q,D⟩
 exact wW i (by rw[e];exact Õ) y C (Er A hd (t.merge .nil) f)
theorem Inv.freeze{X:Cx}(I:Inv X g σ H s)(e:H d=ρ (.dK kvs)):∃o,s.heap.get? d=ρ o/\Inv X g σ (upd H d (.frz o (.dK kvs))) s:=by
 have ok:=I.bc d _ e
 let{z,y,f,rel,o,h,i,a,j}:=id ok
 refine{o,a,?_};exact I.write (x:=d) (e:=d) (h':=s.heap) (t':=s.toks) (by rw[e];exact trivial) (.inl rfl) (λb u _ c=>c) {_,a} ⟨a,ok⟩
theorem F1{X:Cx}(h:PE X e g):PE X e (Pu g):=by
 refine{?_};intro a s σ H Q I hw;refine cj (h a s σ H _ I hw) λv j ⟨x,k,b,c,d,f,e,hd,q⟩=>?_
 let{o,l,i}:=b.freeze hd
 exact{x,_,i,c,q o}
section
variable{X:Cx}{pins:List (Addr×Obj)}{σ:St}{H:Hp}{s₂:Shared}{scope:Ð}{x:Str}{xs ys:List Str}{ix:List Nat}{cl:List (Str×Addr)}{fp:List Addr}{L:Addr}
theorem vB{tn:Nat->Heap->Prop}{Qd:Addr->Hp->Prop}{RR:Value->Addr->à->Shared->Prop}{E:Value->Shared->Prop}
 (hc:X.calm=true) (B:bQ X scope x ys ix) (I:Inv X pins σ H s₂) (T:Turn X.prog X.w X.K tg J fp it tn) (SK:tn 0 s₂.heap) (U:∀b∈fp,rR X pins H b)
 (ux:∀y c,cl.lookup y=ρ c->X.env.cells.lookup y=ρ c) (Vl:∀y∈scope.names,y.2=.free->∃c,cl.lookup y.1=ρ c)
 (ht:∀L s H ex pn,EK (bq X scope (xs++ys) cl L s H ex pn) ifs tt) (he:∀L s H ex pn,PE (bq X scope (xs++ys) cl L s H ex pn) elt te)
 (hg:∀L s H ex pn,PG (bq X scope (xs++ys) cl L s H ex pn) tg g) (hw:∀l,H l=τ->vt g xs.length J l (pick σ ix) tt te H (Qd l))
 (Vm:∀D L H' s' m,Inv X pins σ H' s'->s'.heap.Ns L m->H' L=τ->L≠X.env.locals->X.s₀.8<=L->(∀y c,X.env.cells.lookup y=ρ c->c≠L)->(∀p∈X.pn++pins,p.1≠L)->Qd D H'->RR (.ref D) L (.ok .next) s') :
 wpAny (model X.prog X.w) X.A (newList []) (λacc t=>wpAny (model X.prog X.w) X.A (newFunctionEnv scope X.env.globals cl [] X.env.qual τ .none (ρ X.5)) (λNf s₄=>
  codeAny (model X.prog X.w) X.A (.compStart (.ListComp elt [⟨tg,iter,ifs,0⟩] scope pos) 0 (.ref it) acc {Nf with scope:=relabel scope X.5}) (RR acc Nf.locals) s₄) E t) E s₂:=by
 refine Ģ (wpAny_newFunctionEnv B.Eh (by intro y hy;simp at hy) (λk j a=>?_) B.kind);dsimp only at j a ⊢;generalize O:s₂.heap.push {cls:=.type "list",dict:=τ,data:=.seq ([]:List Value).toArray}=C at j a ⊢;have hC:C.7=s₂.8+1:=by rw[<-O,ã]
 have SM:s₂.heap.objs.size≠C.7:=by rw[hC];exact Zt (Ď _)
 have f:s₂.8<=C.7:=by rw[hC];exact í _
 have old:∀b o,s₂.heap.get? b=ρ o->k.get? b=ρ o:=λb o e=>a.extBut b o (Zt (Zx (Zg e) f)) (Zb _ (O ▸ Zb _ e));have Ql:k.get? s₂.8=ρ {cls:=.type "list",data:=.seq ([]:List Value).toArray}:=a.extBut _ _ SM (Zb _ (O ▸ Zr _ rfl));have Q:∀b∈fp,b<s₂.8:=λb h=>let ⟨o,e,_⟩:=T.obj 0 _ SK b h;Zg e
 have Vn:∀b∈fp,∀o,s₂.heap.get? b=ρ o->k.get? b=ρ o:=λb _ o e=>old b o e;have SN:tn 0 k:=T.keep 0 _ _ SK Vn
 let{W,{m0,w0},turn}:=hw s₂.heap.objs.size (I.bc.fresh (Zf _))
 have N:∀t:Shared,t={s₂ with heap:=k,toks:=s₂.toks+([]:List (Str×Value)).length} ->
  codeAny (model X.prog X.w) X.A (.compLoop (.ListComp elt [⟨tg,iter,ifs,0⟩] scope pos) 0 (.ref it) (.ref s₂.8) (compEnvC scope cl C.objs.size X.5))
   (RR (.ref s₂.8) C.7) t:=by
  rintro t rfl;have I0:=EL (xs:=xs) (tk:=s₂.toks+([]:List (Str×Value)).length) (n₀:=0) (m₁:=_) (L:=C.7) B I U Q f ux Vl old j rfl SM Ql
  refine Cz (env:=compEnvC scope cl C.objs.size X.5)
   (λn s'=>∃i G vs H',vs.9=xs.9/\Inv (bq X scope (xs++ys) cl C.objs.size s₂ H fp (X.pn++pins)) [] (vs++pick σ ix) H' s'/\tn i s'.heap/\(∀b∈fp,H' b=τ)/\W i n G H') ?_ m0
   ⟨0,[],_,_,wdy,I0,SN,λb h=>by rw[af (Zt (Q b h))];exact(U b h).1,w0⟩
  rintro n s3 ⟨i,G,vs,H3,hv,I3,SQ,SR,w3⟩
  let{JE,alt}:=turn i n G H3 w3
  have M:∀{H':Hp},(∀b∈fp,H' b=τ)->∀b∈fp,rR (bq X scope (xs++ys) cl C.objs.size s₂ H fp (X.pn++pins)) [] H' b:=λhn b h=>
   {hn b h,Zt (Zx (Q b h) f),λhm=>by
     rcases ZD.mp (I.si b hm) with z |z
     .exact(U b h).2.1 z
     .exact(U b h).2.2.1 z,.inl h,λy c e=>(U b h).2.2.2.2.1 y c (ux y c e),λp hp=>(U b h).2.2.2.2.2 p (by simpa [bq] using hp)}
  rcases alt with⟨stop,qd⟩ |⟨go,hsz,step⟩
  .refine cj (T.done (bq X scope (xs++ys) cl C.objs.size s₂ H fp (X.pn++pins)) rfl rfl rfl hc i [] s3 _ H3 _ I3 (M SR) SQ stop) λr s4 ⟨hr,Y⟩=>?_;subst hr
   let{m,hn,_}:=Y.loc
   refine Vm s₂.heap.objs.size C.objs.size H3 s4 m ?_ hn Y.free (ö (Zx I.lt f)) (Zn I.sz f) (λy c e=>?_) (λp hp=>?_) qd
   .exact I.vo Y.os Y.base Y.bc Y.bare λb h=>{(U b h).2.2.2.1,(U b h).2.1,(U b h).2.2.2.2.1,(U b h).2.2.2.2.2}
   .let{v,o,q,d}:=I.cell y c e
    exact Zt (Zx (Zg q) f)
   .exact Zt (Zx (Zg (I.pin p hp).1) f)
  .refine cj (T.item (bq X scope (xs++ys) cl C.objs.size s₂ H fp (X.pn++pins)) rfl rfl rfl hc i [] s3 _ H3 _ I3 (M SR) SQ go) λr s4 ⟨u,hr,h4⟩=>?_;subst hr;refine cj h4 λ_ s5 ⟨xv,H5,I5,r5,y5,R,Vo⟩=>?_;have Vp:=I5.pinned (M Vo) (T.obj _ _ R);refine Å (hg _ _ _ _ _ _ s5 _ H5 xv u _ Vp r5 (step xv _ vs hv y5)) (λ_ s6 {σ6,H6,I6,⟨N2,SU,e6⟩,q6}=>?_) λ_ _ z=>Ä z;subst e6;refine Å (ht _ _ _ _ _ _ s6 _ _ _ I6 q6) (λb s7 ⟨H7,I7,q7⟩=>?_) λ_ _ z=>Ä z
   have again:∀{S:St} {V:Hp} {Z:Shared},Inv (bq X scope (xs++ys) cl C.objs.size s₂ H fp (X.pn++pins)) ([]++rS fp s5.heap) S V Z ->
    Inv (bq X scope (xs++ys) cl C.objs.size s₂ H fp (X.pn++pins)) [] S V Z/\tn (i+1) Z.heap/\∀b∈fp,V b=τ:=λ{S V Z} I8=>by
    refine{I8.nr,T.keep _ _ _ R λb h o e=>(I8.pin (b,o) (ZV _ (ZV _ (iZ h e)))).1,λb h=>?_}
    let{o,e,d}:=T.obj _ _ R b h
    exact(I8.pin (b,o) (ZV _ (ZV _ (iZ h e)))).2.1
   cases b with
   |false=>
    rw[if_neg Zu]at q7 ⊢
    let{m',hm,w7}:=q7
    let{a1,a2,a3}:=again I7
    exact{m',hm,i+1,G,N2,H7,SU,a1,a2,a3,w7}
   |true=>
    rw[if_pos rfl]at q7 ⊢;refine Å (he _ _ _ _ _ _ s7 _ _ _ I7 q7) (λuy Z ⟨y,V,I8,r8,M5,m',hm,w8⟩=>?_) λ_ _ z=>Ä z
    refine Å (cb (X:=bq X scope (xs++ys) cl C.objs.size s₂ H fp (X.pn++pins)) _ Z _ V (.ref s₂.8) [y] (.ref s₂.8) [uy] (λ_ H9=>H9=upd V s₂.heap.objs.size (.lst (G++[y]))) I8 rfl (.cons r8 .nil) {_,G,y,rfl,rfl,M5,hsz,rfl})
     (λ_ s9 {v9,H9,I9,_,e9}=>?_) λ_ _ z=>Ä z
    subst e9
    let{a1,a2,a3}:=again I9
    exact{m',hm,i+1,G++[y],N2,_,SU,a1,a2,a3,w8}
 exact codeAny_compStart_list (N _ rfl) (T.self X.A 0 _ _ _ SN (N _ rfl))
theorem sF{C:It->Addr->St->Hp->(Hp->Prop)->Prop}(hc:X.calm=true)(B:bQ X scope x ys ix)(hg:∀cl L s H ex pn,PG (bq X scope (xs++ys) cl L s H ex pn) U g)(hC:∀J l j H Q,C J l j H Q->vt g xs.length J l j tt te H Q)(hi:PI X U iter wi)
 (ht:∀cl L s H ex pn,EK (bq X scope (xs++ys) cl L s H ex pn) p tt) (he:∀cl L s H ex pn,PE (bq X scope (xs++ys) cl L s H ex pn) r te)
 (hs:∀v,č iter X.env v=pure v:=by intro _;rfl):PE X (.ListComp r [⟨U,iter,p,0⟩] scope pos) (λσ H Q=>wi σ H λJ H1=>∀l,H1 l=τ->C J l (pick σ ix) H1 (λH2=>Q (.ref l) H2)):=by
 refine{?_};intro pins s σ H Q I h
 let{cl,a,d,f}:=lT (scope:=scope) (env:=X.5) (λy G i=>I.ok.has y.1 (B.free y G i))
 rw[eval_ListComp];refine weU (use:=τ) rfl hs a B.kind B.names (cj (hi pins s σ H _ I h) λZ s1 k=>cj k λM s2 n=>?_)
 let{it,fp,tn,J,H2,e,N,T,t,f2,hw}:=n
 subst e;refine vB (RR:=λu C=>compPost (model X.prog X.w) X.A X.xe τ (EP X pins σ Q) u C) (Qd:=λl z=>Q (.ref l) z) hc B N T t f2 d f (ht cl) (he cl) (hg cl) (λl h=>hC _ _ _ _ _ (hw l h)) ?_;intro D L z O m R hn c k n S V q;exact{m,hn,λh' E=>{.ref D,z,R.turned (it:=L) (t':=O.toks) (λb o Y e=>(E.2 b Y).trans e) c k (.inr n) S V,rfl,q}}
theorem bR(hc:X.calm=true)(B:bQ X scope x ys ix)(hi:PI X (.Name x r) iter t)
 (I:∀cl L s H ex pn,EK (bq X scope (x::ys) cl L s H ex pn) g o) (he:∀cl L s H ex pn,PE (bq X scope (x::ys) cl L s H ex pn) j p)
 (hs:∀v,č iter X.env v=pure v:=by intro _;rfl):PE X (.ListComp j [⟨.Name x r,iter,g,0⟩] scope pos) (N3 t ix o p):=
 sF (C:=λJ l a H Q=>kh J l a o p H Q) (xs:=[x]) hc B (BA B) (λ_ _ _ _ _=>By) hi I he hs
end
section
variable{X:Cx}{scope:Ð}{x:Str}{xs ys:List Str}{ix:List Nat}
theorem qa{C:It->Addr->St->Hp->(Hp->Prop)->Prop}(hc:X.calm=true)(B:bQ X scope x ys ix)(hN:X.N.Nodup)(hy:X.N[i]?=ρ y)(r:X.env.scope.names.lookup y=ρ .local)(hg:∀cl L s H ex pn,PG (bq X scope (xs++ys) cl L s H ex pn) tg g)(hC:∀J l t H Q,C J l t H Q->vt g xs.length J l t tt te H Q)(hi:PI X tg iter wi)
 (ht:∀cl L s H ex pn,EK (bq X scope (xs++ys) cl L s H ex pn) j tt) (he:∀cl L s H ex pn,PE (bq X scope (xs++ys) cl L s H ex pn) p te)
 (Qm:ë (.ListComp p [⟨tg,iter,j,0⟩] scope pos) (ρ (.Name y py)) U.line X.5=pure true:=by rfl)
 (hs:∀v,č iter X.env v=pure v:=by intro _;rfl):PS X (.Assign [.Name y py] (.ListComp p [⟨tg,iter,j,0⟩] scope pos) U) (λD σ H=>wi σ H λJ H1=>∀l,H1 l=τ->C J l (pick σ ix) H1 (λH2=>D.nx (σ.set i (ρ (.ref l))) H2)):=by
 refine{?_};intro c s σ H D I h
 let{cl,d,u,E}:=lT (scope:=scope) (env:=X.5) (λy hy G=>I.ok.has y.1 (B.free y hy G))
 rw[exec_Assign_Name_used _ _ _ _ Qm];refine Z7 (Ŕ (Z7 ?_));show wpAny _ X.A (do let _ <-comprehension (.ListComp p [⟨tg,iter,j,0⟩] scope pos) scope X.env _ (newList []) false (eval iter X.5) (ρ (assign (.Name y py) X.5))) _ _ s
 refine Z7 (Å (weU (use:=ρ (assign (.Name y py) X.5)) (Q:=λ_ k=>SP X c D .next k) rfl hs d B.kind B.names
  (cj (hi c s σ H _ I h) λxv s1 n=>cj n λPY s2 M=>?_)) (λ_ k hq=>Zc (Zc hq)) λ_ _ e=>e)
 let{it,fp,tn,J,H2,e,I2,T,O,f2,hw}:=M
 subst e;refine vB (RR:=λR C=>compPost (model X.prog X.w) X.A X.xe (ρ (assign (.Name y py) X.5)) (λ_ k=>SP X c D .next k) R C) (Qd:=λl S=>D.nx (σ.set i (ρ (.ref l))) S) hc B I2 T O f2 u E (ht cl) (he cl) (hg cl) (λl h=>hC _ _ _ _ _ (hw l h)) ?_;intro D' L S k m I' hn f n M h3 h4 q;show wpAny _ X.A (assign (.Name y py) X.env (.ref D')) _ _ _;refine wpAny_assign_Name (vv I' hN hy (.inl r) (v:=.ref D') rfl (λV Y sb=>?_) (.inr r))
 let{a,Z,ha}:=sb
 have hL:L≠a:=by
  rcases ha with z |z
  .rw[z];exact n
  .exact(h3 y a z).symm
 refine{m,hn.sameBut Z hL,λh' JF=>{_,S,Y.turned (it:=L) (t':=V.toks) (λb o hb e=>(JF.2 b hb).trans e) f n (.inr M) h3 h4,q}}
theorem cN(hc:X.calm=true)(B:bQ X scope x ys ix)(U:X.N.Nodup)(hy:X.N[i]?=ρ y)(p:X.env.scope.names.lookup y=ρ .local)(hi:PI X (.Name x t) iter wi)
 (ht:∀cl L s H ex pn,EK (bq X scope (x::ys) cl L s H ex pn) g I) (he:∀cl L s H ex pn,PE (bq X scope (x::ys) cl L s H ex pn) j T)
 (r:ë (.ListComp j [⟨.Name x t,iter,g,0⟩] scope pos) (ρ (.Name y py)) o.line X.5=pure true:=by rfl)
 (hs:∀v,č iter X.env v=pure v:=by intro _;rfl):PS X (.Assign [.Name y py] (.ListComp j [⟨.Name x t,iter,g,0⟩] scope pos) o) (Km wi ix I T i):=
 qa (C:=λJ l a H Q=>kh J l a I T H Q) (xs:=[x]) hc B U hy p (BA B) (λ_ _ _ _ _=>By) hi ht he r hs
end
section
variable{X:Cx}{o i value:Expr}{pos pos':Pos}{td ty tv:TE}
theorem bS(j:X.A.units+1<À)(l:PE X o td)(hi:PE X i ty)(hs:ME i):PE X (.Subscript o i pos) (MK td ty):=by
 refine{?_};intro b s σ H Q I h;refine HA PySem.F.slot_dict_getitem.lookup hs (cj (l b s σ H _ I h) λu e ⟨x,f,k,m,n⟩=>cj (hi b e σ f _ k n) λw z ⟨y,p,d,q,a,v,ex,g,r⟩=>?_);subst ex;obtain rfl:u=Zo a:=m;exact{xY d g,CA j d g q λB C t c=>⟨v,p,t,c,r⟩}
theorem eJ(j:X.A.units+1<À)(l:PE X o td)(hi:PE X i ty)(p:PE X value tv)(hs:ë value (ρ (.Subscript o i pos')) pos.line X.5=pure false) :
 PS X (.Assign [.Subscript o i pos'] value pos) (Jz td ty tv):=by
 refine{?_};intro b s σ H D I h;refine wpAny_Assign_Subscript (cj (p b s σ H _ I h) λr c ⟨v,d,e,f,k⟩=>cj (l b c σ d _ e k) λu m ⟨x,n,q,t,w⟩=>cj (hi b m σ n _ q w) λJ L ⟨y,M,z,B,a,C,ex,g,E⟩=>?_) hs;subst ex;obtain rfl:u=Zo a:=t;exact CC j z g B f λN G=>⟨σ,C,G,E⟩
end
section
variable{P:ZC}{w:World}{H:Hp}{h:Heap}{x C d t:Addr}
theorem Qn(e:h.get? x=ρ (rD C d t)):bT P w H h x (XD x C d):={⟨t,e⟩,{_,e},λc f ⟨a,b⟩ k=>{a,k _ b}}
end
section
variable{P:ZC}{w:World}{H:Hp}{h:Heap}{a C dx:Addr}{fs:List (Str×V)}
theorem rF(bc:j1 P w H h)(e:H a=ρ (.ins C dx fs)):∃g,zg h a dx C g/\(∀f,iY (fs.lookup f) (g f))/\ű g (fs.map (·.1))/\fs.9<=1000/\H dx=ρ (.own a):=by
 let{d,z,ne,ob,g,n,r,q}:=(show bT P w H h a (.ins C dx fs) from bc a _ e)
 exact{g,⟨ob,n,ne⟩,r,q,z,d}
end
section
variable{X:Cx}{pins:List (Addr×Obj)}{σ:St}{H:Hp}{s:Shared}{a C dx:Addr}{fs:List (Str×V)}{f:Str}{v:V}{A:Around}{E:Value->Shared->Prop}
theorem zM{Q:Value->Shared->Prop}(I:Inv X pins σ H s)(e:H a=ρ (.ins C dx fs))(c:z8 X.K C)(n:dH X.K C f)(l:fs.lookup f=ρ v)
 (h:∀u s',Inv X pins σ H s'->RelV v u->Q u s'):wpAny (model X.prog X.w) A (getAttr (.ref a) f b) Q E s:=by
 let{g,O,r,_,_,_}:=rF I.bc e
 let{u,i,d}:=iY.rA (v:=v) (o:=g f) (by grind)
 exact get_map I.gE O (c.get f) c.hd n i (uW d) (h u _ (I.tok _) d)
theorem sG{Q:Value×List Value->Shared->Prop}(I:Inv X pins σ H s)(e:H a=ρ (.ins C dx fs))(c:z8 X.K C)(k:HG X.K C m g)(l:fs.lookup m=τ)
 (h:Q (.ref g,[.ref a]) s):wpAny (model X.prog X.w) A (ķ (.ref a) m pl) Q E s:=by
 let{b,O,r,_,_,_}:=rF I.bc e
 have hn:b m=τ:=iY.none_of (by grind);exact EW I.gE O (c.get m) k.at_ k.fn hn h
theorem zN{Q:Unit->Shared->Prop}(I:Inv X pins σ H s)(e:H a=ρ (.ins C dx fs))(c:z8 X.K C)(n:dH X.K C f)(hl:fs.9<1000)(l:RelV y u)
 (h:∀s',Inv X pins σ (upd H a (.ins C dx (dQ f y fs))) s'->Q .unit s'):wpAny (model X.prog X.w) A (setAttr (.ref a) f u) Q E s:=by
 let{i,O,r,j,_,k}:=rF I.bc e
 have m:(fs.map (·.1)).9<=sizeLine:=by rw[Z4,Ö];lia
 refine HR I.gE O c.sa c.po n.My c.hd j m λp d sb=>h _ ?_;have hd:∃o,p.get? dx=ρ o:=let ⟨o,_,_,t,_⟩:=d.ns;⟨o,t⟩
 refine I.write (x:=a) (e:=dx) (by rw[e];exact Õ) (.inr k) (λb q v z=>(sb.2 b v).trans z) hd ?_;refine{by rw[af O.ne];exact k,?_,O.ne,d.obj,_,d.ns,λg=>?_,λg B=>?_}
 .have:=q4 f y fs;lia
 .show iY ((dQ f y fs).lookup g) (if g=f then ρ u else i g);rw[aE]
  by_cases q:g=f
  .rw[if_pos q,if_pos q];exact l
  .rw[if_neg q,if_neg q];exact r g
 .by_cases q:g=f
  .rw[q];exact(pq f y fs).1
  .refine(pq f y fs).2 g (j g λz=>B ?_);show (if g=f then ρ u else i g)=τ;rw[if_neg q];exact z
end
section
variable{X:Cx}{CX:DW}{k:Nat}{f C:Addr}{fd:Ë}{ps:List Str}{sp:Sp}{uv:List V}{ds:List Value}{E:XK}{m:Str}{pos apos:Pos}{e o:Expr}{es:List Expr}{ta:TE}{t:TA}
theorem HU(he:PE X o ta)(c:z8 X.K C)(j:HG X.K C m f)(F:aW X.prog X.w X.K X.mg X.base CX k f fd ps sp)(T:d5 k X.A)(U:Binds X.K fd ps ds)(hd:Vals uv ds)(hx:Passes CX X E)(ha:PA X (e::es) t)
 (g:starEach (e::es) X.5=(false,eval e X.5)::starEach es X.5:=by rfl) (hpl:(backTo pos (starEach es X.5)).any (·.1)=false:=by rfl)
 (ht:eval (.Call (.Attribute o m apos) (e::es) [] pos) X.5=(do
   let J <-eval o X.5
   standAt apos.atName
   let (f,first) <-holding [J] (ķ J m pl)
   callWith pos f first (backTo pos (starEach (e::es) X.5)) (backToKw pos (Ĝ [] X.5))):=by rfl) :
 PE X (.Call (.Attribute o m apos) (e::es) [] pos) (Bl C m sp uv E ta t):=by
 refine{?_};intro b s σ H Q I h;refine wdA (pl:=pl) (cj (he b s σ H _ I h) λu n ⟨x,p,d,v,a,B,fs,ex,y,l,q⟩=>?_) ht;subst ex;obtain rfl:u=Zo a:=v;refine sG d y c j l ?_;refine ť (first:=[.ref a]) (h₀:=X.base) I.ok.mod.Jq j.kp (cj (ha pos b n σ p _ d q) λus D ⟨vs,G,i,r,z⟩=>{i.gE,?_}) g hpl;exact zL (us:=.ref a::us) (vs:=.ref a::vs) F T U hd hx i (.cons rfl r) z
theorem F4(he:PE X o ta)(c:z8 X.K C)(g:HG X.K C m f)(F:aW X.prog X.w X.K X.mg X.base CX k f fd ps sp)(r:d5 k X.A)(J:Binds X.K fd ps ds)(hd:Vals uv ds)(T:Passes CX X E)
 (U:eval (.Call (.Attribute o m apos) [] [] pos) X.5=(do
   let j <-eval o X.5
   standAt apos.atName
   let (f,first) <-holding [j] (ķ j m pl)
   callWith pos f first (backTo pos (starEach [] X.5)) (backToKw pos (Ĝ [] X.5))):=by rfl) :
 PE X (.Call (.Attribute o m apos) [] [] pos) (Bl C m sp uv E ta Ce):=by
 refine{?_};intro b s σ H Q I h;refine wdA (pl:=pl) (cj (he b s σ H _ I h) λu n ⟨x,p,d,e,a,t,fs,ex,i,l,q⟩=>?_) U;subst ex;obtain rfl:u=Zo a:=e;refine sG d i c g l ?_;exact PySem.W.callWith_K0 (first:=[.ref a]) d.gE g.kp (zL (us:=[.ref a]) (vs:=[.ref a]) F r J hd T d (.cons rfl .nil) q)
end
section
variable{X:Cx}{e:Expr}{f:Str}{pos:Pos}{ta:TE}
theorem aZ(he:PE X e ta)(g:ė e f X.env (eval e X.5)=eval e X.5):PE X (.Attribute e f pos) (Mz X.K ta f):=by
 refine{?_};intro b s σ H Q I h;refine BD g (cj (he b s σ H _ I h) λu p ⟨x,d,i,j,a,C,r,fs,v,ex,k,c,n,l,q⟩=>?_);subst ex;obtain rfl:u=Zo a:=j;exact zM i k c n l λt w m o=>⟨v,d,m,o,q⟩
end
section
variable{prog:ZC}{w:World}{A:Around}{R:à->Shared->Prop}{I:Addr}{fp wr:List Addr}{G:Array õ->Array õ->Prop}{n:Nat}{P:Nat->Value->Prop}{St:Nat->Shared->Prop}
theorem y9(l:WalksS prog w A.in1 I fp wr G n P St)(S:Addr)(p:S∉fp)
 (val:Nat->Str) (r:∀i v,P i v->∃t,v=.str (val i) t) (j:n+1<É) :
 ∀(k i:Nat) (s:Shared),n-i=k->i<=n->St i s ->
  s.heap.SetOf (î prog w) S (λg=>(cL val i).any (· == g)) (cL val i).9 ->
  (∀s',Moved (S::wr) G s s'->s'.heap.SetOf (î prog w) S (λg=>(cL val n).any (· == g)) (cL val n).9->R (.ok (.ret .none)) s') ->
  codeAny (model prog w) A (.builtin "set.update.loop" {[.ref S,.ref I],[]}) R s:=by
 have f:S∉wr:=λh=>p (l.sub _ h);have a:∀b∈wr,b∈S::wr:=λb j=>Zh _ j;intro k
 induction k with
 |zero=>
  intro i s hk hi c B C;have D:i=n:=();subst D;refine ä wbK ?_;rw[ą ŧ _];show wpAny _ A.in1 (pyNext (.ref I) >>= _) _ _ s;refine Z7 (l.done s _ _ c λs' m=>?_);show wpAny _ A.in1 (ret Ï) _ _ s'
  exact Zc (C s' (m.mono a) (by
   let{o,E,H,t,J,rest}:=B
   exact{o,E,H,t,m.heap S _ f J,rest}))
 |succ k Q=>
  intro i s hk hi c B C;have q:i<n:=();refine ä wbK ?_;rw[ą ŧ _];show wpAny _ A.in1 (pyNext (.ref I) >>= _) _ _ s;refine Z7 (l.item i s _ _ q c λv s' T u m=>?_)
  let{t,rfl}:=r i v T
  have L:s'.heap.SetOf (î prog w) S (λg=>(cL val i).any (· == g)) (cL val i).9:=by
   let{o,E,H,U,J,rest}:=B
   exact{o,E,H,U,m.heap S _ f J,rest}
  show wpAny _ A.in1 (holding [χ (val i) t] (setAdd S (.str (val i) t)) >>= _) _ _ s';refine Z7 (ZX ?_);unfold setAdd;refine ZX ?_;refine Z7 ((î prog w).pyHash (k:=val i) (Jx _ _ _ _) ?_);have d:(cL val i).9+1<É:=by have:=vj val i;lia
  refine wpAny_setAddHashed_of (knd:=î prog w) (s:={s' with toks:=s'.toks+1}) (Jx _ _ _ _) rfl L d λV x M=>?_
  have N:V.SetOf (î prog w) S (λg=>(cL val (i+1)).any (· == g)) (cL val (i+1)).9:=
   SetOf_congr M (λg=>by rw[i3,Ci]) (by rw[i3,wK])
  refine Zc {ĉ ŧ _,Q (i+1) _ () q (l.frame _ s' _ _ u (í _) λb j o e=>?_) N λO y z=>?_}
  .rw[x.2 b (λh:b=S=>p (by rw[<-h];exact j))];exact e
  .refine C O (Moved.trans l.gtrans ((m.mono a).then_heap (í _) λb o j e=>?_) y) z;rw[x.2 b (λh:b=S=>j (by rw[h];exact Zm))];exact e
theorem rG{X:Cx}{K:Z6}{e:Expr}{f:Str}{pos:Pos}{g:TE}(j:X.K=K)(he:PE X e g)(l:ė e f X.env (eval e X.5)=eval e X.5):PE X (.Attribute e f pos) (Mz K g f):=by
 subst j;exact aZ he l
end
section
variable{prog:ZC}{w:World}{A:Around}{E:Value->Shared->Prop}{s:Shared}
set_option maxRecDepth 100000 in
set_option maxHeartbeats 3200000 in
theorem wX{Q:Value->Shared->Prop}
 (hh:A.handled=τ) (p:x.cps.size+1<É)
 (h:∀(h':Heap) (tk:Nat),h'.SetOf (î prog w) s.heap.objs.size (λC=>(cL (f7 x) x.cps.size).any (· == C)) (cL (f7 x) x.cps.size).9 ->
   (∀b o,b<s.8->s.heap.get? b=ρ o->h'.get? b=ρ o)->Q (.ref s.8) {s with heap:=h',toks:=tk}) :
 wpAny (model prog w) A (call (.type "set") [.str x I]) Q E s:=by
 let{c,tl,T}:=Ù.mro
 have y:=Ù.made;have U:=Ù.sub;refine â (μ ?_);show wpAny _ _ (callAny (.type "set") _) _ _ _;refine Zc {Ų _ ∅,ä wdB ?_};rw[we9 (wdC "set" [.str x I] []) rfl];have h1:=Ù.notType;have h2:=Ù.canCreate;have Z:=wfu (.str x I)
 repeat (any_goals (first |assumption |wp_step))
 refine Þ (code_set_new_1 (.str x I) (E:=E) (Q₁:=λobj f=>∃a:Bool,obj=.ref s.8/\f={s with heap:=s.heap.push {cls:=.type "set",dict:=τ,data:=.set #[] 0 (.fresh 0 0 a)}}) λa=>⟨a,rfl,rfl⟩) λr f z=>?_
 cases r with
 |error e=>exact z
 |ok fl=>
  cases fl with
  |ret obj=>
   let{a,rfl,rfl}:=z
   have V:(s.heap.push {cls:=.type "set",dict:=τ,data:=.set #[] 0 (.fresh 0 0 a)}).get? s.8=ρ {cls:=.type "set",dict:=τ,data:=.set #[] 0 (.fresh 0 0 a)}:=Zr _ rfl;have hT:wgb {s with heap:=s.heap.push {cls:=.type "set",dict:=τ,data:=.set #[] 0 (.fresh 0 0 a)}} (.ref s.8) "set":={_,V,rfl};have Vq:=Ù.init.lookup;have Vr:=Ù.init.bind (.ref s.8)
   repeat (any_goals (first |assumption |wp_step))
   refine Þ (ĩ (R:=wants (λr g=>r=.none/\∃h' tk,g={s with heap:=h',toks:=tk} /\
    h'.SetOf (î prog w) s.heap.objs.size (λC=>(cL (f7 x) x.cps.size).any (· == C)) (cL (f7 x) x.cps.size).9 /\
    (∀b o,b<s.8->s.heap.get? b=ρ o->h'.get? b=ρ o)) E) Ù.init.plain wfv (check_set_init_1 hT ?_)) λl g d=>?_
   .have X:=sub_str_set;have Y:=sub_str_frozenset;have ya:(ï "str" == ï "dict")=false:=⋯;unfold È.«set.__init__» noKeywords we4;generalize B:pyIter=PI
    wp_walk
    subst B;refine wpAny_pyIter_str λo St hW D=>?_;refine Z7 (wfH ?_);have G:A.in1.in1.in1.handled=τ:=by simp[hh]
    have H:s.heap.objs.size∉[(s.heap.push {cls:=.type "set",dict:=τ,data:=.set #[] 0 (.fresh 0 0 a)}).7]:=by
     rw[ã];simp only[ZD,Zz,þ,or_false,not_or];exact Zt (Ď _)
    have m:∀(i:Nat) (v:Value),SignAt x i v->∃t,v=.str (f7 x i) t:=λi v hv=>by
     let{c,u,hc,e}:=hv
     refine{u,?_};rw[e];unfold f7;rw[ς,hc];rfl
    refine y9 ((hW _ G).toS) s.heap.objs.size H (f7 x) m p (x.cps.size-0) 0 _ () (ZE _) D ?J ?hR
    case J=>
     have n:((s.heap.push {cls:=.type "set",dict:=τ,data:=.set #[] 0 (.fresh 0 0 a)}).push o).get? s.8
      =ρ {cls:=.type "set",dict:=τ,data:=.set #[] 0 (.fresh 0 0 a)}:=Zb _ V
     exact SetOf_congr ((setObjOf_fresh (knd:=î prog w) a).setOf n (by unfold É;lia)) (λ_=>rfl) rfl
    case hR=>
     intro s' q j
     let{h',g',d',L,M}:=s'
     have eg:g'=s.gens:=q.gens;have ed:d'=s.drawn:=q.drawn;have eo:M=s.os:=q.os;subst eg;subst ed;subst eo;show wpAny _ _ _ _ _ _;refine Zc ?_;show wpAny _ _ (ret Ï) _ _ _;refine Zc {rfl,h',L,rfl,j,λb o' p e=>?_};have N:b≠s.8:=Zt p
     have O:b≠(s.heap.push {cls:=.type "set",dict:=τ,data:=.set #[] 0 (.fresh 0 0 a)}).7:=by
      rw[ã];exact Zt (Ă p)
     exact q.heap b o' (by simp only[ZD,Zz,þ,or_false,not_or];exact⟨N,O⟩) (Zb _ (Zb _ e))
   .cases l with
    |error e=>exact d
    |ok k=>
     cases k with
     |ret r=>
      let{rfl,h',tk,rfl,j,S}:=d
      repeat (any_goals (first |assumption |wp_step))
      exact h _ _ j S
     |_=>exact d.elim
  |_=>exact z.elim
end
section
variable{X:Cx}{o value:Expr}{f:Str}{pos pos':Pos}{ta tv:TE}
theorem gQ(ha:PE X o ta)(g:PE X value tv)(hs:ë value (ρ (.Attribute o f pos')) pos.line X.5=pure false):PS X (.Assign [.Attribute o f pos'] value pos) (Q2 X.K ta tv f):=by
 refine{?_};intro b s σ H D I h;refine wcd (cj (g b s σ H _ I h) λu d ⟨y,e,i,j,q⟩=>cj (ha b d σ e _ i q) λk z m=>?_) hs
 let{x,A,p,r,a,C,B,fs,ex,t,c,n,l,v}:=m
 subst ex;obtain rfl:k=Zo a:=r;exact zN p t c n l j λE w=>{σ,_,w,v}
theorem yb(hc:X.calm=true):cu X (.type "set") (λxs H Q=>∃z,xs=[.str z]/\z.cps.size+1<É/\∀p,H p=τ->Q (.ref p) (upd H p (HB X.prog X.w p (cL (f7 z) z.cps.size).9))):=by
 intro c s σ H xs n Q I r h
 let{z,rfl,f,q}:=h
 let{u,rfl,t,rfl}:=vals1 r
 refine wX (I.ok.hd hc) f λg i d kp=>?_;have a:∀b o,s.heap.get? b=ρ o->g.get? b=ρ o:=λb o e=>kp b o (Zg e) e;refine{.ref s.8,_,I.laid (t':=i) (o:=HB X.prog X.w s.heap.objs.size (cL (f7 z) z.cps.size).9) a (Zf _) {{_,d},?_,?_},rfl,q _ (I.bc.fresh (Zf _))}
 .let{o,_,_,_,e,_}:=d
  exact⟨o,e⟩
 .rintro v x ⟨S,o,j,l,m,e,rest⟩ k;exact{S,o,j,l,m,k o e,rest}
end
section
variable{X:Cx}{x:Str}{p pos:Pos}{e:Expr}{es:List Expr}{t:TA}{T:String}{r:List V->Hp->VK->Prop}
theorem bC(hc:cu X (.type T) r)(j:Gl X x)(l:X.mg x=τ)(o:ZW x=ρ (.type T))(ha:PA X (e::es) t)(hn:x≠"__name__":=by decide)(g:(x==("__debug__":Str))=false:=by decide)
 (he:starEach (e::es) X.5=(false,eval e X.5)::starEach es X.5:=by rfl) (hpl:(backTo pos (starEach es X.5)).any (·.1)=false:=by rfl):PE X (.Call (.Name x p) (e::es) [] pos) (Ov r t):=by
 refine{?_};intro a s σ H Q I h;refine ę (j4 I j l o ?_ hn g);exact wbX (cj (ha pos a s σ H _ I h) λb c ⟨d,f,i,k,m⟩=>hc a c σ f d b Q i k m) he hpl
end
section
variable{X:Cx}{pins:List (Addr×Obj)}{σ:St}{H:Hp}{s:Shared}{A:Around}{E Q:Value->Shared->Prop}{c:Value}{b:Bool}
theorem lF(I:Inv X pins σ H s)(g:RelV x u)(ty:dD X.K H x t)(e:ſ X.K t c=ρ b)(h:∀tk,Q (.bool b) {s with toks:=tk}) :
 wpAny (model X.prog X.w) A (call (.builtin "isinstance") [u,c]) Q E s:=by
 cases ty with
 |non=>cases(show u=Ï from g);exact ô PySem.W.kitx_none I.gE Õ e (λz=>nomatch z) h
 |bl y=>cases(show u=wfU y from g);exact ô PySem.W.kitx_bool I.gE Õ e (λz=>nomatch z) h
 |int i=>let{t,q}:=(show ∃t,u=ĳ i t from g);cases q;exact ô PySem.W.kitx_int I.gE Õ e (λz=>nomatch z) h
 |str y=>let{t,q}:=(show ∃t,u=χ y t from g);cases q;exact ô PySem.W.kitx_str I.gE Õ e (λz=>nomatch z) h
 |flt y=>let{t,q}:=(show ∃t,u=wh0 y t from g);cases q;exact ô PySem.W.kitx_float I.gE Õ e (λz=>nomatch z) h
 |@lst a k d=>
  cases(show u=Zo a from g)
  let{_,_,n,_,f}:=(show bT X.prog X.w H s.heap a (.lst k) from I.bc a _ d)
  exact ô wgP I.gE {_,f,rfl} e (λz=>nomatch z) h
 |@frz a ob k d=>
  cases(show u=Zo a from g)
  let{_,_,_,n,_,f}:=(show bT X.prog X.w H s.heap a (.frz ob (.lst k)) from I.bc a _ d)
  exact ô wgP I.gE {_,f,rfl} e (λz=>nomatch z) h
 |@tup a k d=>
  cases(show u=Zo a from g)
  let{_,_,_,p}:=(show bT X.prog X.w H s.heap a (.tup k) from I.bc a _ d)
  let{o,f,l,_}:=p
  exact ô PySem.W.kitx_tuple I.gE ⟨o,f,l⟩ e (λz=>nomatch z) h
 |@dK a j d=>
  cases(show u=Zo a from g)
  let{_,_,B,_,p}:=(show bT X.prog X.w H s.heap a (.dK j) from I.bc a _ d)
  let{o,m,r,f,l,_}:=p
  exact ô wgQ I.gE ⟨o,f,l.1⟩ e (λz=>nomatch z) h
 |@dT a j d=>
  cases(show u=Zo a from g)
  let{_,_,k,_,o,m,r,f,l,_}:=(show bT X.prog X.w H s.heap a (.dT j) from I.bc a _ d)
  exact ô wgQ I.gE ⟨o,f,l.1⟩ e (λz=>nomatch z) h
 |@ins a C D fs d cl ha hn lB v=>
  cases(show u=Zo a from g)
  let{G,O,_}:=rF I.bc d
  let{L,J,_}:=O.look
  exact ô (PySem.W.kitx_own (cl.get _) cl.hd ha hn lB v) I.gE J e (λz=>nomatch z) h
end
section
variable{X:Cx}
theorem bb:cu X (.builtin "isinstance") (λxs H Q=>∃x T t b,xs=[x,.ty T]/\dD X.K H x t/\ſ X.K t (.type T)=ρ b/\Q (.bl b) H):=by
 intro a s σ H xs g Q I r h
 let{x,T,t,b,rfl,ty,e,q}:=h
 let{u,i,rfl,c,d}:=vals2 r
 cases d;exact lF I c ty e λf=>{.bl b,H,I.tok f,rfl,q}
end
section
variable{P:ZC}{w:World}{K:Z6}{mg:Str->Option Value}{base:Heap}{N:List Str}{qual:Str}{scope:Ð}{f:Addr}{cd:Value}{A:Around}{outer:List Env}{s:Shared}{H:Hp}{E:XK}
theorem cX:Br (pD (z9 P w) P w K mg base N qual scope f cd A outer s H E) E:=by
 intro v σ l x e C y I F B;show wpAny (model P w) _ («leaving» _ (.ref e)) (λ_ d=>z9 P w outer H s E (.ref e) d) (λD d=>z9 P w outer H s E D d) x;unfold «leaving»;have g:∀b,x.8<=b->l b=τ:=λb a=>I.bc.fresh a;refine Z7 (xT (lo:=s.8) (H:=l) (base:=base) (outer:=outer) I.ok.frames I.stack rfl I.sz g F λJ G p=>?_);have m:=I.rE
 have h:∀b o,s.heap.get? b=ρ o->b∉qW outer->b∉(envOfC qual scope s.heap.objs.size f cd::outer).filterMap (·.frame):=λb o a hn j=>by
  rcases ZD.mp (show b∈s.8::qW outer from j) with z |z
  .exact absurd (Zg a) (by rw[z];exact Ø _)
  .exact hn z
 refine{e,C,y,l,rfl,I.os,I.bare,?_,I.bc.past p m,G,B};have u:=I.base;refine{λb o a n c i=>?_,λb o a n c i=>?_,λb o a n i=>u.free b o a n i,λb o a i=>?_,u.pj,u.nc,u.pk}
 .exact p.keep b o (u.keep b o a n c i) (.inl (Zg a)) (h b o a c)
 .let{sl,k}:=u.slot b o a n c i
  let{q,r}:=p.slot b _ k (show b∈s.8::qW outer from Zh _ c)
  exact⟨q,r⟩
 .let{t,k}:=u.there b o a i
  by_cases j:b∈(envOfC qual scope s.heap.objs.size f cd::outer).filterMap (·.frame)
  .let{sl,r}:=p.slot b t k j
   exact{_,r}
  .exact{t,p.keep b t k (.inl (Zg a)) j}
end
end _L
open _L
namespace _B
noncomputable def gA(r:Str)(n:Nat):Str:=ZZ r (ρ (n:Int)) τ
noncomputable def F5(ps:List Str)(r:Str):Nat:=((ZF (r.9+1)).find? λn=>decide (gA r n∈ps)).getD 0
noncomputable def lend(ps:List Str)(r:Str):Str:=gA r (F5 ps r)
theorem yc(g:gA r n∈ps)(j:∀m,m<n->gA r m∉ps)(l:n<=r.9):F5 ps r=n:=by
 delta F5
 have e:(ZF (r.9+1)).find? (λn=>decide (gA r n∈ps))=ρ n:=by
  grind [List.find?_range_eq_some]
 rw[e];rfl
theorem nB{P:Nat->Prop}:∀{g:List Str},(∀t∈g,∃c,t={#[c]}/\P c)->(g.map (·.9)).sum=g.9
 |[],_=>rfl
 |t::g,h=>by
  let{c,rfl,_}:=h t (Zm ..)
  rw[Zw,Î,nB λt a=>h t (Zh _ a),ZP];show 1+g.9=_
  lia
theorem sH{α β:Type}(f:α->List β)(b:Nat):∀(g:List α),(∀c∈g,(f c).9<=b)->(g.flatMap f).9<=g.9*b
 |[],_=>ZE _
 |c::g,h=>by
  rw[Δ,Zd,ZP,Nat.succ_mul];have:=sH f b g λd hd=>h d (Zh _ hd);have:=h c (Zm ..)
  lia
noncomputable def b9(m:List (Str×Int)):List (Key×V):=m.map λp=>((ZA p.1:Key),V.int p.2)
theorem iL(m:List (Str×Int)):(b9 m).9=m.9:=Z4 ..
theorem zO(m:List (Str×Int)):(b9 m).map (λg=>kV g.1)=(m.map (·.1)).map V.str:=by
 delta b9;rw[Zj,Zj];rfl
noncomputable def qb:List (Str×Int)->Str->Option Int
 |[],_=>τ
 |(j,u)::m,k=>if j=k then ρ u else qb m k
theorem cG(k:Str):∀m:List (Str×Int),cZ (b9 m) (ZA k:Key)=(qb m k).map V.int
 |[]=>rfl
 |(j,u)::m=>by
  unfold qb
  by_cases h:j=k
  .rw[if_pos h,h];exact fy rfl
  .rw[if_neg h,<-cG k m];exact fz (λz=>h (Ě z))
theorem sI:∀{m:List (Str×Int)},k∉m.map (·.1)->qb m k=τ
 |[],_=>rfl
 |(j,u)::m,h=>by
  unfold qb;rw[if_neg (λz=>h (by rw[z];exact Zm ..))];exact sI λz=>h (Zh _ z)
noncomputable def jx(q:Str×Str):List V:=[.str q.1,.str q.2]
noncomputable def i9(q:Str×Str):V×V:=(.str q.1,.str q.2)
theorem wY(g:List (Str×Str)):(g.map i9).map lR=g.map jx:=by
 rw[Zj];rfl
structure cD(H:Hp)(l:Addr)(rs:List Addr)(qs:List (Str×Str)):Prop where
 l:H l=ρ (.lst (rs.map V.ref))
 t:cA H rs (qs.map jx)
theorem cD.len{H:Hp}{l:Addr}{g:List Addr}{j:List (Str×Str)}(r:cD H l g j):g.9=j.9:=by rw[r.t.1,Z4]
theorem cD.Qo{H:Hp}{l:Addr}{g:List Addr}{j:List (Str×Str)}(R:cD H l g j){d:Addr}{kvs:List (Key×V)}{u:HO}(h:H d=ρ (.dK kvs)):cD (_L.upd H d u) l g j:=by
 refine{?_,R.t.keep λr b a=>?_}
 .rw[af (λz=>by have:=R.l;rw[z,h]at this;cases this)];exact R.l
 .rw[af (λz=>by rw[z,h]at a;cases a)];exact a
theorem yd(ls:List Str)(g:List (Str×Str)):((g.map i9).filter λq=>jY q.2 (ls.map V.str)).map lR=(g.filter λq=>decide (q.2∈ls)).map jx:=by
 induction g with
 |nil=>rfl
 |cons q g a=>
  have e:jY (i9 q).2 (ls.map V.str)=decide (q.2∈ls):=iG q.2 ls;rw[Zw]
  by_cases h:q.2∈ls
  .rw[ā (by rw[e];exact decide_eq_true h),ā (by exact decide_eq_true h),Zw,Zw,a];rfl
  .rw[Ć (by rw[e];simpa using h),Ć (by simpa using h),a]
def Kv(m:List (Str×Int))(ls:List Str)(f:Str->Int):Prop:=∀p∈ls,qb m p=ρ (f p)
theorem sJ(m:List (Str×Int)):rW (b9 m)=true:=ZM.mpr λa h=>by
 let{p,1}:=Ze.mp h
 rfl
theorem pF(h:k∉m.map (·.1))(v:Int):putK (b9 m) (ZA k:Key) (.int v)=b9 (m++[(k,v)]):=by
 rw[eU _ (by rw[cG,sI h];rfl)];delta b9;rw[Zk];rfl
theorem vC{f:Str->Int}:∀{os:List Str},k∈os->qb (os.map λp=>(p,f p)) k=ρ (f k)
 |[],h=>nomatch h
 |j::os,h=>by
  show (if j=k then ρ (f j) else qb (os.map λp=>(p,f p)) k)=_
  by_cases e:j=k
  .rw[if_pos e,e]
  .rw[if_neg e];rcases ZD.mp h with z |z
   .exact absurd z.symm e
   .exact vC z
theorem zP{α:Type}{a b:α->Int}:∀{l:List α},(∀x∈l,a x<=b x)->(l.map a).sum<=(l.map b).sum
 |[],_=>ľ _
 |x::l,h=>by
  rw[Zw,Zw,Î,Î];exact Int.add_le_add (h x (Zm ..)) (zP λy c=>h y (Zh _ c))
theorem sL{α:Type}{a:α->Int}{l:List α}(h:∀x∈l,0<=a x):0<=(l.map a).sum:=by
 have:=zP (a:=λ_=>(0:Int)) (b:=a) h
 have e:∀l:List α,(l.map λ_=>(0:Int)).sum=0:=by
  intro l
  induction l with
  |nil=>rfl
  |cons x l c=>rw[Zw,Î,c];rfl
 rw[e]at this;exact this
theorem F6(s:a8 H j)(f:H d=τ):a8 H (upd j d u):=λc a e=>by
 rw[af (aa e f)];exact s _ _ e
noncomputable def Qp:V->Bool
 |.int _=>true
 |_=>false
theorem ki{α β:Type}{f:α->Option β}:∀{l:List α},(∀a∈l,f a=τ)->l.filterMap f=[]
 |[],_=>rfl
 |a::l,h=>by rw[ç,h a (Zm ..)];exact ki λb c=>h b (Zh _ c)
noncomputable def ee(q:Str×Nat):V×V:=(.str q.1,.int (q.2:Int))
noncomputable def vD(a:Addr):List (Str×V):=[("homes",.ref a)]
noncomputable def sM(a b:Addr):List (Str×V):=[("homes",.ref a),("weights",.ref b)]
noncomputable def zQ(a b c:Addr):List (Str×V):=[("homes",.ref a),("weights",.ref b),("lines",.ref c)]
theorem JG(a:Addr):dQ "homes" (.ref a) []=vD a:=rfl
theorem F7(a b:Addr):dQ "weights" (.ref b) (vD a)=sM a b:=by
 show (if ("homes":Str)="weights" then(("homes":Str),V.ref b)::[] else(("homes":Str),V.ref a)::dQ "weights" (.ref b) [])=_;rw[if_neg ∅];rfl
theorem BF(a b c:Addr):dQ "lines" (.ref c) (sM a b)=zQ a b c:=by
 show (if ("homes":Str)="lines" then(("homes":Str),V.ref c)::[(("weights":Str),V.ref b)] else(("homes":Str),V.ref a)::(if ("weights":Str)="lines" then(("weights":Str),V.ref c)::[] else(("weights":Str),V.ref b)::dQ "lines" (.ref c) []))=_;rw[if_neg ∅,if_neg ∅];rfl
theorem eu(a b c:Addr):(zQ a b c).lookup ("homes":Str)=ρ (.ref a):=by
 rw[<-BF,aE,if_neg ∅,<-F7,aE,if_neg ∅,<-JG,aE,if_pos rfl]
theorem bL(a b c:Addr):(zQ a b c).lookup ("weights":Str)=ρ (.ref b):=by
 rw[<-BF,aE,if_neg ∅,<-F7,aE,if_pos rfl]
theorem bI(a b c:Addr):(zQ a b c).lookup ("lines":Str)=ρ (.ref c):=by
 rw[<-BF,aE,if_pos rfl]
noncomputable def aj(ls:List Str)(f:Str->Int):List Str:=ls.filter λp=>decide (0<f p)
theorem qc:∀{hs:List Str} {j:Nat} (h:j<hs.9),hs.idxOf hs[j]<=j
 |[],j,h=>absurd h (Ť _)
 |a::hs,0,h=>by
  show (a::hs).idxOf a<=0;rw[List.idxOf_cons_self];exact Zf 0
 |a::hs,j+1,h=>by
  have b:j<hs.9:=by simpa using h
  show (a::hs).idxOf hs[j]<=j+1;rw[List.idxOf_cons];have:=qc b
  cases(a==hs[j]) with
  |true=>exact ZE _
  |false=>show List.idxOf hs[j] hs+1<=j+1;omega
noncomputable def eA(i:Int)(n:Nat):Bool:=decide (0<=i)&&decide (i<(n:Int))
noncomputable def aL(ws:List Int)(qs:List (Str×Nat)):Int:=(qs.map λq=>ws.getD q.2 0).sum
noncomputable def eQ(ws:List Int)(many:Int)(qs:List (Str×Nat))(w:Int):Bool:=!qs.isEmpty&&(decide (1<=w)&&decide (many*w<=aL ws qs))
noncomputable def aI{α:Type}(ns:List Int)(l:List α):List α:=bg (λi=>decide ((i:Int)∈ns)) 0 l
noncomputable def aH{α:Type}(ns:List Int)(l:List α):List α:=bg (λi=>!decide ((i:Int)∈ns)) 0 l
noncomputable def eB(d t:Nat)(l:List (Str×Nat)):List (Str×Nat):=l.flatMap λq=>if q.2=d then[q,(q.1,t)] else[q]
noncomputable def cE(ws:List Int)(lns:List (List (Str×Nat)))(many qY:Int)(ns:List Int)(w:Int):Bool:=
 eA qY lns.length&&(ns.all (λi=>eA i (lns.getD qY.toNat []).9)&&(eQ ws many (aI ns (lns.getD qY.toNat [])) w&&eQ ws many (aH ns (lns.getD qY.toNat [])) (ws.getD qY.toNat 0-w)))
noncomputable def cq(hs:List Str)(d:Nat):List Str:=hs++[hs.getD d ""]
noncomputable def bF(ws:List Int)(d:Nat)(w:Int):List Int:=(ws++[ws.getD d 0-w]).set d w
noncomputable def eR(lns:List (List (Str×Nat)))(d:Nat)(ns:List Int):List (List (Str×Nat)):=((lns++[aH ns (lns.getD d [])]).set d (aI ns (lns.getD d []))).map (eB d lns.9)
theorem lG(d t:Nat):∀l:List (Str×Nat),(eB d t l).9<=2*l.9
 |[]=>Zf _
 |q::l=>by
  have:=lG d t l;show ((if q.2=d then[q,(q.1,t)] else[q])++eB d t l).9<=2*(l.9+1);rw[Zd];split
  .grind
  .grind
theorem jc(d t:Nat)(l:List (Str×Nat))(q:Str×Nat):eB d t (l++[q])=eB d t l++(if q.2=d then[q,(q.1,t)] else[q]):=by simp_all [eB,wgj,congr,Ó]
structure BG(hs:List Str)(ws:List Int)(lns:List (List (Str×Nat))):Prop where
 w:ws.9=hs.9
 l:lns.9=hs.9
 e:∀l∈lns,∀q∈l,q.2<hs.9
 n:hs.9<=1000
 m:∀l∈lns,l.9<=5000
theorem nC(hi:i<ws.9)(g:i≠d):(bF ws d w).getD i 0=ws.getD i 0:=by
 unfold bF;rw[Z8,Ś (λz=>g z.symm),ZN hi,<-Z8]
theorem qe(hd:d<ws.9):(bF ws d w).getD d 0=w:=by
 unfold bF;rw[Z8,ŋ (by rw[Zd];lia)];rfl
theorem qf(hd:d<ws.9):(bF ws d w).getD ws.length 0=ws.getD d 0-w:=by
 unfold bF;rw[Z8,Ś (),ZL (Zf _),ü];rfl
theorem zR(ws:List Int)(d:Nat)(w:Int):(bF ws d w).9=ws.9+1:=by
 unfold bF;rw[ě,Zd];rfl
theorem cF(ws:List Int)(q:Str×Nat)(g:List (Str×Nat)):aL ws (q::g)=ws.getD q.2 0+aL ws g:=rfl
theorem sN(ws:List Int)(ps g:List (Str×Nat)):aL ws (ps++g)=aL ws ps+aL ws g:=by
 delta aL;rw[Zk,whp]
theorem lX(hd:d<ws.9):∀g:List (Str×Nat),(∀q∈g,q.2<ws.9)->aL (bF ws d w) (eB d ws.length g)=aL ws g
 |[],_=>rfl
 |q::g,h=>by
  have c:=lX (w:=w) hd g λq b=>h q (Zh _ b);have b:=h q (Zm ..);have e:eB d ws.length (q::g)=(if q.2=d then[q,(q.1,ws.9)] else[q])++eB d ws.length g:=rfl;rw[e,sN,c,cF]
  by_cases a:q.2=d
  .rw[if_pos a,cF,cF,a,qe hd];have f:(bF ws d w).getD ((q.1,ws.9):Str×Nat).2 0=ws.getD d 0-w:=qf hd;rw[f];show w+(ws.getD d 0-w+0)+_=_
   lia
  .rw[if_neg a,cF,nC b a];show ws.getD q.2 0+0+_=_
   lia
theorem BH:∀(ws:List Int) (d:Nat) (w:Int),d<ws.9->(ws.set d w).sum=ws.sum-ws.getD d 0+w
 |[],_,_,h=>absurd h (Ť _)
 |x::ws,0,w,_=>by
  show w+ws.sum=x+ws.sum-x+w
  lia
 |x::ws,d+1,w,h=>by
  have a:=BH ws d w (by simpa using h);show x+(ws.set d w).sum=x+ws.sum-ws.getD d 0+w;rw[a]
  lia
theorem zS(hd:d<ws.9):(bF ws d w).sum=ws.sum:=by grind [bF,BH,Zd,ZN]
structure ia(many:Int)(hs:List Str)(ws:List Int)(lns:List (List (Str×Nat))):Prop where
 w:ws.9=hs.9
 l:lns.9=hs.9
 p:∀w∈ws,1<=w
 e:∀l∈lns,∀q∈l,q.2<hs.9
 b:∀(i:Nat) (l:List (Str×Nat)),lns[i]?=ρ l->many*ws.getD i 0<=aL ws l
noncomputable def pre(ls:List Int)(k:Nat):Int:=(ls.take k).sum
theorem Ng{a b:Prop}[Decidable a][Decidable b]{α:Type}{x y:α}(h:a↔b):(if a then x else y)=if b then x else y:=by simp_all [if_pos,if_neg]
noncomputable def hX(p:Str)(z:Str×Nat):List Str->List (List (Str×Nat))->Nat
 |h::hs,l::lns=>(if h=p then l.count z else 0)+hX p z hs lns
 |_,_=>0
theorem vE(p:Str)(z:Str×Nat)(h:Str)(l:List (Str×Nat)):∀(hs:List Str) (lns:List (List (Str×Nat))),hs.9=lns.9->hX p z (hs++[h]) (lns++[l])=hX p z hs lns+(if h=p then l.count z else 0)
 |[],[],_=>by
  show (if h=p then l.count z else 0)+0=0+_
  lia
 |[],_::_,e=>by cases e
 |_::_,[],e=>by cases e
 |x::hs,y::lns,e=>by
  show (if x=p then y.count z else 0)+hX p z (hs++[h]) (lns++[l])=_;rw[vE p z h l hs lns (by simpa using e)];show _=(if x=p then y.count z else 0)+hX p z hs lns+_
  lia
theorem ye(p:Str)(z:Str×Nat)(g:List (Str×Nat)):∀(hs:List Str) (lns:List (List (Str×Nat))) (d:Nat),hs.9=lns.9->d<lns.9 ->
 hX p z hs (lns.set d g)+(if hs.getD d ""=p then(lns.getD d []).count z else 0)=hX p z hs lns+(if hs.getD d ""=p then g.count z else 0)
 |_,[],d,_,h=>absurd h (Ť _)
 |[],_::_,_,e,_=>by cases e
 |x::hs,y::lns,0,_,_=>by
  show (if x=p then g.count z else 0)+hX p z hs lns+(if x=p then y.count z else 0)=(if x=p then y.count z else 0)+hX p z hs lns+(if x=p then g.count z else 0)
  lia
 |x::hs,y::lns,d+1,e,h=>by
  have a:=ye p z g hs lns d (by simpa using e) (by simpa using h);show (if x=p then y.count z else 0)+hX p z hs (lns.set d g)+(if hs.getD d ""=p then(lns.getD d []).count z else 0)=(if x=p then y.count z else 0)+hX p z hs lns+(if hs.getD d ""=p then g.count z else 0)
  lia
theorem yf(p:Str){f:List (Str×Nat)->List (Str×Nat)}:∀(hs:List Str) (lns:List (List (Str×Nat))),(∀l∈lns,(f l).count z=l.count z')->hX p z hs (lns.map f)=hX p z' hs lns
 |_,[],_=>by cases ‹List Str›<;>rfl
 |[],_::_,_=>rfl
 |x::hs,y::lns,h=>by
  show (if x=p then(f y).count z else 0)+hX p z hs (lns.map f)=(if x=p then y.count z' else 0)+hX p z' hs lns;rw[yf p hs lns λl hl=>h l (Zh _ hl),h y (Zm ..)]
theorem cnt_cons(q z:Str×Nat)(l:List (Str×Nat)):(q::l).count z=l.count z+if q=z then 1 else 0:=by simp_all [List.count_cons,if_pos,beq_self_eq_true,if_neg]
theorem sO(f:Nat->Bool)(z:Str×Nat):∀(k:Nat) (l:List (Str×Nat)),(bg f k l).count z+(bg (λi=>!f i) k l).count z=l.count z
 |_,[]=>rfl
 |k,q::l=>by
  have a:=sO f z (k+1) l;show (if f k then q::bg f (k+1) l else bg f (k+1) l).count z+(if !f k then q::bg (λi=>!f i) (k+1) l else bg (λi=>!f i) (k+1) l).count z=_;rw[cnt_cons]
  cases f k with
  |true=>
   grind
  |false=>
   grind
theorem qg(hd:d<t)(w:Str)(e:Nat):∀l:List (Str×Nat),(∀q∈l,q.2<t)->(eB d t l).count (w,e)=l.count (w,if e=t then d else e)
 |[],_=>rfl
 |q::l,h=>by
  have f:=qg hd w e l λq c=>h q (Zh _ c);have c:=h q (Zm ..);have g:eB d t (q::l)=(if q.2=d then[q,(q.1,t)] else[q])++eB d t l:=rfl;rw[g,List.count_append,f,cnt_cons]
  let{a,b}:=q
  have c:b<t:=c;show (if b=d then[(a,b),(a,t)] else[(a,b)]).count (w,e)+_=_
  by_cases i:b=d
  .grind
  .grind
def Hc(B:Str->List (Str×Str))(hs:List Str)(lns:List (List (Str×Nat))):Prop:=
 ∀(p w:Str) (e:Nat),hX p (w,e) hs lns=if e<hs.9/\p∈hs/\(w,hs.getD e "")∈B p then 1 else 0
theorem iy{f:Str->Option (Str×Str)}(g:∀r x,f r=ρ x->x.1=r):∀L:List Str,((L.filterMap f).map (·.1)).Sublist L
 |[]=>.slnil
 |r::L=>by
  rw[ç]
  cases e:f r with
  |none=>exact(iy g L).cons _
  |some x=>
   show (x.1::(L.filterMap f).map (·.1)).Sublist _;rw[g r x e];exact(iy g L).cons₂ _
theorem jd{α:Type}(f:α->Int):∀l:List α,(∀x∈l,0<=f x)->(l.map f).sum=((l.filter λx=>decide (0<f x)).map f).sum
 |[],_=>rfl
 |x::l,h=>by
  have b:=jd f l λy d=>h y (Zh _ d);have e:=h x (Zm ..);show f x+(l.map f).sum=_
  by_cases c:0<f x
  .rw[ā (p:=λx=>decide (0<f x)) (a:=x) (decide_eq_true c),b];rfl
  .rw[Ć (p:=λx=>decide (0<f x)) (a:=x) (by rw[decide_eq_false c];decide),b];omega
theorem vF{f:Str->Int}(h:∀p∈ls,0<=f p):((aj ls f).map f).sum=(ls.map f).sum:=(jd f ls h).symm
noncomputable def fA(ds:List Nat)(qs:List (Str×Nat)):List (Str×Nat):=qs.filter λq=>decide (q.2∈ds)
noncomputable def sP(lns:List (List (Str×Nat)))(many:Int)(ds:List Nat):List Nat:=ds.filter λd=>decide (many<=((fA ds (lns.getD d [])).9:Int))
def BI(lns:List (List (Str×Nat)))(many:Int)(S:List Nat):Prop:=∀d∈S,d<lns.9/\many<=((fA S (lns.getD d [])).9:Int)
theorem F8(e:sP lns many g≠g):(sP lns many g).9<g.9:=by
 have a:(sP lns many g).Sublist g:=Ι;exact Nat.lt_of_le_of_ne a.length_le λz=>e (a.eq_of_length z)
theorem mO:∀g:List (Str×Nat),(∀q∈g,ws.getD q.2 0<=h)->aL ws g<=(g.9:Int)*h
 |[],_=>by show (0:Int)<=(0:Nat)*h;simp
 |q::g,a=>by
  have c:=mO g λp b=>a p (Zh _ b);have d:=a q (Zm ..);rw[cF,ZP,wdN,wfw];show _<=_+1*h
  lia
theorem iM{ws:List Int}{i:Nat}(h:i<ws.9):ws.getD i 0∈ws:=by
 rw[Z8,Z5 h];exact ZQ h
theorem vG(f:Nat->Bool)(ws:List Int):∀(k:Nat) (g:List (Str×Nat)),aL ws (bg f k g)=(((wfs k g.9).filter f).map λi=>ws.getD (g.getD (i-k) ("",0)).2 0).sum
 |_,[]=>rfl
 |k,q::g=>by
  have a:=vG f ws (k+1) g
  have e:((wfs (k+1) g.9).filter f).map (λi=>ws.getD ((q::g).getD (i-k) ("",0)).2 0)=((wfs (k+1) g.9).filter f).map λi=>ws.getD (g.getD (i-(k+1)) ("",0)).2 0:=ú λi hi=>by
   have:=(wgR.mp (ZG.mp hi).1).1;rw[show i-k=(i-(k+1))+1 by lia];rfl
  show aL ws (if f k then q::bg f (k+1) g else bg f (k+1) g)=_;rw[ZP,whb]
  cases b:f k with
  |true=>
   rw[if_pos rfl,ā b,Zw,e,cF,a,Î,ü];rfl
  |false=>
   rw[if_neg ⋯,Ć (by grind),e,a]
theorem F9{a b:List Int}(h:a.Perm b):a.sum=b.sum:=by
 induction h with
 |nil=>rfl
 |cons x _ c=>rw[Î,Î,c]
 |swap x y l=>rw[Î,Î,Î,Î];omega
 |trans _ _ d e=>exact d.trans e
theorem zT{a b:List Nat}(na:a.Nodup)(g:b.Nodup)(h:∀x,x∈a↔x∈b):a.Perm b:=List.perm_iff_count.mpr λx=>by
 by_cases c:x∈a
 .rw[wdO.mp na |> λz=>wfi (z x) (wea.mpr c),wdO.mp g |> λz=>wfi (z x) (wea.mpr ((h x).mp c))]
 .rw[wgD.mpr c,wgD.mpr λz=>c ((h x).mpr z)]
theorem CD(ws:List Int)(ns:List Int)(g:List (Str×Nat)):aL ws (aI ns g)+aL ws (aH ns g)=aL ws g:=by
 have gen:∀(f:Nat->Bool) (k:Nat) (l:List (Str×Nat)),aL ws (bg f k l)+aL ws (bg (λi=>!f i) k l)=aL ws l:=by
  intro f k l
  induction l generalizing k with
  |nil=>rfl
  |cons q l a=>
   have a:=a (k+1);show aL ws (if f k then q::bg f (k+1) l else bg f (k+1) l)+aL ws (if !f k then q::bg (λi=>!f i) (k+1) l else bg (λi=>!f i) (k+1) l)=_;rw[cF]
   cases f k with
   |true=>
    rw[if_pos ⋯,if_neg ⋯,cF]
    lia
   |false=>
    rw[if_neg ⋯,if_pos ⋯,cF]
    lia
 exact gen _ 0 g
theorem mP{f:Nat->Int}:∀ns:List Nat,(∀n∈ns,f n<=h)->(ns.map f).sum<=(ns.9:Int)*h
 |[],_=>by show (0:Int)<=(0:Nat)*h;simp
 |n::ns,a=>by
  have c:=mP ns λp b=>a p (Zh _ b);have d:=a n (Zm ..);rw[Zw,Î,ZP,wdN,wfw];show _<=_+1*h
  lia
theorem sQ{f:Nat->Int}:∀ns:List Nat,(∀n∈ns,1<=f n)->ns≠[]->1<=(ns.map f).sum
 |[],_,h=>absurd rfl h
 |[n],a,_=>by
  have:=a n (Zm ..);show 1<=f n+0
  lia
 |n::m::ns,a,_=>by
  have c:=a n (Zm ..);have d:=sQ (m::ns) (λp b=>a p (Zh _ b)) (λz=>nomatch z);rw[Zw,Î]
  lia
noncomputable def nI(ds:List Nat):List Int:=ds.map λn:Nat=>(n:Int)
theorem Fa{g:List Nat}{e:Nat}:(e:Int)∈nI g↔e∈g:=by grind [nI]
theorem Fb(e:Nat)(g:List Nat):jY (.int (e:Int)) ((nI g).map V.int)=decide (e∈g):=by
 rw[iH];exact decide_eq_decide.mpr Fa
theorem eC(g:List Nat):(nI g).9=g.9:=Z4 _
theorem Kw{g:List Nat}{i n:Nat}(h:g[i]?=ρ n):((nI g).map V.int)[i]?=ρ (.int (n:Int)):=by
 unfold nI;rw[Z9,Z9,h];rfl
theorem vH(a b:List Nat):nI (a++b)=nI a++nI b:=Zk
noncomputable def cO(JF:List Str)(f:Str->Int):Str->Int:=λp=>if p∈JF then f p else 0
theorem sR{α:Type}{f g:α->Int}:∀l:List α,(∀x∈l,f x<=g x)->(l.map f).sum<=(l.map g).sum
 |[],_=>ľ _
 |x::l,h=>by
  have:=h x (Zm ..);have:=sR l λy a=>h y (Zh _ a);rw[Zw,Zw,Î,Î]
  lia
theorem sS{α:Type}{f:α->Int}{x:α}:∀l:List α,(∀x∈l,0<=f x)->x∈l->0<f x->0<(l.map f).sum
 |y::l,h,a,c=>by
  have d:=h y (Zm ..);have hn:=sL λz b=>h z (Zh _ b);rw[Zw,Î];rcases ZD.mp a with e |a
  .rw[<-e];lia
  .have:=sS l (λz b=>h z (Zh _ b)) a c
   lia
theorem vI:∀(a b:List Int),nj (a.map V.int) (b.map V.int)=decide (a=b)
 |[],[]=>rfl
 |[],_::_=>rfl
 |_::_,[]=>rfl
 |x::a,y::b=>by
  have d:=vI a b;show (ph (.int x) (.int y)&&nj (a.map V.int) (b.map V.int))=_;rw[d]
  by_cases h:x=y
  .subst h
   by_cases c:a=b
   .subst c;have:ph (.int x) (.int x)=true:=by simp[ph]
    rw[this,decide_eq_true rfl,decide_eq_true rfl];rfl
   .rw[decide_eq_false c,ĭ,decide_eq_false λz=>c (wgc z).2]
  .have:ph (.int x) (.int y)=false:=by simp[ph,h]
   rw[this,Ŀ,decide_eq_false λz=>h (wgc z).1]
theorem pG{p:V->Bool}{f:Nat->Bool}(h:∀n:Nat,p (.int (n:Int))=f n):∀g:List Nat,((nI g).map V.int).filter p=(nI (g.filter f)).map V.int
 |[]=>rfl
 |k::g=>by
  have a:=pG h g;show (V.int (k:Int)::(nI g).map V.int).filter p=_
  cases e:f k with
  |true=>rw[ā (by rw[h,e]),ā e,a];rfl
  |false=>rw[Ć (by rw[h,e];decide),Ć (by rw[e];decide),a]
theorem sT(h:x∈(nI g).map V.int):∃n∈g,x=.int (n:Int):=by
 let{i,hi,rfl}:=Ze.mp h
 let{n,hn,rfl}:=Ze.mp hi
 exact⟨n,hn,rfl⟩
theorem yg(n:Nat):((ZF n).map λi=>V.int (i:Nat))=(nI (ZF n)).map V.int:=by
 unfold nI;rw[Zj];rfl
noncomputable def dB(rs:List Nat):List (Key×V):=rs.map λn:Nat=>((Â (n:Int):Key),V.bl true)
theorem zU(e:Nat):∀g:List Nat,cZ (dB g) (Â (e:Int):Key)=if e∈g then ρ (.bl true) else τ
 |[]=>rfl
 |r::g=>by
  have a:=zU e g
  by_cases h:r=e
  .subst h;rw[if_pos (Zm ..)];exact fy (p:=((Â (r:Int):Key),V.bl true)) (r:=dB g) rfl
  .have hn:¬(Â (r:Int):Key)=Â (e:Int):=λz=>h (by grind);rw[show dB (r::g)=((Â (r:Int):Key),V.bl true)::dB g from rfl,fz hn,a]
   by_cases b:e∈g
   .grind
   .grind
theorem Kx{e:Nat}{g:List Nat}(h:e∉g):putK (dB g) (Â (e:Int):Key) (.bl true)=dB (g++[e]):=by
 rw[eU _ (by rw[zU,if_neg h])];delta dB;rw[Zk];rfl
theorem HV(g:List Nat):((dB g).map λj=>kV j.1)=(nI g).map V.int:=by
 unfold dB nI;rw[Zj,Zj];rfl
theorem HW(h:g≠[]):∃(z:Nat) (ys:List Nat),g=ys++[z]/\((nI g).map V.int)[((nI g).map V.int).9-1]?=ρ (.int (z:Int))/\((nI g).map V.int).dropLast=(nI ys).map V.int:=by
 refine{g.getLast h,g.dropLast,(wbT h).symm,?_,?_}
 .have e:nI g=nI g.dropLast++[((g.getLast h:Nat):Int)]:=by
   conv=>lhs;rw[<-wbT h]
   exact vH _ _
  rw[e,Zk,Zd];show (_++[V.int _])[_+1-1]?=_;rw[Nat.add_sub_cancel,ZL (Zf _),ü];rfl
 .unfold nI;rw[<-wgS,<-wgS]
noncomputable def dR(many:Int)(p:Nat->Int)(n:Nat):List (Key×V):=(ZF n).map λi:Nat=>((Â (p i%many):Key),V.int (i:Int))
theorem CF{κ:Type}[DecidableEq κ]{k:κ}{v:V}:∀{kvs:List (κ×V)},cZ kvs k=ρ v->(k,v)∈kvs:=by intro kvs;induction kvs<;>grind [Eg,fy,Zm,fz,Zh]
theorem Fc(many:Int)(p:Nat->Int)(n:Nat)(r:Int):(cZ (dR many p n) (Â r:Key)=τ/\∀i,i<n->p i%many≠r)\/∃i,i<n/\p i%many=r/\cZ (dR many p n) (Â r:Key)=ρ (.int (i:Int)):=by
 cases h:cZ (dR many p n) (Â r:Key) with
 |none=>
  refine .inl {rfl,λi hi e=>?_};refine EF h (Ze.mpr {((Â (p i%many):Key),V.int (i:Int)),Ze.mpr {i,Í.mpr hi,rfl},?_});show (Â (p i%many):Key)=_;rw[e]
 |some v=>
  let{i,hi,e}:=Ze.mp (CF h)
  have a:p i%many=r:=Sum.inl.inj (ř e).1;have b:V.int (i:Int)=v:=(ř e).2;exact .inr {i,Í.mp hi,a,by rw[b]}
theorem Ky{p:Nat->Int}(h:cZ (dR many p n) (Â (p n%many):Key)=τ):putK (dR many p n) (Â (p n%many):Key) (.int (n:Int))=dR many p (n+1):=by
 rw[eU _ h];delta dR;rw[Œ,Zk];rfl
theorem Kz(many:Int)(p:Nat->Int)(n:Nat):(dR many p n).9=n:=by delta dR;rw[Z4,ZJ]
theorem BJ(ns:List Nat)(j:Nat):(nI ns).take j=nI (ns.take j):=by unfold nI;rw[Ĭ]
theorem HX(ns:List Nat)(j:Nat):(nI ns).drop j=nI (ns.drop j):=by unfold nI;rw[Γ]
noncomputable def restOf(m i0:Nat):List Nat:=(ZF m).filter λn=>decide (n≠i0)
noncomputable def numsOf(m i0 k:Nat):List Nat:=i0::(restOf m i0).take k
theorem sU(m i0 k:Nat):(numsOf m i0 k).Nodup:=by
 delta numsOf;refine Ü.mpr {λh=>?_,(whc.filter _).sublist (ī _ _)};have:=of_decide_eq_true (ZG.mp ((ī _ _).subset h)).2;exact this rfl
theorem wZ(h:i0<m):∀n∈numsOf m i0 k,n<m:=λn hn=>by
 rcases ZD.mp hn with rfl |hn
 .exact h
 .exact Í.mp (ZG.mp ((ī _ _).subset hn)).1
theorem KA(ws:List Int){g:List (Str×Nat)}{n:Nat}(h:n<g.9):(g.map λq=>ws.getD q.2 0).getD n 0=ws.getD (g.getD n ("",0)).2 0:=by
 rw[Z8,Z9,Z5 h,Z8 (l:=g),Z5 h];rfl
theorem HY{R:Addr->Prop}:(∀y∈ys,∃q,y=.ref q/\R q)->∃ps:List Addr,ys=ps.map V.ref/\∀q∈ps,R q:=by
 induction ys with
 |nil=>exact λ_=>{[],rfl,λq h=>nomatch h}
 |cons y ys b=>
  intro h
  let{q,rfl,c}:=h y (Zm ..)
  let{ps,rfl,d}:=b λz e=>h z (Zh _ e)
  exact{q::ps,rfl,λr a=>by
   rcases ZD.mp a with rfl |a
   .exact c
   .exact d r a}
noncomputable abbrev zV:=Nat×List Nat×Int
set_option genInjectivity true in
inductive Runs(many:Int)(Ow:List Str)(Ox:List Int)(HZ:List (List (Str×Nat))):List zV->List Str->List Int->List (List (Str×Nat))->Prop
 |nil:Runs many Ow Ox HZ [] Ow Ox HZ
 |snoc {l:List zV} {hs:List Str} {ws:List Int} {lns:List (List (Str×Nat))} {d:Nat} {ns:List Nat} {w:Int}:Runs many Ow Ox HZ l hs ws lns->cE ws lns many (d:Int) (nI ns) w=true->(ns.9<=1000/\ns.Nodup)->Runs many Ow Ox HZ (l++[(d,ns,w)]) (cq hs d) (bF ws d w) (eR lns d (nI ns))
noncomputable def vJ(a:Addr):List (Str×V):=[("weights",.ref a)]
noncomputable def sV(a b:Addr):List (Str×V):=[("weights",.ref a),("splits",.ref b)]
noncomputable def vK(a b c:Addr):List (Str×V):=[("weights",.ref a),("splits",.ref b),("kept",.ref c)]
noncomputable def qZ(a b c d:Addr):List (Str×V):=[("weights",.ref a),("splits",.ref b),("kept",.ref c),("last",.ref d)]
theorem JH(a:Addr):dQ "weights" (.ref a) []=vJ a:=rfl
theorem Fd(a b:Addr):dQ "splits" (.ref b) (vJ a)=sV a b:=by
 show (if ("weights":Str)="splits" then _ else(("weights":Str),V.ref a)::dQ "splits" (.ref b) [])=_;rw[if_neg ∅];rfl
theorem BL(a b c:Addr):dQ "kept" (.ref c) (sV a b)=vK a b c:=by
 show (if ("weights":Str)="kept" then _ else(("weights":Str),V.ref a)::(if ("splits":Str)="kept" then _ else(("splits":Str),V.ref b)::dQ "kept" (.ref c) []))=_;rw[if_neg ∅,if_neg ∅];rfl
theorem yh(a b c d:Addr):dQ "last" (.ref d) (vK a b c)=qZ a b c d:=by
 show (if ("weights":Str)="last" then _ else(("weights":Str),V.ref a)::(if ("splits":Str)="last" then _ else(("splits":Str),V.ref b)::(if ("kept":Str)="last" then _ else(("kept":Str),V.ref c)::dQ "last" (.ref d) [])))=_;rw[if_neg ∅,if_neg ∅,if_neg ∅];rfl
theorem zW(a b c d:Addr):(qZ a b c d).lookup ("last":Str)=ρ (.ref d):=by
 rw[<-yh,aE,if_pos rfl]
theorem zX(a b c d:Addr):(qZ a b c d).lookup ("kept":Str)=ρ (.ref c):=by
 rw[<-yh,aE,if_neg ∅,<-BL,aE,if_pos rfl]
theorem nD(a b c d:Addr):(qZ a b c d).lookup ("splits":Str)=ρ (.ref b):=by
 rw[<-yh,aE,if_neg ∅,<-BL,aE,if_neg ∅,<-Fd,aE,if_pos rfl]
theorem uC(a b c d:Addr):(qZ a b c d).lookup ("weights":Str)=ρ (.ref a):=by
 rw[<-yh,aE,if_neg ∅,<-BL,aE,if_neg ∅,<-Fd,aE,if_neg ∅,<-JH,aE,if_pos rfl]
theorem Ia:eI (upd H b o) b=eI H b:=by
 funext c;unfold eI
 by_cases h:c=b
 .rw[if_pos h,if_pos h]
 .rw[if_neg h,if_neg h,af h]
theorem Fe(s:a8 H g)(h:H b=τ):a8 H (eI g b):=λc o e=>gk (s _ _ e) (aa e h)
theorem sW:∀{ws:List Int},(∀w∈ws,1<=w)->(ws.9:Int)<=ws.sum
 |[],_=>ľ _
 |w::ws,h=>by
  have b:=h w (Zm ..);have c:=sW (ws:=ws) λx a=>h x (Zh _ a);rw[Î,ZP]
  lia
theorem Ff:∀{fs:List (Str×V)},n∉fs.map (·.1)->fs.lookup n=τ:=by grind [Zm,Zh]
theorem getD_some{α:Type}{l:List α}{i:Nat}(x:α)(h:i<l.9):l[i]?=ρ (l.getD i x):=by
 rw[Z8,Z5 h];rfl
def Nh(lns:List (List (Str×Nat))):Nat->List Str->Prop
 |_,[]=>True
 |d,w::ws=>∃e,(w,e)∈lns.getD d []/\Nh lns e ws
noncomputable def cat:List Str->Str
 |[]=>""
 |w::ws=>w++cat ws
theorem KB{z:Str}{n:Nat}(j:n<=1000000)(g:z.9*n<=1000000):MulOk z (n:Int):=by
 refine{by rw[decide_eq_false 1.0,decide_eq_false 1.0];rfl,λa _=>?_,λ_ _=>?_}
 .have b:(z.9:Int)*(n:Int)<=1000000:=by rw[<-ε];omega
  have c:(z.9:Int)<=(2^63-1)/(n:Int):=(wdn 1.0).mpr 1.0;omega
 .rw[Zy];have:=av g;exact decide_eq_false 1.0
section
variable{ls:List Str}
noncomputable def bZ(f:Str->Int)(ls:List Str):List (Str×Int):=ls.map λp=>(p,f p)
theorem lH(f:Str->Int)(ls:List Str):(bZ f ls).map (·.1)=ls:=by
 delta bZ;rw[Zj];exact List.map_id _
theorem fY(f:Str->Int)(ls:List Str):Kv (bZ f ls) ls f:=λp a=>vC a
theorem JI{f h:Str->Int}:PN (b9 (bZ f ls)) (b9 (bZ h ls))=true↔∀p∈ls,f p=h p:=by
 delta PN;rw[iL,iL];have e:(bZ f ls).9=(bZ h ls).9:=by delta bZ;rw[Z4,Z4]
 rw[e,beq_self_eq_true,ν];delta hitsD;rw[ZM];constructor
 .intro q p a;have:=q ((ZA p:Key),.int (f p)) (Ze.mpr {(p,f p),Ze.mpr ⟨p,a,rfl⟩,rfl});have this:(match cZ (b9 (bZ h ls)) (ZA p:Key) with |some y=>ph (.int (f p)) y |none=>false)=true:=this;rw[cG,fY h ls p a]at this;have this:ph (.int (f p)) (.int (h p))=true:=this;unfold ph at this;simpa using this
 .intro q d b
  let{z,c,rfl}:=Ze.mp b
  let{p,a,rfl}:=Ze.mp c
  show (match cZ (b9 (bZ h ls)) (ZA p:Key) with |some y=>ph (.int (f p)) y |none=>false)=true;rw[cG,fY h ls p a];show ph (.int (f p)) (.int (h p))=true;rw[q p a];unfold ph;simp
end
theorem zY(f:Str->Int)(ls:List Str):(b9 (bZ f ls)).map (·.2)=(ls.map f).map V.int:=by
 delta b9 bZ;rw[Zj,Zj,Zj];rfl
section
variable{κ:Type}[DecidableEq κ]
noncomputable def bump:List (κ×Int)->κ->Int->List (κ×Int)
 |[],k,v=>[(k,v)]
 |(j,u)::m,k,v=>if j=k then(j,u+v)::m else(j,u)::bump m k v
end
section
variable{E:Str->List Str}
noncomputable def Ni(E:Str->List Str)(a:List (Str×Int))(p:Str×Int):List (Str×Int):=(E p.1).foldl (λa q=>bump a q p.2) a
noncomputable def vx(E:Str->List Str)(m:List (Str×Int)):List (Str×Int):=m.foldl (Ni E) []
end
end _B
open _B
namespace _S
theorem zZ:ZW "all"=ρ (.builtin "all"):=∅
theorem Nj:ZW "any"=ρ (.builtin "any"):=∅
theorem nE:ZW "sorted"=ρ (.builtin "sorted"):=∅
theorem di:ZW "isinstance"=ρ (.builtin "isinstance"):=∅
theorem Ib:ZW "str"=ρ (.type "str"):=∅
theorem eV:ZW "list"=ρ (.type "list"):=∅
theorem KC:ZW "set"=ρ (.type "set"):=∅
noncomputable def Nk(ls:List V):V->V:=λv=>.bl (jY v ls)
noncomputable def CG(g:Str)(b d q:Addr):List (Str×V):=[("signs",.str g),("barred",.ref b),("moves",.ref d),("lasting",.ref q)]
noncomputable def Oy(g:Str):List (Str×V):=[("signs",.str g)]
noncomputable def M6(g:Str)(b:Addr):List (Str×V):=[("signs",.str g),("barred",.ref b)]
noncomputable def KD(g:Str)(b d:Addr):List (Str×V):=[("signs",.str g),("barred",.ref b),("moves",.ref d)]
theorem KG(g:Str):dQ "signs" (.str g) []=Oy g:=rfl
theorem put2(g:Str)(b:Addr):dQ "barred" (.ref b) (Oy g)=M6 g b:=by
 show (if ("signs":Str)="barred" then(("signs":Str),V.ref b)::[] else(("signs":Str),V.str g)::dQ "barred" (.ref b) [])=_;rw[if_neg ∅];rfl
theorem put3(g:Str)(b d:Addr):dQ "moves" (.ref d) (M6 g b)=KD g b d:=by
 show (if ("signs":Str)="moves" then(("signs":Str),V.ref d)::[(("barred":Str),V.ref b)] else(("signs":Str),V.str g)::(if ("barred":Str)="moves" then(("barred":Str),V.ref d)::[] else(("barred":Str),V.ref b)::dQ "moves" (.ref d) []))=_;rw[if_neg ∅,if_neg ∅];rfl
theorem Fg(g:Str)(b d q:Addr):dQ "lasting" (.ref q) (KD g b d)=CG g b d q:=by
 show (if ("signs":Str)="lasting" then(("signs":Str),V.ref q)::[(("barred":Str),V.ref b),(("moves":Str),V.ref d)] else(("signs":Str),V.str g)::(if ("barred":Str)="lasting" then(("barred":Str),V.ref q)::[(("moves":Str),V.ref d)] else(("barred":Str),V.ref b)::(if ("moves":Str)="lasting" then(("moves":Str),V.ref q)::[] else(("moves":Str),V.ref d)::dQ "lasting" (.ref q) [])))=_;rw[if_neg ∅,if_neg ∅,if_neg ∅];rfl
theorem kj(g:Str)(b d:Addr):(KD g b d).lookup ("moves":Str)=ρ (.ref d):=by
 rw[<-put3,aE,if_pos rfl]
theorem mQ(g:Str)(b d q:Addr):(CG g b d q).lookup ("moves":Str)=ρ (.ref d):=by
 rw[<-Fg,aE,if_neg ∅];exact kj g b d
inductive KH(vs:List V)(H:Hp)(Q:VK)(eK:XK):Prop
 |mk (c t m) (_:vs=[.int c,.int t,.int m]) (_:0<=t) (_:t<=100000) (_:0<m) (_:∀d,0<=d->d<m->Q (.int d) H)
theorem vL(g:Str)(b d q:Addr):(CG g b d q).lookup ("lasting":Str)=ρ (.ref q):=by
 rw[<-Fg,aE,if_pos rfl]
theorem Hd(g:Str)(b d q:Addr){m:Str}(j:¬m="signs")(l:¬m="barred")(o:¬m="moves")(p:¬m="lasting"):(CG g b d q).lookup m=τ:=by
 rw[<-Fg,aE,if_neg p,<-put3,aE,if_neg o,<-put2,aE,if_neg l,<-KG,aE,if_neg j];rfl
structure Raw(K:Z6)(nm qual:Str)(st:Stmt)(f:Addr):Prop where
 ex:∃(oc:Value) (od:Option Addr) (kV doc pm:Value) (an:Option Addr) (fI ct:Value) (E9:Array (Option Value)),
  K.lookup f=ρ {oc,od,.func (ē nm qual (da st) (cC st) (aD st) .none kV doc pm an fI ct),E9}/\η K fI qual=true
 kp:ğ K (.ref f)=true
theorem A0{K:Z6}{nm g:Str}{st:Stmt}{f:Addr}{r:Value}{od t:Option Addr}{o:Array (Option Value)}{kV p pm j ct:Value}(l:K.lookup f=ρ {r,od,.func (ē nm g (da st) (cC st) (aD st) .none kV p pm t j ct),o})
 (c:η K j g=true) (k:ğ K (.ref f)=true):Raw K nm g st f:={⟨r,od,kV,p,pm,t,j,ct,o,l,c⟩,k}
theorem Raw.fn(R:Raw K nm g st f)
 (h:∀(kV j pm:Value) (p:Option Addr) (o ct:Value) (us:List Value),us.9=ps.9->bindArgs (ē nm g (da st) (cC st) (aD st) .none kV j pm p o ct) {us,[]}=pure (ps.zip us)) :
 ∃fd,xO K nm g st f fd/\Binds K fd ps []:=by
 let{{b,d,kV,j,pm,p,o,ct,a,l,c},k}:=R
 have F:=Ej (st:=st) l c k;exact{_,F,F.binds h}
theorem Raw.at_{mg:Str->Option Value}(X:K.In l)(G:l.Ns Ç mg)(a:PySem.W.nsIn K Ç nm=ρ (ρ (.ref f)))(R:Raw K nm nm st f)
 (h:∀(kV g pm:Value) (o:Option Addr) (j ct:Value) (us:List Value),us.9=ps.9->bindArgs (ē nm nm (da st) (cC st) (aD st) .none kV g pm o j ct) {us,[]}=pure (ps.zip us)) :
 ∃fd,FnAt K mg nm st ps f fd:=by
 let{fd,F,b}:=R.fn h
 exact{fd,F,b,PySem.W.mg_of X G a}
theorem eD{ss:List Str}{i:Nat}{y:V}(h:(ss.map V.str)[i]?=ρ y):∃p,ss[i]?=ρ p/\y=.str p/\i<ss.9/\p∈ss/\ss.take (i+1)=ss.take i++[p]:=by
 rw[Z9]at h
 cases e:ss[i]? with
 |none=>rw[e]at h;cases h
 |some z=>
  rw[e]at h;exact{z,rfl,(Zi h).symm,(Za.mp e).1,Zv e,by rw[Ô,e];rfl}
inductive BM(K:Z6)(vs:List V)(H:Hp)(Q:VK)(eK:XK):Prop
 |mk (a:Addr) (ns:List Int) (_:vs=[.ref a]) (_:aM K H a (ns.map V.int)) (_:ns.9<=63) (_:∀H',Q (.bl true) H')
noncomputable def one(c:Nat):Str:={#[c]}
theorem fq(nx:g x=τ)(j:g l=τ):a8 g (upd (upd g l p) x o2):=λb o e=>by rw[af (aa e nx),af (aa e j)];exact e
theorem Vs:ZW "ValueError"=ρ (.type "ValueError"):=∅
theorem KI:ZW "int"=ρ (.type "int"):=∅
theorem KJ:ZW "tuple"=ρ (.type "tuple"):=∅
theorem JK:ZW "dict"=ρ (.type "dict"):=∅
theorem Fh:ZW "bool"=ρ (.type "bool"):=∅
theorem x6:ZW "sum"=ρ (.builtin "sum"):=∅
theorem CH:ZW "min"=ρ (.builtin "min"):=∅
theorem JL:ZW "max"=ρ (.builtin "max"):=∅
theorem Ic:ZW "range"=ρ (.type "range"):=∅
set_option genInjectivity true in
inductive Thing(H:Hp):V->Prop where
 |flat {v:V} (h:d7 v=true):Thing H v
 |lst {a:Addr} {xs:List V} (h:H a=ρ (.lst xs)) (f:xs.all d7=true):Thing H (.ref a)
 |tup {a:Addr} {xs:List V} (h:H a=ρ (.tup xs)) (f:xs.all d7=true):Thing H (.ref a)
 |dic {a:Addr} (h:H a=ρ (.dK [])):Thing H (.ref a)
theorem A1(he:H e=τ)(hd:(upd H e g) d=τ):d≠e/\H d=τ/\del (upd (upd (upd H e g) d o2) e o3) e=upd H d o2:=by
 have a:d≠e:=λz=>by rw[z,a7]at hd;cases hd
 refine{a,by rw[af a]at hd;exact hd,?_};rw[wH,zo a,Bo he]
theorem mR(g:Str)(b d q:Addr):(CG g b d q).lookup ("signs":Str)=ρ (.str g):=by
 rw[<-Fg,aE,if_neg ∅,<-put3,aE,if_neg ∅,<-put2,aE,if_neg ∅,<-KG,aE,if_pos rfl]
theorem none_of(s:a8 H g)(h:g d=τ):H d=τ:=by
 cases q:H d with
 |none=>rfl
 |some o=>rw[s _ _ q]at h;cases h
inductive Fi(vs:List V)(H:Hp)(Q:VK)(eK:XK):Prop
 |mk (i) (_:vs=[.int i]) (_:Q (.bl true) H)
structure eT(m:Nat)(many wide:Int):Prop where
 a:2<=many
 b:many<=8
 c:1<=wide
 d:wide<=6
 e:(m:Int)^wide.toNat<=64
inductive Nm(K:Z6)(vs:List V)(H:Hp)(Q:VK)(eK:XK):Prop
 |mk (a:Addr) (ns:List Int) (p:Int) (_:vs=[.ref a,.int p]) (_:aM K H a (ns.map V.int)) (_:∀(c:Int) (H':Hp),a8 H H'->Q (.int c) H')
inductive KL(vs:List V)(H:Hp)(Q:VK)(eK:XK):Prop
 |mk (c g) (_:vs=[.int c,.str g]) (_:2<=g.9) (_:g.9<=4) (_:∀(p:Addr) (many wide:Int) (H':Hp),a8 H H'->H p=τ->H' p=ρ (.tup [.int many,.int wide])->eT g.length many wide->Q (.ref p) H')
inductive Fj(K:Z6)(vs:List V)(H:Hp)(Q:VK)(eK:XK):Prop
 |mk (l d es m f) (_:vs=[.ref l,.ref d]) (_:aM K H l (es.map V.str)) (_:es.9<=1000) (_:Rd H d (.dK (b9 m))) (_:Kv m es f) (_:∀H',a8 H H'->Q (.int ((es.map f).sum)) H')
inductive Ie(K:Z6)(vs:List V)(H:Hp)(Q:VK)(eK:XK):Prop
 |mk (i a xs) (_:vs=[.int i,.ref a]) (_:aM K H a xs) (_:Q (.bl (eA i xs.9)) H)
structure Down(ws:List Int)(lns:List (List (Str×Nat)))(h:Int)(d i:Nat)(qs:List (Str×Nat))(q:Str×Nat):Prop where
 m:h∈ws
 t:∀w∈ws,w<=h
 l:lns[d]?=ρ qs
 s:qs[i]?=ρ q
 e:ws.getD d 0=h
 lt:ws.getD q.2 0<h
theorem cJ{H:Hp}{a:Addr}{o:HO}(h:H a=τ):a8 H (upd H a o)/\(upd H a o) a=ρ o:={a8.upd h,a7}
def JM(v:V):Prop:=∃i:Int,v=.int i/\i.natAbs.log2<1920
section
variable{K:Z6}
inductive KM(K:Z6)(vs:List V)(H:Hp)(Q:VK)(eK:XK):Prop
 |mk (r a ps) (_:vs=[.str r,.ref a]) (_:aM K H a (ps.map V.str)) (_:("":Str)∈ps) (_:r.9<=1000) (_:∀H',a8 H H'->Q (.str (lend ps r)) H')
inductive Ig(K:Z6)(vs:List V)(H:Hp)(Q:VK)(eK:XK):Prop
 |mk (a b es ls) (_:vs=[.ref a,.ref b]) (_:aM K H a es) (_:aM K H b ls) (_:es.all d7=true) (_:ls.all d7=true) (_:es.9<=1000) (_:∀H',a8 H H'->Q (.bl (es.any λe=>jY e ls)) H')
inductive KN(K:Z6)(vs:List V)(H:Hp)(Q:VK)(eK:XK):Prop
 |mk (d mv es) (_:vs=[.ref d]) (_:H d=ρ (.dK (bM mv))) (_:mv.9<=1000) (_:(∀m∈mv,H m.2=ρ (.dK (es m.1)))) (_:(∀k,((es k).map (·.2)).all d7=true)) (_:(∀k,(es k).9<=1000)) (_:∀(l:Addr) (ls:List Str) (H':Hp),a8 H H'->H l=τ->H' l=ρ (.lst (ls.map V.str))->MO (mv.map (·.1)) es ls->Q (.ref l) H')
end
end _S
open _S
namespace _B
open PySem.Spec PyProof.Rows
noncomputable abbrev ch(x:Str):List Nat:=x.cps.toList
theorem b7(x:Str):(ch x).9=x.9:=by simp[ch,Ĥ]
theorem fB(h:ch x=ch y):x=y:=by
 obtain⟨a⟩:=x;obtain⟨b⟩:=y;have:a=b:=weV.mp h;rw[this]
theorem bD(a b:Str):ch (a++b)=ch a++ch b:=by
 show (a++b).cps.toList=_;rw[Str.cps_append,Array.toList_append]
theorem Fl(c:Nat):ch {#[c]}=[c]:=rfl
theorem pH(h:z.9=0):ch z=[]:=by
 have:=b7 z;rw[h]at this;exact ĵ.mp this
theorem nF(x:Str)(l u:Option Int):ZZ x l u=StrLaws.sliceText x l u:=rfl
theorem nG(x:Str)(j:Nat):ch (ZZ x τ (ρ (j:Int)))=(ch x).take j:=by
 by_cases h:j<=x.9
 .grind [nF,wfX,Ĥ]
 .have hn:ũ τ (ρ (j:Int)) 1 x.9=ũ τ (ρ ((x.9:Nat):Int)) 1 x.9:=by
   grind [ũ]
  have e:ZZ x τ (ρ (j:Int))=ZZ x τ (ρ ((x.9:Nat):Int)):=by
   grind [ZZ]
  rw[e,nF,wfX {(),by simp[Ĥ]}];have a:(ch x).9<=j:=by rw[b7];lia
  rw[Š a];have b:x.cps.toList.take x.cps.size=x.cps.toList:=Š (by simp);simp[Ĥ,b]
theorem sX(x:Str)(i:Nat):ch (ZZ x (ρ (i:Int)) τ)=(ch x).drop i:=by
 by_cases h:i<=x.9
 .rw[nF,wfx {(),by simp[Ĥ]at h ⊢;lia}];show ((x.cps.toList.drop (i:Int).toNat).take ((x.cps.toList.9:Int)-(i:Int)).toNat).toArray.toList=(ch x).drop i;rw[List.toList_toArray,Zy,Š];rw[Ğ]
  lia
 .have hn:ũ (ρ (i:Int)) τ 1 x.9=ũ (ρ ((x.9:Nat):Int)) τ 1 x.9:=by
   have a:¬((i:Int)<0):=();have b:¬(((x.9:Nat):Int)<0):=();have c:max (0:Int) (min (i:Int) (x.9:Int))=max 0 (min ((x.9:Nat):Int) (x.9:Int)):=();simp[ũ,a,b,c]
  have e:ZZ x (ρ (i:Int)) τ=ZZ x (ρ ((x.9:Nat):Int)) τ:=by
   unfold ZZ;rw[hn]
  rw[e,nF,wfx {(),by simp[Ĥ]}];have d:(ch x).9<=i:=by rw[b7];lia
  rw[wfy d];simp[Ĥ]
theorem pI(hz:z.9=0):∀g:List Str,ch (û z g)=(g.map ch).flatten:=by
 intro g;unfold û Builtin.Str.glued
 have b:z.cps=#[]:=by
  have:=pH hz;exact weV.mp this
 have key:∀(l:List Str) (a:Array Nat),(l.foldl (λa p=>a++z.cps++p.cps) a).toList=a.toList++(l.map ch).flatten:=by
  intro l
  induction l with
  |nil=>intro a;simp
  |cons p l c=>
   intro a;rw[wdP,c,b];simp
 cases g with
 |nil=>rfl
 |cons p l=>
  show ((List.drop 1 (p::l)).foldl (λa q=>a++z.cps++q.cps) p.cps).toList=_;rw[List.drop_one,List.tail_cons,key];rfl
noncomputable def fK:Str:="abcdefghijklmnopqrstuvwxyz0123456789"
structure vM(x:Str):Prop where
 lo:2<=x.9
 hi:x.9<=4
 nd:(ch x).Nodup
 sub:∀c∈ch x,c∈ch fK
structure Qq(i:Nat)(Ih found:Str):Prop where
 pl:Ih.length+i=36
 fl:found.9=i
 pn:(ch Ih).Nodup
 fn:(ch found).Nodup
 ps:∀c∈ch Ih,c∈ch fK
 fs:∀c∈ch found,c∈ch fK
 ap:∀c∈ch found,c∉ch Ih
theorem yi:fK.9=36:=∅
structure jV(sg w:Str):Prop where
 lo:1<=w.9
 hi:w.9<=5
 sub:∀c∈ch w,c∈ch sg
theorem vN(hz:z.9=0)(o:1<=g.9)(p:g.9<=5)(h:∀t∈g,∃c,t={#[c]}/\c∈ch j):jV j (û z g):=by
 have e:=pI hz g
 have hl:∀(l:List Str),(∀t∈l,∃c,t={#[c]}/\c∈ch j)->((l.map ch).flatten).9=l.9/\∀c∈(l.map ch).flatten,c∈ch j:=by
  intro l
  induction l with
  |nil=>intro _;exact{rfl,λc h=>by cases h}
  |cons t l b=>
   intro a
   let{c,rfl,hc}:=a t (Zm ..)
   let{d,f}:=b λt h=>a t (Zh _ h)
   refine{by rw[Zw,wdh,Zd,d,ZP];exact Nat.add_comm 1 _,λk hk=>?_};rw[Zw,wdh]at hk;rcases ZH.mp hk with h |h
   .have:k=c:=by simpa [ch] using h
    subst this;exact hc
   .exact f k h
 let{i,m}:=hl g h
 have n:(û z g).9=g.9:=by rw[<-b7,e,i]
 exact{(),(),λc hc=>m c (e ▸ hc)}
noncomputable def KO(y x:Str):Bool:=!(wf2 x y 0 x.length 1).isEmpty
theorem Ii(x:Str)(c:Nat):KO {#[c]} x=decide (c∈ch x):=StrLaws.found_one x c
noncomputable def bears(ws:List Str)(r:Str):Bool:=ws.any λw=>KO w r
noncomputable def iN(w:Str)(n:Nat):Str:=ZZ w τ (ρ (n:Int))
theorem CI(w:Str)(n:Nat):(iN w n).9<=w.9:=Ĺ _ _ _
noncomputable def x8(ks:List Str)(b:Str):List Str:=if b∈ks then ks else ks++[b]
noncomputable def pJ(ws:List Str)(ks:List Str)(b:Str):List Str:=if bears ws b=true then ks else x8 ks b
theorem Fm(ws g:List Str)(b:Str):(pJ ws g b).9<=g.9+1:=by
 unfold pJ x8;split
 .lia
 .split
  .lia
  .simp
noncomputable def upTo(ws:List Str)(w:Str)(ks:List Str)(n:Nat):List Str:=((ZF n).map λi=>iN w (1+i)).foldl (pJ ws) ks
theorem fP(ws:List Str)(w:Str)(g:List Str)(n:Nat):upTo ws w g (n+1)=pJ ws (upTo ws w g n) (iN w (1+n)):=by
 delta upTo;rw[Œ,Zk,weu];rfl
theorem sY(ws:List Str)(w:Str)(g:List Str):∀n,(upTo ws w g n).9<=g.9+n
 |0=>Zf _
 |n+1=>by
  rw[fP];have:=sY ws w g n;have:=Fm ws (upTo ws w g n) (iN w (1+n))
  lia
noncomputable def addW(ws:List Str)(ks:List Str)(w:Str):List Str:=upTo ws w ks (w.9-1)
noncomputable def cQ(ws:List Str)(e:Str)(us:List Str):List Str:=us.foldl (addW ws) [e]
theorem A2(ws:List Str)(e:Str)(us:List Str)(w:Str):cQ ws e (us++[w])=addW ws (cQ ws e us) w:=by
 delta cQ;rw[weu];rfl
theorem lI(h:∀w∈us,w.9<=5):(cQ ws e us).9<=1+4*us.9:=by
 have key:∀(us a:List Str),(∀w∈us,w.9<=5)->(us.foldl (addW ws) a).9<=a.9+4*us.9:=by
  intro us
  induction us with
  |nil=>intro a _;exact Zf _
  |cons w us b=>
   intro a h;have c:=b (addW ws a w) λv d=>h v (Zh _ d);have f:=h w (Zm ..);have g:=sY ws w a (w.9-1);rw[wdP,ZP];unfold addW at c;unfold addW;omega
 exact key us [e] h
theorem A3(h:g.Nodup):(x8 g b).Nodup:=by
 unfold x8;split
 .exact h
 .rename_i d;refine wez.mpr {h,by simp,λa ha c hc=>?_};have:c=b:=by simpa using hc
  subst this;rintro rfl;exact d ha
theorem A4(h:g.Nodup):(pJ ws g b).Nodup:=by
 unfold pJ;split
 .exact h
 .exact A3 h
theorem sZ(h:g.Nodup):∀n,(upTo ws w g n).Nodup
 |0=>h
 |n+1=>by rw[fP];exact A4 (sZ h n)
theorem qh(us:List Str):(cQ ws e us).Nodup:=by
 have key:∀(us a:List Str),a.Nodup->(us.foldl (addW ws) a).Nodup:=by
  intro us
  induction us with
  |nil=>intro a h;exact h
  |cons w us b=>intro a h;exact b _ (sZ h _)
 exact key us [e] (by simp)
theorem Fn(h:k∈g):k∈pJ ws g b:=by
 unfold pJ x8;split
 .exact h
 .split
  .exact h
  .exact ĝ _ h
theorem mem_upTo(h:k∈g):∀n,k∈upTo ws w g n
 |0=>h
 |n+1=>by rw[fP];exact Fn (mem_upTo h n)
theorem d8(us:List Str):e∈cQ ws e us:=by
 have key:∀(us a:List Str),e∈a->e∈us.foldl (addW ws) a:=by
  intro us
  induction us with
  |nil=>intro a h;exact h
  |cons w us b=>intro a h;exact b _ (mem_upTo h _)
 exact key us [e] (by simp)
def He(a b:Str):Prop:=¬(b.cps.toList<a.cps.toList)
theorem CJ(g:He a b)(j:He b c):He a c:=by
 unfold He at *;rw[List.not_lt]at *;exact List.le_trans g j
theorem jy:∀{l:List Str} {p:Str},risingS p l=true->(p::l).Pairwise He
 |[],p,_=>List.pairwise_singleton _ _
 |x::r,p,h=>by
  have h:(!ltCps x.cps.toList p.cps.toList&&risingS x r)=true:=h;rw[è]at h
  have b:He p x:=by
   have:=h.1;rw[ltCps_eq]at this;simpa [He] using this
  have c:=jy h.2;refine wgE.mpr {λa ha=>?_,c};rcases ZD.mp ha with rfl |ha
  .exact b
  .exact CJ b ((wgE.mp c).1 a ha)
theorem jz(h:sortedS l=true):l.Pairwise He:=by
 cases l with
 |nil=>exact .nil
 |cons x r=>exact jy h
end _B
namespace _B
theorem pK(r:Str):gA r r.9="":=by
 refine fB ?_;show ch (ZZ r (ρ (r.9:Int)) τ)=[];rw[sX];exact wfy (Ŷ (b7 r))
theorem vO(x y:Str)(i:Nat):wgT x y i=true↔((ch x).drop i).take y.9=ch y:=by
 unfold wgT;rw[beq_iff_eq];constructor
 .intro h;have:=congrArg Array.toList h;rw[wfY,weH,Ρ]at this;exact this
 .intro h;refine weV.mp ?_;rw[wfY,weH,Ρ];exact h
theorem Ij(y x:Str):KO y x=true↔ch y <:+: ch x:=by
 delta KO;rw[StrLaws.found_iff];constructor
 .grind [vO,whd,List.drop_suffix]
 .rintro⟨a,b,e⟩;refine{a.9,?_,(vO x y _).mpr ?_}
  .rw[<-b7 x,<-e,Zd,Zd,b7];lia
  .rw[<-e,ZU,List.drop_left,<-b7 y,List.take_left]
noncomputable def wl(ws:List Str):List (List Nat):=ws.map ch
theorem rH(w:Str)(n:Nat):ch (iN w n)=(ch w).take n:=nG w n
theorem x9(w:Str)(n:Nat):ch (gA w n)=(ch w).drop n:=sX w n
theorem xc:k∈pJ ws g b↔k∈g\/(k=b/\bears ws b=false):=by
 unfold pJ x8
 by_cases a:bears ws b=true
 .rw[if_pos a];simp[a]
 .rw[if_neg a];have c:bears ws b=false:=by simpa using a
  by_cases d:b∈g
  .rw[if_pos d];constructor
   .exact .inl
   .rintro(h |⟨rfl,_⟩)
    .exact h
    .exact d
  .rw[if_neg d];simp[c]
theorem nH:∀n,k∈upTo ws w g n↔k∈g\/∃i,i<n/\k=iN w (1+i)/\bears ws k=false
 |0=>by
  show k∈g↔_;simp
 |n+1=>by
  rw[fP,xc,nH n];constructor
  .grind
  .grind
theorem uD(us:List Str):k∈cQ ws e us↔k=e\/∃w∈us,∃i,i<w.9-1/\k=iN w (1+i)/\bears ws k=false:=by
 have key:∀(us b:List Str),k∈us.foldl (addW ws) b↔k∈b\/∃w∈us,∃i,i<w.9-1/\k=iN w (1+i)/\bears ws k=false:=by
  intro us
  induction us with
  |nil=>intro b;simp
  |cons w us d=>
   intro b;rw[wdP,d];unfold addW;rw[nH];constructor
   .rintro((h |⟨i,h⟩) |⟨c,a,h⟩)
    .exact .inl h
    .exact .inr {w,Zm ..,i,h}
    .exact .inr {c,Zh _ a,h}
   .rintro(h |⟨c,a,h⟩)
    .exact .inl (.inl h)
    .rcases ZD.mp a with rfl |a
     .exact .inl (.inr h)
     .exact .inr ⟨c,a,h⟩
 delta cQ;rw[key];simp
noncomputable def Nn(ss:List Str)(l:List Nat):Bool:=decide (l∈ss.map ch)
theorem je:Nn ss (ch k)=true↔k∈ss:=by
 delta Nn;rw[decide_eq_true_iff];constructor
 .intro h
  let{c,a,b}:=Ze.mp h
  rw[<-fB b];exact a
 .intro h;exact Ze.mpr ⟨k,h,rfl⟩
theorem take_zero(r:Str):iN r 0="":=fB (by rw[rH];rfl)
theorem len_app(a b:Str):(a++b).9=a.9+b.9:=by rw[<-b7,bD,Zd,b7,b7]
noncomputable def qi(st sp n:Nat):List Nat:=(ZF n).map λk=>(ch fK).getD ((st+k*sp)%36) 0
theorem KP:∀st:Fin 36,∀sp∈[1,5,7,11,13,17],∀n∈[2,3,4],((qi st sp n).Nodup/\∀c∈qi st sp n,c∈ch fK):=∅
theorem yj(j:st<36)(hs:sp∈[1,5,7,11,13,17])(hn:n∈[2,3,4])(g:ch x=qi st sp n):vM x:=by
 let{a,b}:=KP ⟨st,j⟩ sp hs n hn
 have hl:x.9=n:=by rw[<-b7,g];delta qi;rw[Z4,ZJ]
 have c:n=2\/n=3\/n=4:=by simpa using hn
 exact{(),(),by rw[g];exact a,by rw[g];exact b}
theorem Fo{P:Nat->Prop}(hz:z.9=0)(h:∀t∈g,∃c,t={#[c]}/\P c):(û z g).9=g.9:=by
 rw[<-b7,pI hz,wgk,Zj];have e:=nB h;rw[<-e];congr 1
noncomputable def Ik(st sp:Nat):V->V:=λv=>match v with
 |.int k=>.str {#[(ch fK).getD ((st+k.toNat*sp)%36) 0]}
 |_=>.non
noncomputable def pL(g:Str)(ws ss:List Str)(q:Str×Str):List (Str×Str):=(ch g).filterMap λc=>if bears ws (q.2++{#[c]})=true then τ else ρ (q.1++{#[c]},lend ss (q.2++{#[c]}))
noncomputable def fC(g:Str)(ws ss:List Str)(qs:List (Str×Str)):List (Str×Str):=qs.flatMap (pL g ws ss)
noncomputable def t6(g:Str)(ws ss:List Str)(p:Str):Nat->List (Str×Str)
 |0=>[("",p)]
 |n+1=>fC g ws ss (t6 g ws ss p n)
noncomputable def aS(g:Str)(ws ss ls:List Str)(n:Nat)(p:Str):List (Str×Str):=(t6 g ws ss p n).filter λq=>decide (q.2∈ls)
theorem A5(g:Str)(ws ss:List Str)(q:Str×Str):(pL g ws ss q).9<=g.9:=by
 unfold pL;have:=wd6 (λc=>if bears ws (q.2++{#[c]})=true then τ else ρ (q.1++({#[c]}:Str),lend ss (q.2++({#[c]}:Str)))) (ch g);rw[b7]at this;exact this
theorem qj(g:Str)(ws ss:List Str)(j:List (Str×Str)):(fC g ws ss j).9<=j.9*g.9:=sH _ _ _ λq _=>A5 g ws ss q
theorem nJ(g:Str)(ws ss:List Str)(p:Str):∀n,(t6 g ws ss p n).9<=g.length^n
 |0=>Zf 1
 |n+1=>Zn (qj g ws ss _) (by rw[Nat.pow_succ];exact wdQ _ (nJ g ws ss p n))
theorem cf(h:r∈aS g ws ss ls n p):r.2∈ls:=of_decide_eq_true (ZG.mp h).2
theorem fQ(g:Str)(ws ss ls:List Str)(n:Nat)(p:Str):(aS g ws ss ls n p).9<=g.length^n:=Zn (ă _ _) (nJ g ws ss p n)
noncomputable def gB(g:Str)(ws ss ls:List Str)(n:Nat)(f:Str->Int)(p:Str):Int:=((aS g ws ss ls n p).map λq=>f q.2).sum
theorem BO(r:Str):r++("":Str)=r:=fB (by rw[bD,pH (z:="") rfl,Ó])
theorem Il(r:Str):("":Str)++r=r:=fB (by rw[bD,pH (z:="") rfl,whj])
theorem pM(a b c:Str):a++b++c=a++(b++c):=fB (by rw[bD,bD,bD,bD,ZU])
noncomputable def eE(g:Str)(ws ss ls:List Str)(n:Nat)(hs:List Str)(p:Str):List (Str×Nat):=((aS g ws ss ls n p).filter λq=>decide (q.2∈hs)).map λq=>(q.1,hs.idxOf q.2)
noncomputable def bt(g:Str)(ws ss ls:List Str)(n:Nat)(hs:List Str):List (List (Str×Nat)):=hs.map (eE g ws ss ls n hs)
theorem A6(g:Str)(ws ss ls:List Str)(n:Nat)(hs:List Str)(p:Str):(eE g ws ss ls n hs p).9<=g.length^n:=by
 delta eE;rw[Z4];exact Zn (ă _ _) (fQ g ws ss ls n p)
noncomputable def jf(wl:List Int)(nums:List Nat)(j:Nat):Int:=((nums.take j).map λn=>wl.getD n 0).sum
theorem CK{wl:List Int}{g:List Nat}{j n:Nat}(h:g[j]?=ρ n):jf wl g (j+1)=jf wl g j+wl.getD n 0:=by
 delta jf;rw[Ô,h,Zk,whp];show _+(wl.getD n 0+0)=_
 lia
theorem Fp(wl:List Int)(g:List Nat)(h:i<=j):(((g.take j).drop i).map λn=>wl.getD n 0).sum=jf wl g j-jf wl g i:=by grind [jf,wcA,wfj]
theorem Fq{wl:List Int}{g:List Nat}{i j:Nat}{many:Int}(h:i<=j)(e:jf wl g i%many=jf wl g j%many):(((g.take j).drop i).map λn=>wl.getD n 0).sum%many=0:=by
 rw[Fp wl g h];exact Int.emod_eq_emod_iff_emod_sub_eq_zero.mp e.symm
structure fi(g:Str)(bw ss ls:List Str)(many:Int)(n:Nat)(f:Str->Int)(rJ:List zV)(hs:List Str)(ws:List Int)(lns:List (List (Str×Nat))):Prop where
 rn:Runs many (aj ls f) ((aj ls f).map f) (bt g bw ss ls n (aj ls f)) rJ hs ws lns
 b:ia many hs ws lns
 cv:Hc (aS g bw ss ls n) hs lns
 sm:ws.sum=(ls.map f).sum
 sl:rJ.9+(aj ls f).9=hs.9
 sb:∀p∈hs,p∈ls
theorem fD{a b:Str}{m n:Nat}(g:a.9<=m)(j:b.9<=n):(a++b).9<=m+n:=by
 rw[len_app];exact Nat.add_le_add g j
def Np(ss hk:List Str)(wl:List (List (Str×Nat)))(p w:Str)(as:List Str)(i:Nat):Prop:=∃d e,d<wl.9/\hk.getD d ""=lend ss p/\(wl.getD d [])[i]?=ρ (w,e)/\Nh wl e as
structure Wr where
 g:Str
 bw:List Str
 ss:List Str
 ls:List Str
 hk:List Str
 many:Int
 n:Nat
 b:Nat
 c:Nat
 wl:List (List (Str×Nat))
open Classical in
noncomputable def Qr(R:Wr)(bs:List Str)(w:Str)(us:List Str):V:=if bears R.bw (cat bs)=true then .non else if h:∃i,Np R.ss R.hk R.wl (cat bs) w us i then .int ((whe h:Nat):Int) else .non
noncomputable def KQ(R:Wr)(all:List Str)(k:Nat):List Str:=(all.take (k+(R.b+1+R.c))).drop k
noncomputable def Vt(R:Wr)(all:List Str)(k:Nat):V:=Qr R ((KQ R all k).take R.b) ((KQ R all k).getD R.b "") ((KQ R all k).drop (R.b+1))
theorem Fs(z:Str):∀(n:Nat) (a:Array Nat),((Ġ n z.cps).foldl (·++·) a).toList=a.toList++(Ġ n (ch z)).flatten
 |0,a=>by simp
 |n+1,a=>by
  rw[wgl,wdP,Fs z n,wgl,wdh];simp[ch]
section
variable{g:Str}{ws ss ls:List Str}
def DX(g:Str)(ws ss ls:List Str)(many:Int)(n:Nat)(f:Str->Int):Prop:=∀p∈ls,many*f p<=gB g ws ss ls n f p
noncomputable def kl(g:Str)(ws ss ls:List Str)(many:Int)(n:Nat)(f:Str->Int)(p:Str):Int:=if gB g ws ss ls n f p/many<f p then gB g ws ss ls n f p/many else f p
theorem Ft{n:Nat}{f:Str->Int}(h:∀p∈ls,0<=f p)(p:Str):0<=gB g ws ss ls n f p:=sL λq a=>h _ (cf a)
theorem A7{f h:Str->Int}(e:∀p∈ls,f p<=h p)(p:Str):gB g ws ss ls n f p<=gB g ws ss ls n h p:=zP λq a=>e _ (cf a)
theorem Fu(many:Int)(n:Nat)(f:Str->Int)(p:Str):kl g ws ss ls many n f p<=f p:=by
 unfold kl;split<;>lia
theorem Fv{f:Str->Int}(j:2<=many)(h:∀p∈ls,0<=f p):∀p∈ls,0<=kl g ws ss ls many n f p:=λp a=>by
 have b:=Int.ediv_nonneg (Ft (g:=g) (ws:=ws) (ss:=ss) (n:=n) h p) (show 0<=many by lia);have c:=h p a;unfold kl;split<;>lia
theorem CL{f h:Str->Int}(l:2<=many)(j:DX g ws ss ls many n f)(e:∀p∈ls,f p<=h p):∀p∈ls,f p<=kl g ws ss ls many n h p:=λp a=>by
 have b:=j p a;have c:=A7 (g:=g) (ws:=ws) (ss:=ss) (n:=n) e p;have d:f p<=gB g ws ss ls n h p/many:=(wdn 1.0).mpr (by rw[Int.mul_comm];omega);have i:=e p a;unfold kl;split<;>omega
theorem Im{f:Str->Int}(j:2<=many)(e:∀p∈ls,kl g ws ss ls many n f p=f p):DX g ws ss ls many n f:=λp a=>by
 have h:=e p a;unfold kl at h
 have b:f p<=gB g ws ss ls n f p/many:=by
  grind
 have:=(wdn (show 0<many by lia)).mp b;rw[Int.mul_comm]at this;exact this
theorem KR{f:Str->Int}(j:2<=many)(o:∀p∈ls,0<=f p)(e:¬∀p∈ls,kl g ws ss ls many n f p=f p):(ls.map λp=>(kl g ws ss ls many n f p).toNat).sum<(ls.map λp=>(f p).toNat).sum:=by
 have b:∀p∈ls,kl g ws ss ls many n f p<=f p:=λp _=>Fu many n f p;have c:=Fv (g:=g) (ws:=ws) (ss:=ss) (n:=n) j o;generalize kl g ws ss ls many n f=h at e b c
 have key:∀l:List Str,(∀p∈l,h p<=f p/\0<=h p)->(l.map λp=>(h p).toNat).sum<=(l.map λp=>(f p).toNat).sum/\((∃p∈l,h p≠f p)->(l.map λp=>(h p).toNat).sum<(l.map λp=>(f p).toNat).sum):=by
  intro l
  induction l with
  |nil=>intro _;exact{Zf _,λ⟨p,a,_⟩=>nomatch a}
  |cons x l i=>
   intro hl
   let{m,k}:=i λp a=>hl p (Zh _ a)
   let{r,s}:=hl x (Zm ..)
   rw[Zw,Zw,Î,Î];refine{(),λ⟨p,a,d⟩=>?_};rcases ZD.mp a with z |z
   .rw[z]at d
    lia
   .have:=k ⟨p,z,d⟩
    lia
 refine(key ls λp a=>{b p a,c p a}).2 ?_;apply weI;intro q;exact e λp a=>weI λz=>q ⟨p,a,z⟩
noncomputable def KS(g:Str):Nat->List Str
 |0=>[""]
 |n+1=>(ch g).flatMap λc=>(KS g n).map λr=>({#[c]}:Str)++r
noncomputable def KU(g:Str):Nat->List Str
 |0=>[""]
 |n+1=>(KU g n).flatMap λr=>(ch g).map λc=>r++({#[c]}:Str)
theorem rK:∀n,KU g n=KS g n
 |0=>rfl
 |1=>by
  show ([""]:List Str).flatMap (λr=>(ch g).map λc=>r++({#[c]}:Str))=(ch g).flatMap λc=>([""]:List Str).map λr=>({#[c]}:Str)++r;rw[List.flatMap_singleton]
  have:∀a:List Nat,(a.map λc=>("":Str)++({#[c]}:Str))=a.flatMap λc=>([""]:List Str).map λr=>({#[c]}:Str)++r:=by
   intro a
   induction a with
   |nil=>rfl
   |cons c a b=>
    rw[Zw,Δ,b];show (("":Str)++({#[c]}:Str))::_=[({#[c]}:Str)++("":Str)]++_;rw[Il,BO];rfl
  exact this _
 |n+2=>by
  show (KU g (n+1)).flatMap (λr=>(ch g).map λc=>r++({#[c]}:Str))=(ch g).flatMap λc=>(KS g (n+1)).map λr=>({#[c]}:Str)++r;rw[rK (n+1)];show ((ch g).flatMap λc=>(KS g n).map λr=>({#[c]}:Str)++r).flatMap (λr=>(ch g).map λc=>r++({#[c]}:Str))=_;rw[List.flatMap_assoc];congr 1;funext c;rw[<-rK (n+1)];show _=((KU g n).flatMap λr=>(ch g).map λc=>r++({#[c]}:Str)).map λr=>({#[c]}:Str)++r;rw[rK n,List.map_flatMap,List.flatMap_map];congr 1;funext r;rw[Zj];refine ú λd _=>?_;exact pM _ _ _
end
section
variable{ws ss ls:List Str}{p:Str}
noncomputable def jW(ws ss:List Str)(p:Str)(r:Str):Option (Str×Str):=if bears ws (p++r)=true then τ else ρ (r,lend ss (p++r))
noncomputable def Io(ws ss ls:List Str)(p:Str)(r:Str):Option (Str×Str):=if bears ws (p++r)=true then τ else if lend ss (p++r)∈ls then ρ (r,lend ss (p++r)) else τ
end
end _B
namespace K34
section
variable{w:World}
noncomputable def top(i:Nat):Stmt:=Ê.main.body.getD i (.Pass ⟨0,0,0,0⟩)
theorem dM{X:Cx}{f}:(X.nh f).K=X.K:=rfl
theorem Fw{t u:TS}{D:Ends}{σ:St}{H:Hp}(h:∀R:St->Hp->Prop,(∀σ H,u D σ H->R σ H)->t (D.Em R) σ H):N4 t u D σ H:=h _ λ_ _ x=>x
theorem bo{x p y q e}:(Į [.Name x p,.Name y q] e).9=2:=rfl
theorem bp{x p y q z r e}:(Į [.Name x p,.Name y q,.Name z r] e).9=3:=rfl
structure Fx(K:Z6)(C:Addr):Prop where
 cl:z8 K C
 ib:dH K C "homes"
 bY:dH K C "weights"
 dj:dH K C "lines"
structure Ip(K:Z6)(C:Addr):Prop where
 cl:z8 K C
 bY:dH K C "weights"
 t7:dH K C "splits"
 Fy:dH K C "kept"
 Fz:dH K C "last"
structure Iq(K:Z6)(C:Addr):Prop where
 cl:z8 K C
 rL:dH K C "signs"
 FA:dH K C "barred"
 lJ:dH K C "moves"
 pN:dH K C "lasting"
theorem SV{X:Cx}:X.Hs.prog=X.prog/\X.Hs.w=X.w:=⟨rfl,rfl⟩
theorem vP{f:Str->Int}(h:e∈ls):decide (e∈aj ls f)=decide (0<f e):=by
 delta aj;exact decide_eq_decide.mpr (by rw[ZG];exact{λq=>of_decide_eq_true q.2,λq=>{h,decide_eq_true q}})
theorem A8(l:List V):l.map (λ_=>V.bl true)=(l.map λ_=>true).map V.bl:=by
 rw[Zj];rfl
theorem A9(l:List V):((l.map λ_=>true).all id)=true:=by
 rw[œ];exact ZM.mpr λ_ _=>rfl
theorem SW:∀ws:List Int,nj (ws.map V.int) (ws.map V.int)=true
 |[]=>rfl
 |w::ws=>by
  show ((w==w)&&nj (ws.map V.int) (ws.map V.int))=true;rw[SW ws];simp
theorem KW(f:Str->Int)(ls:List Str):(b9 (bZ f ls)).map (·.1)=Ú (ZA:Str->Key) ls:=by
 delta b9 bZ;rw[Zj,Zj];rfl
theorem FC{g:List (Str×Addr)}(h:g.map (·.1)=ls):(bM g).map (·.1)=Ú (ZA:Str->Key) ls:=by
 unfold bM;rw[Zj,<-h,Zj];rfl
inductive Qs(vs:List V)(H:Hp)(Q:VK)(eK:XK):Prop
 |mk (i lo hi) (_:vs=[.int i,.int lo,.int hi]) (_:lo<=i) (_:i<=hi) (_:Q (.bl true) H)
theorem CM{ws:List Int}{d:Nat}(hd:d<ws.9)(w:Int):bF ws d w=(ws.take d++[w]++ws.drop (d+1))++[ws.getD d 0-w]:=by
 unfold bF;rw[wfZ _ _ hd,List.set_eq_take_append_cons_drop,if_pos hd,ZU,ZU];simp
theorem CQ{lns:List (List (Str×Nat))}{d:Nat}(hd:d<lns.9)(ns:List Int):eR lns d ns=(lns.set d (aI ns (lns.getD d []))++[aH ns (lns.getD d [])]).map (eB d lns.9):=by
 unfold eR;rw[wfZ _ _ hd]
theorem FD{ns:List Nat}(h:ns.Nodup):(nI ns).Nodup:=by
 unfold nI;rw[List.Nodup,wev];exact h.imp λh e=>h 1.0
theorem BP{ns:List Nat}(h:ns.Pairwise (· < ·)):(nI ns).Pairwise (· < ·):=by
 unfold nI;rw[wev];exact h.imp λh=>1.0
def yk(many:Int)(H:List Str)(W:List Int)(L:List (List (Str×Nat))):List Str->List Int->List (List (Str×Nat))->List zV->Prop
 |hs,ws,lns,[]=>hs=H/\ws=W/\lns=L
 |hs,ws,lns,(d,ns,w)::r=>cE ws lns many (d:Int) (nI ns) w=true/\(ns.9<=1000/\ns.Nodup)/\yk many H W L (cq hs d) (bF ws d w) (eR lns d (nI ns)) r
theorem yk.snoc{many:Int}{H:List Str}{W:List Int}{L:List (List (Str×Nat))}{d:Nat}{ns:List Nat}{w:Int}(ok:cE W L many (d:Int) (nI ns) w=true)(hn:ns.9<=1000/\ns.Nodup):∀{l:List zV} {hs:List Str} {ws:List Int} {lns:List (List (Str×Nat))},yk many H W L hs ws lns l->yk many (cq H d) (bF W d w) (eR L d (nI ns)) hs ws lns (l++[(d,ns,w)])
 |[],_,_,_,⟨rfl,rfl,rfl⟩=>⟨ok,hn,rfl,rfl,rfl⟩
 |(_,_,_)::l,_,_,_,⟨a,b,c⟩=>{a,b,yk.snoc ok hn c}
theorem CT{many:Int}{g:List Str}{j:List Int}{o:List (List (Str×Nat))}{l:List zV}{hs:List Str}{ws:List Int}{lns:List (List (Str×Nat))}(h:Runs many g j o l hs ws lns):yk many hs ws lns g j o l:=by
 induction h with
 |nil=>exact⟨rfl,rfl,rfl⟩
 |snoc _ ok nl a=>exact yk.snoc ok nl a
inductive Qt(x:Addr)(many:Int)(n:Nat)(most:Int)(H:Hp)(i:Nat)(σ:St)(H2:Hp):Prop
 |mk (v3 v4 v5) (_:σ=[ρ (.ref x),ρ (.int many),ρ (.int (n:Int)),v3,v4,v5]) (_:a8 H H2) (_:(i:Int)<most)
inductive Qu(x y db:Addr)(many:Int)(n:Nat)(g:Str)(bw ss ls:List Str)(H1:Hp)(j:Nat)(σ:St)(H3:Hp):Prop
 |mk (v7 ev) (_:σ=[ρ (.ref x),ρ (.int many),ρ (.int (n:Int)),ρ .non,ρ (.ref y),τ,ρ (.ref db),v7]) (_:H3 db=ρ (.dK (bM ev))) (_:ev.map (·.1)=ls.take j) (_:∀q∈ev,∃rs,cD H3 q.2 rs (aS g bw ss ls n q.1)) (_:∀c o,H1 c=ρ o->c≠db->H3 c=ρ o)
theorem Nq:∀d:Int,0<=d->d<4->∃n:Nat,lQ ([.int 2,.int 3,.int 2,.int 4]:List V) d=ρ (.int (n:Int))/\n∈[2,3,4]:=under 4 λk=>{[2,3,2,4].getD k.val 0,by revert k;decide,by revert k;decide}
theorem Nr:∀d:Int,0<=d->d<6->∃n:Nat,lQ ([.int 1,.int 5,.int 7,.int 11,.int 13,.int 17]:List V) d=ρ (.int (n:Int))/\n∈[1,5,7,11,13,17]:=under 6 λk=>{[1,5,7,11,13,17].getD k.val 0,by revert k;decide,by revert k;decide}
theorem Nt:∀d:Int,0<=d->d<8->∃n:Int,lQ ([.int 1,.int 2,.int 1,.int 3,.int 0,.int 2,.int 4,.int 3]:List V) d=ρ (.int n)/\0<=n/\n<=4:=by
 intro d a b;have:d=0\/d=1\/d=2\/d=3\/d=4\/d=5\/d=6\/d=7:=1.0;rcases this with rfl |rfl |rfl |rfl |rfl |rfl |rfl |rfl<;>exact{1,⋯,⋯}
theorem Nu:∀d:Int,0<=d->d<8->∃n:Int,lQ ([.int 3,.int 2,.int 4,.int 3,.int 2,.int 5,.int 3,.int 1]:List V) d=ρ (.int n)/\1<=n/\n<=5:=by
 intro d a b;have:d=0\/d=1\/d=2\/d=3\/d=4\/d=5\/d=6\/d=7:=1.0;rcases this with rfl |rfl |rfl |rfl |rfl |rfl |rfl |rfl<;>exact{1,⋯,⋯}
theorem Nv{n:Nat}(g:2<=n)(j:n<=4):∃b:Int,lQ ([.int 6,.int 3,.int 3]:List V) ((n:Int)-2)=ρ (.int b)/\1<=b/\b<=6/\∀w:Nat,1<=w->(w:Int)<=b->(n:Int)^w<=64:=by
 have:n=2\/n=3\/n=4:=1.0;rcases this with rfl |rfl |rfl
 .refine⟨6,rfl,⋯,⋯,λw _ hw=>?_⟩;have:w=1\/w=2\/w=3\/w=4\/w=5\/w=6:=1.0;rcases this with rfl |rfl |rfl |rfl |rfl |rfl<;>decide
 .refine⟨3,rfl,⋯,⋯,λw _ hw=>?_⟩;have:w=1\/w=2\/w=3:=1.0;rcases this with rfl |rfl |rfl<;>decide
 .refine⟨3,rfl,⋯,⋯,λw _ hw=>?_⟩;have:w=1\/w=2\/w=3:=1.0;rcases this with rfl |rfl |rfl<;>decide
inductive Qv(a l:Addr)(g:Str)(H:Hp)(i:Nat)(σ:St)(H3:Hp):Prop
 |mk (ws:List Str) (v3 v4:Option V) (_:σ=[ρ (.ref a),ρ (.str g),ρ (.ref l),v3,v4]) (_:a8 H H3) (_:H3 l=ρ (.lst (ws.map V.str))) (_:ws.9=i) (_:∀w∈ws,jV g w)
theorem Ir:∀d:Int,0<=d->d<3->∃n:Nat,lQ ([.int 1,.int 4,.int 3]:List V) d=ρ (.int (n:Int))/\n<=4:=by
 intro d a b;have:d=0\/d=1\/d=2:=1.0;rcases this with rfl |rfl |rfl
 .exact⟨1,rfl,⋯⟩
 .exact⟨4,rfl,⋯⟩
 .exact⟨3,rfl,⋯⟩
def iz(g w:Str)(n:Nat):Prop:=w.9=n/\∀c∈ch w,c∈ch g
theorem iz.one{g:Str}{c:Nat}(h:c∈ch g):iz g {#[c]} 1:={rfl,λd hd=>by rw[Zz.mp hd];exact h}
theorem iz.word{g w:Str}(h:iz g w n)(j:1<=n)(l:n<=5):jV g w:={by rw[h.1];exact j,by rw[h.1];exact l,h.2}
theorem iz.ok{g w:Str}(h:iz g w 1)(n:Nat)(hn:n<=10):MulOk w (n:Int):=KB 1.0 (by rw[h.1];omega)
theorem iz.sum{g a b:Str}(h:iz g a m)(i:iz g b n)(hn:m+n<=10):a.9+b.9<=sizeLine:=av (by rw[h.1,i.1];omega)
inductive KY(vs:List V)(H:Hp)(Q:VK)(eK:XK):Prop
 |mk (g t) (_:vs=[.str g,.int t]) (_:2<=g.9) (_:g.9<=4) (_:0<=t) (_:t<5) (_:∀(p l:Addr) (ws:List Str) (many:Int) (H':Hp),a8 H H'->H' p=ρ (.tup [.ref l,.int many])->H' l=ρ (.lst (ws.map V.str))->ws.9<=4->(∀w∈ws,jV g w)->6<=many->many<=7->Q (.ref p) H')
end
theorem dN{CX P w K mg base N q g f cd A o s H E}:(pD CX P w K mg base N q g f cd A o s H E).K=K:=rfl
section
variable{w:World}{K:Z6}
inductive Iu(K:Z6)(vs:List V)(H:Hp)(Q:VK)(eK:XK):Prop
 |mk (a:Addr) (ns:List Int) (g:Str) (_:vs=[.ref a,.str g]) (_:aM K H a (ns.map V.int)) (_:1<=g.9) (_:g.9<=4) (_:∀(l:Addr) (ws:List Str) (H':Hp),a8 H H'->H' l=ρ (.lst (ws.map V.str))->ws.9<=6->(∀w∈ws,jV g w)->Q (.ref l) H')
end
end K34
namespace _L
open PySem.Spec PyProof.Rows
section
variable{X:Cx}
noncomputable def Oz(r:Str):V->V:=λv=>match v with
 |.str y=>.bl (_B.KO y r)
 |_=>.non
theorem FE(r:Str)(ws:List Str):(ws.map V.str).map (Oz r)=(ws.map λw=>_B.KO w r).map V.bl:=by
 rw[Zj,Zj];rfl
theorem CU(a b:Str):(df a).map (Oz b)=((_B.ch a).map λc=>decide (c∈_B.ch b)).map V.bl:=by
 unfold df;rw[Zj,Zj];refine ú λc _=>?_;show V.bl (_B.KO {#[c]} b)=V.bl (decide (c∈_B.ch b));rw[_B.Ii]
theorem CV(g:List Str)(b:Str):putK (jt g) (ZA b:Key) (.bl true)=jt (_B.x8 g b):=by
 unfold putK _B.x8
 by_cases h:b∈g
 .have a:((jt g).any λc=>decide (c.1=(ZA b:Key)))=true:=by
   refine Ē.mpr {(ZA b,.bl true),?_,decide_eq_true rfl};exact Ze.mpr ⟨b,h,rfl⟩
  rw[if_pos a,if_pos h];delta jt;rw[Zj];refine ú λk _=>?_;show (if (ZA k:Key)=ZA b then((ZA k:Key),V.bl true) else((ZA k:Key),V.bl true))=_;split<;>rfl
 .have a:¬((jt g).any λc=>decide (c.1=(ZA b:Key)))=true:=by
   intro z
   let{p,d,e}:=Ē.mp z
   let{k,hk,rfl}:=Ze.mp d
   have:(ZA k:Key)=ZA b:=of_decide_eq_true e;have:k=b:=Ě this;subst this;exact h hk
  rw[if_neg a,if_neg h];delta jt;rw[Zk];rfl
theorem nK(h:(_B.ch x).Nodup):∀i,i<=x.cps.size->cL (f7 x) i=(ZF i).map (f7 x)
 |0,_=>rfl
 |i+1,hi=>by
  have c:=nK h i 1.0;rw[i3,c,Œ,Zk];delta q5;rw[if_neg]
  .rfl
  .intro z
   let{y,d,e}:=Ē.mp z
   let{j,f,rfl}:=Ze.mp d
   have l:j<i:=Í.mp f;have a:f7 x j=f7 x i:=eq_of_beq e;unfold f7 at a
   have b:x.cps.getD j 0=x.cps.getD i 0:=by
    injection a with m
    have:=congrArg Array.toList m;simpa using this
   have g:∀k,(hk:k<x.cps.size)->x.cps.getD k 0=(_B.ch x)[k]'(by simpa using hk):=λk hk=>by
    simp[wg0,hk]
   rw[g j 1.0,g i 1.0]at b;have:=(ň h).mp b;omega
theorem ym(h:(_B.ch x).Nodup):(cL (f7 x) x.cps.size).9=x.9:=by
 rw[nK h _ (Zf _),Z4,ZJ];rfl
noncomputable def uz(ws ps:List Str)(p:Str)(c:Nat):V:=if bears ws (p++{#[c]})=true then .non else .str (lend ps (p++{#[c]}))
noncomputable def rowOf(g:Str)(ws ps:List Str)(p:Str):List (Key×V):=(ch g).map λc=>((ZA ({#[c]}:Str):Key),uz ws ps p c)
theorem CW(g:Str)(ws ps:List Str)(p:Str):(rowOf g ws ps p).9=g.9:=by delta rowOf;rw[Z4,b7]
theorem Aa(g:Str)(ws ps:List Str)(p:Str):((rowOf g ws ps p).map (·.2)).all d7=true:=by
 delta rowOf;rw[Zj];refine ZM.mpr λv a=>?_
 let{c,1}:=Ze.mp a
 show d7 (uz ws ps p c)=true;unfold uz;split<;>rfl
theorem Iv(h:c∈ch g):cZ (rowOf g ws ps p) (ZA ({#[c]}:Str):Key)=ρ (uz ws ps p c):=
 Ei (uz ws ps p) (λc=>({#[c]}:Str)) (λa b e=>by
  grind) h
theorem ai{i:Nat}{x:Str}{e:Expr}{j:TE}{g:Pos}(he:PE X e j)(l:X.N.Nodup:=by assumption)(hi:X.N[i]?=ρ x:=by rfl)(o:Loc X.env.scope x:=by first |exact ċ rfl |exact Or.inr rfl)(hs:ë e (ρ (.Name x g)) pos.line X.5=pure false:=by rfl)
 (p:X.fn x=true\/X.env.scope.names.lookup x=ρ .local:=by first |exact .inl rfl |exact .inr rfl |assumption):PS X (.Assign [.Name x g] e pos) (Kk j (dA i)):=
 Kn l hi o he hs p
theorem az{i:Nat}{x:Str}(g:X.N.Nodup:=by assumption)(hi:X.N[i]?=ρ x:=by rfl)(j:Loc X.env.scope x:=by first |exact ċ rfl |exact Or.inr rfl)(l:X.fn x=true\/X.env.scope.names.lookup x=ρ .local:=by first |exact .inl rfl |exact .inr rfl |assumption):PG X (.Name x pos) (dA i):=
 j6 g hi j l
noncomputable def gq(g:Str)(ws ss:List Str)(p:Str):List Str:=(ch g).filterMap λc=>if bears ws (p++{#[c]})=true then τ else ρ (lend ss (p++{#[c]}))
theorem yn(ws ss:List Str)(p:Str)(g:List Nat):((g.map (uz ws ss p)).filter zp)=(g.filterMap λc=>if bears ws (p++{#[c]})=true then τ else ρ (lend ss (p++{#[c]}))).map V.str:=by
 induction g with
 |nil=>rfl
 |cons c g a=>
  grind [uz,lend,zp]
theorem Ab(g:Str)(ws ss:List Str)(p:Str):(gq g ws ss p).9<=g.9:=by
 delta gq;have:=wd6 (λc=>if bears ws (p++{#[c]})=true then τ else ρ (lend ss (p++({#[c]}:Str)))) (ch g);rw[b7]at this;exact this
noncomputable def eL(g:Str)(ws ss:List Str):Nat->Str->Int
 |0,_=>1
 |n+1,p=>((gq g ws ss p).map (eL g ws ss n)).sum
noncomputable abbrev KZ(g:Str)(ws ss:List Str)(n:Nat):List (Key×V):=pB (λp=>.int (eL g ws ss n p)) ss
noncomputable def SX(ws ss:List Str)(p:Str):V->V:=λv=>match v with
 |.str z=>uz ws ss p (z.cps.getD 0 0)
 |_=>.non
theorem CY(g:Str)(ws ss:List Str)(p:Str):(df g).map (SX ws ss p)=(ch g).map (uz ws ss p):=by
 unfold df;rw[Zj];rfl
theorem aQ.len{K:Z6}{H:Hp}:∀{g:List gi} {xs:List V},aQ K H g xs->xs.9=g.9
 |[],xs,h=>by
  have e:xs=[]:=h;subst e;rfl
 |d::g,_,h=>by
  let{v,a,rfl,_,hl}:=h
  rw[ZP,ZP,aQ.len hl]
theorem aQ.at{K:Z6}{H:Hp}{g:List gi}{xs:List V}(h:aQ K H g xs){i:Nat}{d:gi}(e:g[i]?=ρ d):∃x,xs[i]?=ρ x/\bh K H d x:=by
 have hi:i<g.9:=(Za.mp e).1;have a:xs[i]?=ρ (xs[i]'(by rw[h.len];exact hi)):=Z5 _
 let{c,b,r}:=h.get i _ a
 rw[e]at b;cases b;exact{_,a,r}
theorem fu(s:a8 g H):a8 (aO H j) (aO g j):=λa o e=>by
 unfold aO at e ⊢
 cases h:H a with
 |none=>rw[h]at e;rw[none_of s h];exact e
 |some z=>rw[h]at e;cases e
theorem dm(s:a8 g j):a8 (aO H g) (aO H j):=λa o e=>by
 unfold aO at e ⊢
 cases h:H a with
 |none=>rw[h]at e;exact s _ _ e
 |some z=>rw[h]at e;cases e
theorem bu(hl:H l=ρ o)(kp:∀b o,g b=ρ o->b≠l->j b=ρ o):a8 (aO H g) (aO H j):=λa c e=>by
 unfold aO at e ⊢
 cases h:H a with
 |none=>
  rw[h]at e;exact kp _ _ e λz=>by rw[z,hl]at h;cases h
 |some z=>rw[h]at e;cases e
theorem jg(kp:∀b o,H b=ρ o->b≠x->g b=ρ o):a8 (eI H x) g:=λd o e=>by
 unfold eI at e
 by_cases hd:d=x
 .rw[if_pos hd]at e;cases e
 .rw[if_neg hd]at e;exact kp _ _ e hd
theorem L1(g:H x=ρ (.ins C j fs))(h:Rd H d o)(l:∀z,o≠.ins C j z)(p:∀a b,HO.frz a b≠.ins C j fs):Rd (eI H x) d o:=by
 rcases h with e |⟨z,e⟩
 .exact .inl (gk e λq=>by rw[q,g]at e;exact l fs (Zi e).symm)
 .exact .inr {z,gk e λq=>by rw[q,g]at e;exact p _ _ (Zi e).symm}
mutual
theorem bh.off{K:Z6}{H:Hp}{x C j:Addr}{fs:List (Str×V)}(g:H x=ρ (.ins C j fs)):∀(d:gi) (v:V),bh K H d v->bh K (eI H x) d v
 |.at _,_,h=>h
 |.tup c,_,h=>by
  let{a,b,e,f,hl}:=h
  exact{a,b,e,gk f (λz=>by grind),aQ.off g c b hl}
 |.lst c,_,h=>by
  let{a,b,e,f,hl}:=h
  exact{a,b,e,L1 g f (λ_ z=>by cases z) (λ_ _ z=>by cases z),aQ.off g c b hl}
theorem aQ.off{K:Z6}{H:Hp}{x C l:Addr}{fs:List (Str×V)}(j:H x=ρ (.ins C l fs)):∀(g:List gi) (xs:List V),aQ K H g xs->aQ K (eI H x) g xs
 |[],_,h=>h
 |d::g,_,h=>by
  let{v,a,e,b,hl}:=h
  exact{v,a,e,bh.off j d v b,aQ.off j g a hl}
end
theorem t8(p:Nat->Bool)(pv:V->Bool)(g:V->V)(j:∀i:Nat,pv (.int (0+(i:Nat)))=p i)(l:∀(i:Nat) (x:V),xs[i]?=ρ x->g (.int (0+(i:Nat)))=x) :
 (((ZF xs.9).map λi=>V.int (0+((i:Nat):Int))).filter pv).map g=bg p 0 xs:=by
 have key:∀m,m<=xs.9->(((ZF m).map λi=>V.int (0+((i:Nat):Int))).filter pv).map g=bg p 0 (xs.take m):=by
  intro m
  induction m with
  |zero=>intro _;rfl
  |succ m c=>
   intro e;have b:xs[m]?=ρ xs[m]:=Z5 ();have d:xs.take (m+1)=xs.take m++[xs[m]]:=by rw[Ô,b];rfl
   have a:(xs.take m).9=m:=by rw[Zq];lia
   rw[Œ,Zk,Ĉ,Zk,c (),d,j0,a,ŵ];congr 1;rw[Zw,ŏ,List.filter_cons,j m]
   cases p m with
   |true=>show [g (.int (0+(m:Nat)))]=[xs[m]];rw[l m _ b]
   |false=>rfl
 have:=key xs.length (Zf _);rwa[ZI]at this
theorem int_at{xs:List Int}{g:List Value}(r:Vals (xs.map V.int) g)(j:Nat)(h:j<g.toArray.size):∃t,g.toArray[j]=.int (xs.getD j 0) t:=by
 have a:j<g.9:=by simpa using h
 have b:=r.9;rw[Z4]at b;have c:(xs.map V.int)[j]?=ρ (.int (xs.getD j 0)):=by rw[Z9,Z8,Z5 (show j<xs.length by omega)];rfl
 let{u,q,t,w}:=r.get c
 rw[Z5 a]at q;exact{t,(Zi q).trans w}
theorem CZ{l:List Nat}(h:l.Pairwise (· < ·)):zq l.6:=by
 intro i j a b c d e;rw[wcD]at d e
 let{hi,rfl}:=Za.mp d
 let{f,rfl}:=Za.mp e
 exact List.pairwise_iff_getElem.mp h i j hi f c
end
section
variable{prog:ZC}{w:World}
theorem jU.at(h:jU (prog:=prog) (w:=w) j a S n led)(k:∀o,j.get? a=ρ o->g.get? a=ρ o):jU (prog:=prog) (w:=w) g a S n led:=
 let ⟨o,b,c,t,e,r⟩:=h
 {o,b,c,t,k o e,r}
theorem vQ{g:List Int}(l:g.Nodup):firstMet (λi=>g.getD i 0) g.9=g:=by
 have key:∀n,n<=g.9->firstMet (λi=>g.getD i 0) n=g.take n:=λn=>by
  induction n with
  |zero=>intro _;rfl
  |succ n a=>
   intro hn;have b:g.getD n 0=g[n]:=by rw[Z8,Z5 1.0];rfl
   rw[wgd,a 1.0,b,<-List.take_append_getElem (by omega:n<g.9)];unfold step_dedup;rw[if_neg];intro hc;have c:g[n]∈g.take n:=by simpa using hc
   let{j,d,e}:=ĥ c
   simp at d;rw[Μ]at e;have:=(ň l).mp e;omega
 rw[key _ (Zf _),ZI]
end
section
variable{X:Cx}{x:Str}{pos:Pos}{e:Expr}{te:MH}{i:Nat}{pos':Pos}
theorem Iw(g:X.N.Nodup)(hi:X.N[i]?=ρ x)(j:Loc X.env.scope x)(he:SG X e te)(hs:ë e (ρ (.Name x pos')) pos.line X.5=pure false:=by rfl)(l:X.fn x=true\/X.env.scope.names.lookup x=ρ .local:=by first |exact .inl rfl |exact .inr rfl |assumption) :
 SH X (.Assign [.Name x pos'] e pos) (Qk te i):=by
 refine{?_};intro a s σ H D E I h;refine wex (Å (he a s σ H _ (E σ) I h) (λv b ⟨y,c,d,f,k⟩=>?_) λn b z=>⟨σ,z⟩) hs;exact iJ d g hi j f (λo m=>{_,c,m,k}) l
end
section
variable{P:ZC}{w:World}{K:Z6}{mg:Str->Option Value}{base:Heap}{N:List Str}{qual:Str}{f:Addr}{A:Around}{outer:List Env}{s:Shared}{H:Hp}{E:XK}
theorem xO.Vu{x qual:Str}{st:Stmt}{f:Addr}{fd:Ë}{N ps:List Str}{k:Nat}{sp:Sp}(F:xO K x qual st f fd)(S:rB N ps (aD st))(len:∀vs H Q E,sp vs H Q E->vs.9=ps.9)
 (j:∀(g:Value) (A:Around) (outer:List Env) (s:Shared) (H:Hp) (vs:List V) (Q:VK) (E:XK),d5 k (A.deeper (envOfC qual (aD st) s.heap.objs.size f g))->sp vs H Q E ->
   ∃t,vp (pD (z9 P w) P w K mg base N qual (aD st) f g A outer s H E) (cC st) t/\t (Ends.fn Q) (start N vs) H):aW P w K mg base (z9 P w) (k+1) f fd ps sp:=by
 let{h,i,kV,c,pm,l,g,ct,d,rfl,lk,a}:=F.ex
 exact JD lk a S len λA outer s H vs Q E e b=>j g A outer s H vs Q E e b
end
end _L
namespace _B
noncomputable def eF(q:Str×Nat):gi:=.tup [.at (.str q.1),.at (.int (q.2:Int))]
noncomputable def bx(qs:List (Str×Nat)):gi:=.lst (qs.map eF)
noncomputable def gu(lns:List (List (Str×Nat))):gi:=.lst (lns.map bx)
noncomputable def jA(hs:List Str):gi:=.lst (hs.map λh=>.at (.str h))
noncomputable def fL(ws:List Int):gi:=.lst (ws.map λw=>.at (.int w))
theorem nL(h:bh K H (jA hs) v):∃a,v=.ref a/\aM K H a (hs.map V.str):=by
 let{a,b,rfl,f,hl}:=h
 refine{a,rfl,?_}
 have:b=hs.map V.str:=by
  refine wdd λi=>?_
  cases e:b[i]? with
  |none=>
   have:=hl.len;rw[Z4]at this;rw[Ž (by rw[Z4];have:=weJ.mp e;lia)]
  |some x=>
   let{d,hd,r}:=hl.get i x e
   rw[Z9]at hd ⊢
   cases c:hs[i]? with
   |none=>rw[c]at hd;cases hd
   |some z=>
    rw[c]at hd;cases hd;rw[r.1];rfl
 rw[<-this];exact .inl f
theorem fE(h:bh K H (fL ws) v):∃a,v=.ref a/\aM K H a (ws.map V.int):=by
 let{a,b,rfl,f,hl}:=h
 refine{a,rfl,?_}
 have:b=ws.map V.int:=by
  refine wdd λi=>?_
  cases e:b[i]? with
  |none=>
   have:=hl.len;rw[Z4]at this;rw[Ž (by rw[Z4];have:=weJ.mp e;lia)]
  |some x=>
   let{d,hd,r}:=hl.get i x e
   rw[Z9]at hd ⊢
   cases c:ws[i]? with
   |none=>rw[c]at hd;cases hd
   |some z=>
    rw[c]at hd;cases hd;rw[r.1];rfl
 rw[<-this];exact .inl f
theorem km(h:H a=ρ (.lst (hs.map V.str))):bh K H (jA hs) (.ref a):=
 {a,1,.inl h,aQ.mL _ _ (by simp) λi d y hd b=>by
   rw[Z9]at hd b
   cases e:hs[i]? with
   |none=>rw[e]at hd;cases hd
   |some z=>rw[e]at hd b;cases hd;cases b;exact⟨rfl,rfl⟩}
theorem gb(h:H a=ρ (.lst (ws.map V.int))):bh K H (fL ws) (.ref a):=
 {a,1,.inl h,aQ.mL _ _ (by simp) λi d y hd b=>by
   rw[Z9]at hd b
   cases e:ws[i]? with
   |none=>rw[e]at hd;cases hd
   |some z=>rw[e]at hd b;cases hd;cases b;exact⟨rfl,rfl⟩}
theorem mS(h:bh K H (bx g) v):∃a xs,v=.ref a/\aM K H a xs/\xs.9=(g.map ee).9/\∀(i:Nat) (q:V×V),(g.map ee)[i]?=ρ q->∃r,xs[i]?=ρ (.ref r)/\H r=ρ (.tup [q.1,q.2]):=by
 let{a,xs,rfl,j,hl}:=h
 refine{a,xs,rfl,.inl j,by rw[hl.len,Z4,Z4],λi q b=>?_};rw[Z9]at b
 cases e:g[i]? with
 |none=>rw[e]at b;cases b
 |some z=>
  rw[e]at b;cases b
  let{x,k,r}:=hl.at (i:=i) (d:=eF z) (by rw[Z9,e];rfl)
  let{l,p,rfl,f,m}:=r
  let{v1,s,rfl,{rfl,_},n}:=m
  let{t,c,rfl,{rfl,_},o}:=n
  rw[show c=[] from o]at f;exact⟨l,k,f⟩
theorem nM(g:H r=τ)(q:Str×Nat):bh K (aO H (upd H r (.tup [.str q.1,.int (q.2:Int)]))) (eF q) (.ref r):=
 {r,1,bO g a7,.str q.1,[.int (q.2:Int)],rfl,⟨rfl,rfl⟩,.int (q.2:Int),[],rfl,⟨rfl,rfl⟩,rfl}
structure c9(K:Z6)(C:Addr)(H:Hp)(x:Addr)(hs:List Str)(ws:List Int)(lns:List (List (Str×Nat))):Prop where
 ex:∃dx a b c,H x=ρ (.ins C dx (zQ a b c))/\bh K H (jA hs) (.ref a)/\bh K H (fL ws) (.ref b)/\bh K H (gu lns) (.ref c)
theorem iO{hs:List Str}{k:Str}(h:k∈hs):hs[hs.idxOf k]?=ρ k/\∀j:Nat,j<hs.idxOf k->hs[j]?≠ρ k:=by
 have hl:hs.idxOf k<hs.9:=List.idxOf_lt_length_iff.mpr h;refine{by rw[Z5 hl,List.getElem_idxOf hl],λj c e=>?_};have a:j<hs.9:=1.0;rw[Z5 a]at e;have b:hs[j]=k:=Zi e
 have:hs.idxOf k<=j:=by
  rw[<-b];exact qc a
 omega
theorem nN(p:Nat->Bool)(h:aQ K H (g.map eF) xs):aQ K H ((bg p 0 g).map eF) (bg p 0 xs):=by
 rw[<-vm];exact h.pick p 0 _ _
theorem xf{α:Type}{K:Z6}{H:Hp}(f:α->V):∀(g:List α) (xs:List V),aQ K H (g.map λz=>gi.at (f z)) xs->xs=g.map f
 |[],xs,h=>h
 |z::g,_,h=>by
  let{v,a,rfl,{rfl,_},hl}:=h
  rw[xf f g a hl];rfl
theorem xg(h:bh K H (jA hs) (.ref a)):Rd H a (.lst (hs.map V.str)):=by
 let{d,b,e,c,hl}:=h
 cases e;rwa[xf V.str hs b hl]at c
theorem lK(h:bh K H (fL ws) (.ref a)):Rd H a (.lst (ws.map V.int)):=by
 let{d,b,e,c,hl}:=h
 cases e;rwa[xf V.int ws b hl]at c
theorem eM(h:bh K H (bx j) v):∃a l,v=.ref a/\aM K H a (l.map V.ref)/\cA H l ((j.map ee).map lR):=by
 let{a,d,rfl,n,b,k}:=mS h
 have ex:d=(d.map λv=>match v with |.ref r=>r |_=>0).map V.ref:=by
  rw[Zj];refine(Ń d).symm.trans (ú λv o=>?_)
  let{i,hi,rfl}:=ĥ o
  let{r,m,_}:=k i _ (Z5 (by rw[<-b];exact hi))
  rw[Z5 hi]at m;rw[Zi m];rfl
 refine{a,1,by rw[<-ex];exact n,by rw[Z4,Z4,b],λi r s f c=>?_};rw[Z9]at f c
 cases e:(j.map ee)[i]? with
 |none=>rw[e]at c;cases c
 |some q=>
  rw[e]at c;cases c
  let{t,g,p}:=k i q e
  rw[g]at f;cases f;exact p
theorem Ac(h:q∈eB d t l):q.2=t\/q∈l:=by
 unfold eB at h
 let{z,b,a}:=Ν.mp h
 split at a
 .rcases ZD.mp a with e |a
  .rw[e];exact .inr b
  .rw[Zz.mp a];exact .inl rfl
 .rw[Zz.mp a];exact .inr b
theorem jh(h:eQ ws many g w=true):g≠[]/\1<=w/\many*w<=aL ws g:=by
 unfold eQ at h;simp only[è]at h;exact{λz=>by rw[z]at h;simp at h,of_decide_eq_true h.2.1,of_decide_eq_true h.2.2}
theorem ia.split{many:Int}{hs:List Str}{ws:List Int}{lns:List (List (Str×Nat))}(S:ia many hs ws lns){d:Nat}{ns:List Int}{w:Int}(h:cE ws lns many (d:Int) ns w=true):ia many (cq hs d) (bF ws d w) (eR lns d ns)/\d<hs.9:=by
 unfold cE at h;simp only[è]at h
 let{n,A,v,x}:=h
 rw[Zy]at A v x
 let{E,G,B}:=jh v
 let{H,I,C}:=jh x
 have j:=S.w;have o:=S.l
 have hd:d<lns.9:=by
  unfold eA at n;rw[è]at n;have:=of_decide_eq_true n.2
  lia
 have f:d<ws.9:=();have r:(cq hs d).9=hs.9+1:=by unfold cq;rw[Zd];rfl
 have a:lns.getD d []∈lns:=by
  rw[Z8,Z5 hd];exact ZQ hd
 have k:=S.e _ a
 have c:∀l∈(lns++[aH ns (lns.getD d [])]).set d (aI ns (lns.getD d [])),∀q∈l,q.2<hs.9:=λl hl=>by
  rcases ų hl with z |z
  .rcases ZH.mp z with z |z
   .exact S.e l z
   .rw[Zz.mp z];exact λq a=>k q (fo a)
  .rw[z];exact λq a=>k q (fo a)
 refine{{by rw[r,zR,j],?_,λz y=>?_,λl hl q a=>?_,λi l hl=>?_},()}
 .unfold eR;rw[r,Z4,ě,Zd,o];rfl
 .unfold bF at y;rcases ų y with q |q
  .rcases ZH.mp q with q |q
   .exact S.p z q
   .rw[Zz.mp q];lia
  .rw[q];lia
 .rw[r];unfold eR at hl
  let{m,s,rfl}:=Ze.mp hl
  rcases Ac a with e |e
  .lia
  .have:=c m s q e
   lia
 .unfold eR at hl;rw[Z9]at hl
  cases e:((lns++[aH ns (lns.getD d [])]).set d (aI ns (lns.getD d [])))[i]? with
  |none=>rw[e]at hl;cases hl
  |some m=>
   rw[e]at hl;cases hl;have D:=c m (Zv e);rw[show lns.9=ws.length by lia,lX f m (λq a=>by rw[j];exact D q a)]
   by_cases g:i=d
   .subst g;rw[ŋ (by rw[Zd];lia)]at e;cases e;rw[qe f];exact B
   .rw[Ś (λz=>g z.symm)]at e
    by_cases t:i<lns.9
    .rw[ZN t]at e;rw[nC () g];exact S.b i m e
    .have u:i=lns.9:=by
      have:=(Za.mp e).1;rw[Zd]at this;simp at this
      lia
     subst u;rw[ZL (Zf _),ü]at e;cases e;rw[show lns.9=ws.length by lia,qf f];exact C
theorem xh:∀{hs:List Str} {lns:List (List (Str×Nat))} {i:Nat} {l:List (Str×Nat)},hs[i]?=ρ p->lns[i]?=ρ l->l.count z<=hX p z hs lns
 |y::hs,x::lns,0,l,a,b=>by
  cases a;cases b;show _<=(if p=p then x.count z else 0)+_;rw[if_pos rfl]
  lia
 |h::hs,x::lns,i+1,l,a,b=>by
  have:=xh (z:=z) (hs:=hs) (lns:=lns) (i:=i) (by simpa using a) (by simpa using b);show _<=_+hX p z hs lns
  lia
 |[],_,_,_,a,_=>by simp at a
 |_::_,[],_,_,_,b=>by simp at b
theorem Hc.split{B:Str->List (Str×Str)}(h:Hc B hs lns)(hl:lns.9=hs.9)(he:∀l∈lns,∀q∈l,q.2<hs.9)(hd:d<hs.9)(ns:List Int):Hc B (cq hs d) (eR lns d ns):=by
 intro p w e
 have t:lns.getD d []∈lns:=by
  rw[Z8,Z5 ()];exact ZQ _
 have k:∀l∈(lns++[aH ns (lns.getD d [])]).set d (aI ns (lns.getD d [])),∀q∈l,q.2<lns.9:=λl b=>by
  rw[hl];rcases ų b with z |z
  .rcases ZH.mp z with z |z
   .exact he l z
   .rw[Zz.mp z];exact λq c=>he _ t q (fo c)
  .rw[z];exact λq c=>he _ t q (fo c)
 have n:(hs++[hs.getD d ""]).getD d ""=hs.getD d "":=by
  rw[Z8,ZN hd,<-Z8]
 have o:(lns++[aH ns (lns.getD d [])]).getD d []=lns.getD d []:=by
  rw[Z8,ZN (),<-Z8]
 unfold cq eR;rw[yf p (z':=(w,if e=lns.length then d else e)) _ _ λl b=>qg () w e l (k l b)];have r:=ye p (w,if e=lns.length then d else e) (aI ns (lns.getD d [])) (hs++[hs.getD d ""]) (lns++[aH ns (lns.getD d [])]) d (by rw[Zd,Zd];simp[hl]) (by rw[Zd];lia);rw[n,o,vE p _ _ _ hs lns hl.symm]at r;have u:=sO (λi=>decide ((i:Int)∈ns)) (w,if e=lns.length then d else e) 0 (lns.getD d []);have y:(aI ns (lns.getD d [])).count (w,if e=lns.length then d else e)+(aH ns (lns.getD d [])).count (w,if e=lns.length then d else e)=(lns.getD d []).count (w,if e=lns.length then d else e):=u;have v:=h p w (if e=lns.length then d else e)
 have x:hX p (w,if e=lns.length then d else e) (hs++[hs.getD d ""]) ((lns++[aH ns (lns.getD d [])]).set d (aI ns (lns.getD d [])))=hX p (w,if e=lns.length then d else e) hs lns:=by
  by_cases j:hs.getD d ""=p
  .rw[if_pos j,if_pos j,if_pos j]at r
   lia
  .rw[if_neg j,if_neg j,if_neg j]at r
   lia
 rw[x,v]
 have m:p∈hs++[hs.getD d ""]↔p∈hs:=by
  rw[ZH,Zz];refine{λz=>z.elim id λz=>?_,.inl};rw[z,Z8,Z5 hd];exact ZQ _
 have a:(hs++[hs.getD d ""]).9=hs.9+1:=by rw[Zd];rfl
 by_cases f:e=lns.9
 .rw[if_pos f]
  have s:(hs++[hs.getD d ""]).getD e ""=hs.getD d "":=by
   rw[f,hl,Z8,ZL (Zf _),ü];rfl
  rw[s,a];refine Ng {λz=>{(),m.mpr z.2.1,z.2.2},λz=>{hd,m.mp z.2.1,z.2.2}}
 .rw[if_neg f]
  by_cases g:e<hs.9
  .have s:(hs++[hs.getD d ""]).getD e ""=hs.getD e "":=by
    rw[Z8,ZN g,<-Z8]
   rw[s,a];refine Ng {λz=>{(),m.mpr z.2.1,z.2.2},λz=>{g,m.mp z.2.1,z.2.2}}
  .rw[if_neg (λz=>g z.1),if_neg (λz=>by have:=z.1;lia)]
theorem nO:∀{l:List (Str×Str)},(l.map (·.1)).Nodup->l.Nodup
 |[],_=>ξ
 |q::l,h=>by
  rw[Zw,Ü]at h;exact Ü.mpr {λz=>h.1 (Ze.mpr ⟨q,z,rfl⟩),nO h.2}
theorem FG{f:Str->Int}(hn:∀p∈ls,0<=f p)(p:Str):aL ((aj ls f).map f) (eE g ws ss ls n (aj ls f) p)=gB g ws ss ls n f p:=by
 delta gB;rw[jd (λq:Str×Str=>f q.2) (aS g ws ss ls n p) λq a=>hn _ (cf a)];delta aL eE;rw[Zj]
 have e:(aS g ws ss ls n p).filter (λq=>decide (q.2∈aj ls f))=(aS g ws ss ls n p).filter λq=>decide (0<f q.2):=wdj λq a=>by
  delta aj;exact decide_eq_decide.mpr (by rw[ZG];exact{λz=>of_decide_eq_true z.2,λz=>{cf a,decide_eq_true z}})
 rw[e];refine congrArg List.sum (ú λq a=>?_)
 have b:q.2∈aj ls f:=by
  delta aj;have:=ZG.mp a;exact ZG.mpr {cf this.1,this.2}
 show ((aj ls f).map f).getD ((aj ls f).idxOf q.2) 0=f q.2;rw[Z8,Z9,(iO b).1];rfl
theorem vR(h:∀d∈S,d∈T):∀g:List (Str×Nat),(fA S g).9<=(fA T g).9
 |[]=>Zf _
 |q::g=>by
  have a:=vR h g;unfold fA at a ⊢
  by_cases b:q.2∈S
  .rw[ā (by exact decide_eq_true b),ā (by exact decide_eq_true (h _ b))];exact wdv a
  .rw[Ć (by simpa using b)]
   by_cases c:q.2∈T
   .rw[ā (by exact decide_eq_true c)];exact Nat.le_succ_of_le a
   .rw[Ć (by simpa using c)];exact a
theorem t9{f:Nat->Int}:∀ns:List Nat,(∀n∈ns,f n<=h)->x∈ns->f x<h->(ns.map f).sum<(ns.9:Int)*h
 |[],_,a,_=>nomatch a
 |n::ns,c,a,b=>by
  have i:=c n (Zm ..);rw[Zw,Î,ZP,wdN,wfw];show _<_+1*h;rcases ZD.mp a with e |a
  .have g:=mP ns λp d=>c p (Zh _ d);rw[e]at b
   lia
  .have g:=t9 ns (λp d=>c p (Zh _ d)) a b
   lia
theorem FH:∀{a b:List Nat},nI a=nI b->a=b
 |[],[],_=>rfl
 |[],_::_,h=>nomatch h
 |_::_,[],h=>nomatch h
 |x::a,y::b,h=>by
  unfold nI at h;rw[Zw,Zw]at h;injection h with d c
  rw[FH (a:=a) (b:=b) c,show x=y by lia]
theorem tf{ls g:List Str}{f:Str->Int}(h:∀p∈ls,0<=f p):∀p∈ls,0<=cO g f p:=λp a=>by
 delta cO;split
 .exact h p a
 .exact ľ _
theorem yo{ls g:List Str}{f:Str->Int}(h:∀p∈ls,0<=f p):∀p∈ls,cO g f p<=f p:=λp a=>by
 delta cO;split
 .exact ľ _
 .exact h p a
theorem D0{ls g:List Str}{f:Str->Int}(h:∀p∈ls,0<=f p):(ls.map (cO g f)).sum<=(ls.map f).sum:=sR ls (yo h)
theorem D1{ls:List Str}{f:Str->Int}{g:List Nat}(h:∀p∈ls,0<=f p)(hl:∀d∈g,d<(aj ls f).9)(j:g≠[]):0<(ls.map (cO (g.map λd=>(aj ls f).getD d "") f)).sum:=by
 cases g with
 |nil=>exact absurd rfl j
 |cons d g=>
  have hd:=hl d (Zm ..)
  have a:(aj ls f).getD d ""∈aj ls f:=by
   rw[Z8,Z5 hd];exact ZQ hd
  let{b,c}:=ZG.mp a
  refine sS ls (tf h) b ?_;delta cO;rw[if_pos (Ze.mpr {d,Zm ..,rfl})];exact of_decide_eq_true c
theorem vS(a b:List Nat):nj ((nI a).map V.int) ((nI b).map V.int)=decide (a=b):=by
 rw[vI];exact decide_eq_decide.mpr {FH,λe=>by rw[e]}
theorem nodup_map_on{α β:Type}{f:α->β}:∀{l:List α},l.Nodup->(∀a∈l,∀b∈l,f a=f b->a=b)->(l.map f).Nodup
 |[],_,_=>ξ
 |a::l,h,d=>by
  have g:=Ü.mp h;rw[Zw];refine Ü.mpr {λz=>?_,nodup_map_on g.2 λx i y j=>d x (Zh _ i) y (Zh _ j)}
  let{b,c,e}:=Ze.mp z
  have:=d b (Zh _ c) a (Zm ..) e;rw[this]at c;exact g.1 c
theorem yp:∀{m:Nat},i0<m->(restOf m i0).9=m-1
 |m+1,h=>by
  unfold restOf;rw[Œ,Ĉ,Zd]
  by_cases e:i0=m
  .subst e;have b:(ZF i0).filter (λn=>decide (n≠i0))=ZF i0:=ù.mpr λn hn=>decide_eq_true (by grind);rw[b,Ć (by simp),ZJ];rfl
  .have a:=yp (i0:=i0) (m:=m) ();unfold restOf at a;rw[a,ā (by grind)];show m-1+1=_
   lia
theorem yq(h:i0<m)(hk:k+1<=m):(numsOf m i0 k).9=k+1:=by
 grind [numsOf,ZP,yp]
theorem vT(S:ia many hs ws lns)(D:Down ws lns h d i g q):many<=(g.9:Int):=by
 have a:g∈lns:=Zv D.l;have c:=S.b d g D.l;have f:=mO (ws:=ws) (h:=h) g λp j=>D.t _ (iM (by rw[S.w];exact S.e g a p j));rw[D.e]at c;have k:1<=h:=S.p h D.m;exact wen (weW c f) ()
noncomputable def uE(s:zV):gi:=.tup [.at (.int (s.1:Int)),fL (nI s.2.1),.at (.int s.2.2)]
structure pO(K:Z6)(C CS:Addr)(H:Hp)(x:Addr)(m:List (Str×Int))(rJ:List zV)(ks:List Nat)(hs:List Str)(ws:List Int)(lns:List (List (Str×Nat))):Prop where
 ex:∃dx a b c d,H x=ρ (.ins C dx (qZ a b c d))/\H a=ρ (.dK (b9 m))/\bh K H (.lst (rJ.map uE)) (.ref b)/\bh K H (fL (nI ks)) (.ref c)/\c9 K CS H d hs ws lns
theorem nP(s:a8 H g):a8 (eI H b) (eI g b):=λc o e=>by
 unfold eI at e ⊢
 by_cases h:c=b
 .rw[if_pos h]at e;cases e
 .rw[if_neg h]at e ⊢;exact s _ _ e
theorem tj:a8 (eI H b) H:=jg λ_ _ e _=>e
theorem Iy(h:H b=ρ o):a8 (aO H g) (eI g b):=λc d e=>by
 have a:=cS _ _ _ _ e;refine gk a λz=>?_;unfold aO at e;rw[z,h]at e;cases e
theorem BQ(g:H t=ρ (.tup [.int (d:Int),.ref l,.int w]))(j:H l=ρ (.lst ((nI ns).map V.int))):bh K H (uE (d,ns,w)) (.ref t):=
 {t,1,g,_,1,⟨rfl,rfl⟩,_,1,gb j,_,1,⟨rfl,rfl⟩,rfl}
theorem fi.step{g:Str}{bw ss ls:List Str}{many:Int}{n:Nat}{f:Str->Int}{j:List zV}{hs:List Str}{ws:List Int}{lns:List (List (Str×Nat))}(h:fi g bw ss ls many n f j hs ws lns){d:Nat}{ns:List Nat}{w:Int}(ok:cE ws lns many (d:Int) (nI ns) w=true)(hn:ns.9<=1000/\ns.Nodup) :
 fi g bw ss ls many n f (j++[(d,ns,w)]) (cq hs d) (bF ws d w) (eR lns d (nI ns)):=by
 let{b,hd}:=h.b.split ok
 have hw:=h.b.w;have hl:=h.b.l;refine{.snoc h.rn ok hn,b,h.cv.split hl h.b.e hd (nI ns),?_,?_,λp a=>?_}
 .rw[zS ()];exact h.sm
 .have:=h.sl;unfold cq;rw[Zd,Zd];show j.9+1+_=hs.9+1
  lia
 .unfold cq at a;rcases ZH.mp a with a |a
  .exact h.sb p a
  .rw[Zz.mp a,Z8,Z5 hd];exact h.sb _ (ZQ hd)
theorem fi.len{f:Str->Int}(h:fi g bw ss ls many n f j hs ws lns):(hs.9:Int)<=(ls.map f).sum:=by
 have:=sW h.b.p;have a:=h.sm;have c:=h.b.w
 lia
def D2(g:Str)(bw ss:List Str)(many:Int)(n:Nat):Prop:=∀j:Nat,1<=j->(j:Int)<=24->¬eL g bw ss (j*n) "" < many^j
section
variable{g:Str}{ws ss:List Str}
theorem FI(n:Nat):∀p,0<=eL g ws ss n p:=by
 induction n with
 |zero=>intro p;show (0:Int)<=1;decide
 |succ n a=>intro p;exact sL λe _=>a e
end
theorem Ad{m j N:Nat}{many wide:Int}{g:Str}{bw ss:List Str}(l:eT m many wide)(b:(j:Int)<=24)(c:eL g bw ss N "" < many^j):(eL g bw ss N "").natAbs.log2<1920:=by
 have e:0<=eL g bw ss N "":=FI N "";obtain⟨k,hk⟩:∃k:Nat,many=k:={many.toNat,by have:=l.a;lia};have d:k<=8:=by have:=l.b;lia
 rw[hk,<-Ź]at c;have f:k^j<=8^24:=Zn (Nat.pow_le_pow_left d j) (wg1 ⋯ ())
 have h:(eL g bw ss N "").natAbs<2^72:=by
  grind
 have i:=Nat.log2_lt (n:=(eL g bw ss N "").natAbs) (k:=72)
 by_cases z:(eL g bw ss N "").natAbs=0
 .rw[z];decide
 .grind
end _B
namespace _S
inductive Iz(vs:List V)(H:Hp)(Q:VK)(eK:XK):Prop
 |mk (a b) (_:vs=[.str a,.str b]) (_:a.9<=1000) (_:∀H',a8 H H'->Q (.bl ((ch a).all λc=>decide (c∈ch b))) H')
inductive Nw(vs:List V)(H:Hp)(Q:VK)(eK:XK):Prop
 |mk (x) (_:vs=[.str x]) (_:vM x) (_:∀H',a8 H H'->Q (.bl true) H')
inductive Nx(vs:List V)(H:Hp)(Q:VK)(eK:XK):Prop
 |mk (t g) (_:vs=[.str t,.str g]) (_:jV g t) (_:∀H',a8 H H'->Q (.bl true) H')
structure bE(C:Addr)(H:Hp)(x:Addr)(g:Str)(ws ss ls:List Str):Prop where
 ex:∃(dx b d q:Addr) (mv:List (Str×Addr)),H x=ρ (.ins C dx (CG g b d q))/\H b=ρ (.lst (ws.map V.str))/\H d=ρ (.dK (bM mv))/\mv.map (·.1)=ss/\(∀m∈mv,H m.2=ρ (.dK (rowOf g ws ss m.1)))/\H q=ρ (.lst (ls.map V.str))
 pm:ss.Perm (cQ ws "" ws)
 so:ş ss=true
 lv:MO ss (rowOf g ws ss) ls
theorem bE.same(B:bE C H x g ws ss ls)(s:a8 H j):bE C j x g ws ss ls:=by
 let{{a,b,d,q,c,e,f,h,i,k,n},p,o,l}:=B
 exact{{a,b,d,q,c,s _ _ e,s _ _ f,s _ _ h,i,λm r=>s _ _ (k m r),s _ _ n},p,o,l}
inductive FJ(C:Addr)(vs:List V)(H:Hp)(Q:VK)(eK:XK):Prop
 |mk (x g ws ss ls) (_:vs=[.ref x]) (_:bE C H x g ws ss ls) (_:∀(l:Addr) (H':Hp),a8 H H'->H l=τ->H' l=ρ (.lst (ss.map V.str))->Q (.ref l) H')
inductive IA(vs:List V)(H:Hp)(Q:VK)(eK:XK):Prop
 |mk (c) (_:vs=[.int c]) (_:∀(x:Str) (H':Hp),vM x->a8 H H'->Q (.str x) H')
theorem bE.nd(B:bE C H x g ws ss ls):ss.Nodup:=B.pm.nodup_iff.mpr (qh ws)
inductive IB(C:Addr)(vs:List V)(H:Hp)(Q:VK)(eK:XK):Prop
 |mk (x g ws ss ls) (_:vs=[.ref x]) (_:bE C H x g ws ss ls) (_:∀(l:Addr) (H':Hp),a8 H H'->H l=τ->H' l=ρ (.lst (ls.map V.str))->Q (.ref l) H')
inductive Qw(C:Addr)(vs:List V)(H:Hp)(Q:VK)(eK:XK):Prop
 |mk (x p g ws ss ls) (_:vs=[.ref x,.str p]) (_:bE C H x g ws ss ls) (_:p∈ss) (_:Q .non H)
inductive Ny(C:Addr)(vs:List V)(H:Hp)(Q:VK)(eK:XK):Prop
 |mk (x p c g ws ss ls) (_:vs=[.ref x,.str p,.str ⟨#[c]⟩]) (_:bE C H x g ws ss ls) (_:p∈ss) (_:c∈ch g) (_:Q (uz ws ss p c) H)
theorem D3(h:(df g)[i]?=ρ y):∃c,(ch g)[i]?=ρ c/\y=.str {#[c]}/\i<(ch g).9/\c∈ch g/\(ch g).take (i+1)=(ch g).take i++[c]:=by
 unfold df at h;rw[Z9]at h
 cases e:(ch g)[i]? with
 |none=>rw[show g.cps.toList[i]?=τ from e]at h;cases h
 |some z=>
  rw[show g.cps.toList[i]?=ρ z from e]at h;exact{z,rfl,(Zi h).symm,(Za.mp e).1,Zv e,by rw[Ô,e];rfl}
theorem Ae(g:Str):(df g).9=g.9:=by unfold df;rw[Z4];exact b7 g
theorem bE.few(B:bE C H x g ws ss ls)(hl:ws.9<=6)(hw:∀w∈ws,jV g w):ss.9<=25:=by
 have:=lI (ws:=ws) (e:="") (us:=ws) λw a=>(hw w a).hi;rw[B.pm.length_eq];lia
inductive Af(C:Addr)(vs:List V)(H:Hp)(Q:VK)(eK:XK):Prop
 |mk (x p g ws ss ls) (_:vs=[.ref x,.str p]) (_:bE C H x g ws ss ls) (_:p∈ss) (_:g.9<=10) (_:∀(l:Addr) (H':Hp),a8 H H'->H l=τ->H' l=ρ (.lst ((gq g ws ss p).map V.str))->Q (.ref l) H')
inductive D4(C:Addr)(vs:List V)(H:Hp)(Q:VK)(eK:XK):Prop
 |mk (x g ws ss ls) (_:vs=[.ref x]) (_:bE C H x g ws ss ls) (_:g.9<=10) (_:ss.9<=900) (_:∀(d:Addr) (ev:List (Str×Addr)) (H':Hp),a8 H H'->H d=τ->H' d=ρ (.dK (bM ev))->ev.map (·.1)=ss->(∀m∈ev,H' m.2=ρ (.lst ((gq g ws ss m.1).map V.str)))->(∀m∈ev,H m.2=τ)->Q (.ref d) H')
inductive IC(C:Addr)(vs:List V)(H:Hp)(Q:VK)(eK:XK):Prop
 |mk (x n g ws ss ls) (_:vs=[.ref x,.int n]) (_:bE C H x g ws ss ls) (_:g.9<=10) (_:ss.9<=900) (_:0<=n) (_:n<=100000) (_:∀(l:Addr) (ts:List Addr) (H':Hp),a8 H H'->H l=τ->H' l=ρ (.lst (ts.map V.ref))->ts.9=n.toNat+1->(∀i t,ts[i]?=ρ t->H' t=ρ (.dK (KZ g ws ss i)))->Q (.ref l) H')
inductive IE(C:Addr)(vs:List V)(H:Hp)(Q:VK)(eK:XK):Prop
 |mk (x n g ws ss ls) (_:vs=[.ref x,.int n]) (_:bE C H x g ws ss ls) (_:g.9<=10) (_:ss.9<=900) (_:0<=n) (_:n<=100000) (_:∀H',a8 H H'->Q (.int (eL g ws ss n.toNat "")) H')
inductive D5(C:Addr)(vs:List V)(H:Hp)(Q:VK)(eK:XK):Prop
 |mk (x n g ws ss ls) (_:vs=[.ref x,.int n]) (_:bE C H x g ws ss ls) (_:g.9<=10) (_:0<=n) (_:n<=10) (_:Q (.int ((g.9:Int)^n.toNat)) H)
inductive yr(C:Addr)(vs:List V)(H:Hp)(Q:VK)(eK:XK):Prop
 |mk (x many wide g ws ss ls) (_:vs=[.ref x,.int many,.int wide]) (_:bE C H x g ws ss ls) (_:g.9<=10) (_:eT g.length many wide) (_:Q (.bl true) H)
inductive FK(K:Z6)(vs:List V)(H:Hp)(Q:VK)(eK:XK):Prop
 |mk (a:Addr) (ns:List Int) (p:Int) (g:Str) (m n:Int) (_:vs=[.ref a,.int p,.str g,.int m,.int n]) (_:aM K H a (ns.map V.int)) (_:0<=m) (_:m<=100) (_:1<=n) (_:n<=5) (_:1<=g.9) (_:g.9<=4) (_:∀(l:Addr) (ws:List Str) (H':Hp),a8 H H'->H l=τ->H' l=ρ (.lst (ws.map V.str))->ws.9<=4->(∀w∈ws,jV g w/\(w.9:Int)<=n)->Q (.ref l) H')
inductive Qx(C:Addr)(vs:List V)(H:Hp)(Q:VK)(eK:XK):Prop
 |mk (x p g ws ss ls) (_:vs=[.ref x,.str p]) (_:bE C H x g ws ss ls) (_:p∈ls) (_:Q .non H)
inductive FL(C:Addr)(vs:List V)(H:Hp)(Q:VK)(eK:XK):Prop
 |mk (x l rs qs g ws ss ls) (_:vs=[.ref x,.ref l]) (_:bE C H x g ws ss ls) (_:cD H l rs qs) (_:(∀q∈qs,q.2∈ss/\q.1.9<=100)) (_:qs.9<=100) (_:g.9<=10) (_:∀(l':Addr) (Nz:List Addr) (H':Hp),a8 H H'->H l'=τ->cD H' l' Nz (fC g ws ss qs)->Q (.ref l') H')
inductive FN(C:Addr)(vs:List V)(H:Hp)(Q:VK)(eK:XK):Prop
 |mk (x:Addr) (p:Str) (n:Nat) (g:Str) (ws ss ls:List Str) (_:vs=[.ref x,.str p,.int (n:Int)]) (_:bE C H x g ws ss ls) (_:p∈ls) (_:g.length^n<=100) (_:n<=10) (_:2<=g.9) (_:g.9<=10) (_:∀(l':Addr) (Nz:List Addr) (H':Hp),a8 H H'->H l'=τ->cD H' l' Nz (aS g ws ss ls n p)->Q (.ref l') H')
inductive yt(C:Addr)(vs:List V)(H:Hp)(Q:VK)(eK:XK):Prop
 |mk (x:Addr) (n:Nat) (g:Str) (ws ss ls:List Str) (_:vs=[.ref x,.int (n:Int)]) (_:bE C H x g ws ss ls) (_:g.length^n<=100) (_:n<=10) (_:2<=g.9) (_:g.9<=10) (_:ss.9<=900) (_:∀(d:Addr) (ev:List (Str×Addr)) (H':Hp),a8 H H'->H d=τ->H' d=ρ (.dK (bM ev))->ev.map (·.1)=ls->(∀m∈ev,H' m.2=ρ (.lst (((aS g ws ss ls n m.1).map (·.2)).map V.str)))->(∀m∈ev,H m.2=τ)->Q (.ref d) H')
inductive FO(C:Addr)(vs:List V)(H:Hp)(Q:VK)(eK:XK):Prop
 |mk (x p n g ws ss ls) (_:vs=[.ref x,.str p,.int n]) (_:bE C H x g ws ss ls) (_:p∈ss) (_:g.9<=10) (_:ss.9<=900) (_:0<=n) (_:n<=100000) (_:∀H',a8 H H'->Q (.int (eL g ws ss n.toNat p)) H')
inductive D6(vs:List V)(H:Hp)(Q:VK)(eK:XK):Prop
 |mk (de dw many n o ev f g ws ss ls) (_:vs=[.ref de,.int many,.ref dw]) (_:H de=ρ (.frz o (.dK (bM ev)))) (_:ev.map (·.1)=ls) (_:(∀m∈ev,H m.2=ρ (.lst (((aS g ws ss ls n m.1).map (·.2)).map V.str)))) (_:g.length^n<=100) (_:ls.Nodup) (_:ls.9<=900) (_:2<=many) (_:many<=8) (_:Rd H dw (.dK (b9 (bZ f ls)))) (_:∀(d:Addr) (H':Hp),a8 H H'->H d=τ->H' d=ρ (.dK (b9 (bZ (kl g ws ss ls many n f) ls)))->Q (.ref d) H')
structure jB(g:Str)(ws ss ls:List Str)(many:Int)(n:Nat)(most:Int)(f:Str->Int):Prop where
 nn:∀p∈ls,0<=f p
 le:∀p∈ls,f p<=most
 fit:DX g ws ss ls many n f
 top:∀h:Str->Int,(∀p∈ls,h p<=most)->DX g ws ss ls many n h->∀p∈ls,h p<=f p
inductive IG(C:Addr)(vs:List V)(H:Hp)(Q:VK)(eK:XK):Prop
 |mk (x:Addr) (many:Int) (n:Nat) (most:Int) (g:Str) (ws ss ls:List Str) (_:vs=[.ref x,.int many,.int (n:Int),.int most]) (_:bE C H x g ws ss ls) (_:2<=g.9) (_:g.9<=10) (_:ss.9<=900) (_:eT g.length many n) (_:0<=most) (_:∀(d:Addr) (f:Str->Int) (H':Hp),a8 H H'->H d=τ->H' d=ρ (.dK (b9 (bZ f ls)))->jB g ws ss ls many n most f->Q (.ref d) H')
set_option genInjectivity true in
inductive Hf(g:Str)(ws ss:List Str)(many:Int)(n:Nat)(most:Int):V->Prop where
 |some (k:Nat) (a:1<=k) (b:(k:Int)<=most) (c:eL g ws ss (k*n) "" < many^k) (d:∀j:Nat,1<=j->j<k->¬eL g ws ss (j*n) "" < many^j):Hf g ws ss many n most (.int (k:Nat))
 |none (a:∀j:Nat,1<=j->(j:Int)<=most->¬eL g ws ss (j*n) "" < many^j):Hf g ws ss many n most .non
inductive D7(C:Addr)(vs:List V)(H:Hp)(Q:VK)(eK:XK):Prop
 |mk (x many wide most g ws ss ls) (_:vs=[.ref x,.int many,.int wide,.int most]) (_:bE C H x g ws ss ls) (_:g.9<=10) (_:ss.9<=900) (_:eT g.length many wide) (_:0<=most) (_:most<=100) (_:∀v H',a8 H H'->Hf g ws ss many wide.toNat most v->Q v H')
inductive FP(K:Z6)(vs:List V)(H:Hp)(Q:VK)(eK:XK):Prop
 |mk (v qs) (_:vs=[v]) (_:bh K H (bx qs) v) (_:qs.9<=10000) (_:∀y H',a8 H H'->bh K (aO H H') (bx qs) y->Q y H')
inductive FQ(K:Z6)(C:Addr)(vs:List V)(H:Hp)(Q:VK)(eK:XK):Prop
 |mk (x dx u v w hs ws lns) (_:vs=[.ref x,u,v,w]) (_:H x=ρ (.ins C dx [])) (_:bh K H (jA hs) u) (_:bh K H (fL ws) v) (_:bh K H (gu lns) w) (_:hs.9<=10000) (_:ws.9<=10000) (_:lns.9<=10000) (_:(∀l∈lns,l.9<=10000)) (_:∀a b c H',H' x=ρ (.ins C dx (zQ a b c))->bh K (aO H H') (jA hs) (.ref a)->bh K (aO H H') (fL ws) (.ref b)->bh K (aO H H') (gu lns) (.ref c)->(∀b o,H b=ρ o->b≠x->H' b=ρ o)->Q .non H')
inductive IH(K:Z6)(C CS:Addr)(vs:List V)(H:Hp)(Q:VK)(eK:XK):Prop
 |mk (x d:Addr) (many:Int) (n:Nat) (m:List (Str×Int)) (f:Str->Int) (g:Str) (ws ss ls:List Str) (_:vs=[.ref x,.int many,.int (n:Int),.ref d]) (_:bE C H x g ws ss ls) (_:2<=g.9) (_:g.9<=10) (_:ss.9<=900) (_:eT g.length many n) (_:Rd H d (.dK (b9 m))) (_:Kv m ls f) (_:∀(y:Addr) (H':Hp),a8 H H'->c9 K CS (aO H H') y (aj ls f) ((aj ls f).map f) (bt g ws ss ls n (aj ls f))->Q (.ref y) H')
inductive L4(K:Z6)(CS CN:Addr)(vs:List V)(H:Hp)(Q:VK)(E:XK):Prop
 |mk (x many v w hs ws lns qs) (_:vs=[.ref x,.int many,v,.int w]) (_:c9 K CS H x hs ws lns) (_:bh K H (bx qs) v) (_:qs.9<=10000) (_:(∀q∈qs,q.2<ws.9)) (_:0<=many) (_:many<=1000) (_:((eQ ws many qs w=true/\∀H',a8 H H'->Q .non H')\/(eQ ws many qs w=false/\∀H',a8 H H'->E (.ref CN) τ H')))
inductive II(K:Z6)(vs:List V)(H:Hp)(Q:VK)(eK:XK):Prop
 |mk (v:V) (d t:Nat) (qs:List (Str×Nat)) (_:vs=[v,.int (d:Int),.int (t:Int)]) (_:bh K H (bx qs) v) (_:qs.9<=5000) (_:∀y H',a8 H H'->bh K (aO H H') (bx (eB d t qs)) y->Q y H')
inductive IJ(K:Z6)(CS CN:Addr)(vs:List V)(H:Hp)(Q:VK)(E:XK):Prop
 |mk (x a many qY w ns hs ws lns) (_:vs=[.ref x,.int many,.int qY,.ref a,.int w]) (_:c9 K CS H x hs ws lns) (_:aM K H a (ns.map V.int)) (_:ns.9<=10000) (_:BG hs ws lns) (_:0<=many) (_:many<=1000) (_:((cE ws lns many qY ns w=true/\∀y H',a8 H H'->c9 K CS (aO H H') y (cq hs qY.toNat) (bF ws qY.toNat w) (eR lns qY.toNat ns)->Q (.ref y) H')\/(cE ws lns many qY ns w=false/\∀H',a8 H H'->E (.ref CN) τ H')))
inductive L5(K:Z6)(vs:List V)(H:Hp)(Q:VK)(eK:XK):Prop
 |mk (v a ds qs) (_:vs=[v,.ref a]) (_:bh K H (bx qs) v) (_:aM K H a ((nI ds).map V.int)) (_:qs.9<=10000) (_:∀y H',a8 H H'->bh K (aO H H') (bx (fA ds qs)) y->Q y H')
inductive L6(K:Z6)(C:Addr)(vs:List V)(H:Hp)(Q:VK)(eK:XK):Prop
 |mk (x hs ws lns) (_:vs=[.ref x]) (_:c9 K C H x hs ws lns) (_:ws.9=lns.9) (_:(∀l∈lns,∀q∈l,q.2<ws.9)) (_:ws≠[]) (_:(∀h∈ws,(∀w∈ws,w<=h)->∃d i qs q,Down ws lns h d i qs q)) (_:∀(t:Addr) (h:Int) (d i:Nat) (qs:List (Str×Nat)) (q:Str×Nat) (H':Hp),a8 H H'->H' t=ρ (.tup [.int (d:Int),.int (i:Int)])->Down ws lns h d i qs q->Q (.ref t) H')
inductive NA(K:Z6)(vs:List V)(H:Hp)(Q:VK)(eK:XK):Prop
 |mk (a b:Addr) (many:Int) (wl:List Int) (nums:List Nat) (_:vs=[.ref a,.ref b,.int many]) (_:aM K H a (wl.map V.int)) (_:aM K H b ((nI nums).map V.int)) (_:1<=many) (_:many<=1000) (_:(nums.9:Int)=many) (_:(∀n∈nums,n<wl.9)) (_:∀(l:Addr) (i j:Nat) (H':Hp),a8 H H'->H l=τ->i<j->j<=nums.9->(((nums.take j).drop i).map λn=>wl.getD n 0).sum%many=0->H' l=ρ (.lst ((nI ((nums.take j).drop i)).map V.int))->Q (.ref l) H')
inductive FR(C:Addr)(vs:List V)(H:Hp)(Q:VK)(eK:XK):Prop
 |mk (x d:Addr) (many:Int) (n:Nat) (f:Str->Int) (g:Str) (ws ss ls:List Str) (_:vs=[.ref x,.int many,.int (n:Int),.ref d]) (_:bE C H x g ws ss ls) (_:(∀w∈ws,1<=w.9)) (_:(ch g).Nodup) (_:2<=g.9) (_:g.9<=10) (_:ss.9<=900) (_:eT g.length many n) (_:H d=ρ (.dK (b9 (bZ f ls)))) (_:(∀p∈ls,0<=f p)) (_:DX g ws ss ls many n f) (_:0<(ls.map f).sum) (_:∀(dl:Addr) (f':Str->Int) (H':Hp),(∀c o,H c=ρ o->c≠d->H' c=ρ o)->H dl=τ->H' dl=ρ (.dK (b9 (bZ f' ls)))->(∀p∈ls,0<=f' p)->DX g ws ss ls many n f'->0<(ls.map f').sum->(∀p∈ls,f' p<=f p)->(ls.map f').sum<=(ls.map f).sum->Q (.ref dl) H')
inductive FT(K:Z6)(C:Addr)(vs:List V)(H:Hp)(Q:VK)(eK:XK):Prop
 |mk (x hs ws lns) (_:vs=[.ref x]) (_:c9 K C H x hs ws lns) (_:hs.9<=10000) (_:ws.9<=10000) (_:lns.9<=10000) (_:(∀l∈lns,l.9<=10000)) (_:∀y H',a8 H H'->c9 K C (aO H H') y hs ws lns->Q (.ref y) H')
inductive IK(K:Z6)(C CS:Addr)(vs:List V)(H:Hp)(Q:VK)(eK:XK):Prop
 |mk (x dx d z:Addr) (u v:V) (m:List (Str×Int)) (rJ:List zV) (ks:List Nat) (hs:List Str) (ws:List Int) (lns:List (List (Str×Nat))) (_:vs=[.ref x,.ref d,u,v,.ref z]) (_:H x=ρ (.ins C dx [])) (_:Rd H d (.dK (b9 m))) (_:bh K H (.lst (rJ.map uE)) u) (_:bh K H (fL (nI ks)) v) (_:c9 K CS H z hs ws lns) (_:hs.9<=10000) (_:ws.9<=10000) (_:lns.9<=10000) (_:(∀l∈lns,l.9<=10000)) (_:rJ.9<=10000) (_:∀a b c y H',H' x=ρ (.ins C dx (qZ a b c y))->H a=τ->H' a=ρ (.dK (b9 m))->bh K (aO H H') (.lst (rJ.map uE)) (.ref b)->bh K (aO H H') (fL (nI ks)) (.ref c)->c9 K CS (aO H H') y hs ws lns->(∀b o,H b=ρ o->b≠x->H' b=ρ o)->Q .non H')
inductive D8(K:Z6)(C CS:Addr)(vs:List V)(H:Hp)(Q:VK)(eK:XK):Prop
 |mk (x m rJ ks hs ws lns) (_:vs=[.ref x]) (_:pO K C CS H x m rJ ks hs ws lns) (_:hs.9<=10000) (_:ws.9<=10000) (_:lns.9<=10000) (_:(∀l∈lns,l.9<=10000)) (_:∀y H',a8 H H'->c9 K CS (aO H H') y hs ws lns->Q (.ref y) H')
def SY(CX:Addr)(g:Str)(bw ss:List Str)(many:Int)(n:Nat)(H:Hp)(E:XK):Prop:=∀(k:Nat) (d:Addr) (H':Hp),Hf g bw ss many n 24 (.int (k:Nat))->a8 H H'->H d=τ->H' d=ρ (.xd [("length",.int (k:Nat)),("rows",.int (eL g bw ss (k*n) ""))])->E (.ref CX) (ρ d) H'
inductive IL(C CX:Addr)(vs:List V)(H:Hp)(Q:VK)(E:XK):Prop
 |mk (x:Addr) (many:Int) (n:Nat) (g:Str) (bw ss ls:List Str) (_:vs=[.ref x,.int many,.int (n:Int)]) (_:bE C H x g bw ss ls) (_:g.9<=10) (_:ss.9<=900) (_:eT g.length many n) (_:(D2 g bw ss many n->∀H',a8 H H'->Q .non H')) (_:SY CX g bw ss many n H E)
section
variable{w:World}{K:Z6}
inductive IM(K:Z6)(vs:List V)(H:Hp)(Q:VK)(eK:XK):Prop
 |mk (r a ws) (_:vs=[.str r,.ref a]) (_:aM K H a (ws.map V.str)) (_:ws.9<=1000) (_:∀H',a8 H H'->Q (.bl (bears ws r)) H')
inductive IP(K:Z6)(vs:List V)(H:Hp)(Q:VK)(eK:XK):Prop
 |mk (a:Addr) (g:Str) (ws:List Str) (_:vs=[.ref a,.str g]) (_:aM K H a (ws.map V.str)) (_:ws.9<=6) (_:(∀w∈ws,jV g w)) (_:∀H',a8 H H'->Q .non H')
inductive FU(K:Z6)(vs:List V)(H:Hp)(Q:VK)(eK:XK):Prop
 |mk (a ws) (_:vs=[.ref a]) (_:aM K H a (ws.map V.str)) (_:ws.9<=6) (_:(∀w∈ws,w.9<=5)) (_:∀(l:Addr) (ss:List Str) (H':Hp),a8 H H'->H l=τ->H' l=ρ (.lst (ss.map V.str))->ss.Perm (cQ ws "" ws)->ş ss=true->Q (.ref l) H')
inductive IQ(K:Z6)(vs:List V)(H:Hp)(Q:VK)(eK:XK):Prop
 |mk (p g a b ws ps) (_:vs=[.str p,.str g,.ref a,.ref b]) (_:aM K H a (ws.map V.str)) (_:aM K H b (ps.map V.str)) (_:("":Str)∈ps) (_:p.9<=100) (_:g.9<=10) (_:(ch g).Nodup) (_:ws.9<=1000) (_:∀(d:Addr) (H':Hp),a8 H H'->H d=τ->H' d=ρ (.dK (rowOf g ws ps p))->Q (.ref d) H')
inductive L7(K:Z6)(C:Addr)(vs:List V)(H:Hp)(Q:VK)(eK:XK):Prop
 |mk (x dx g a ws) (_:vs=[.ref x,.str g,.ref a]) (_:H x=ρ (.ins C dx [])) (_:aM K H a (ws.map V.str)) (_:vM g) (_:ws.9<=6) (_:(∀w∈ws,jV g w)) (_:∀(ss ls:List Str) (H':Hp),bE C H' x g ws ss ls->(∀b o,H b=ρ o->b≠x->H' b=ρ o)->Q .non H')
theorem D9(hw:∀w∈ws,w.9<=5):∀k∈cQ ws "" ws,k.9<=5:=by
 have h1:∀(w:Str),w.9<=5->∀(n:Nat) (ks:List Str),(∀k∈ks,k.9<=5)->∀k∈upTo ws w ks n,k.9<=5:=by
  intro w vU n
  induction n with
  |zero=>intro ks h;exact h
  |succ n ih=>
   intro ks h k hk;rw[fP]at hk;unfold pJ x8 at hk;split at hk
   .exact ih ks h k hk
   .split at hk
    .exact ih ks h k hk
    .rcases ZH.mp hk with z |z
     .exact ih ks h k z
     .have:k=iN w (1+n):=by simpa using z
      rw[this];exact Zn (CI _ _) vU
 have h2:∀(us ks:List Str),(∀w∈us,w.9<=5)->(∀k∈ks,k.9<=5)->∀k∈us.foldl (addW ws) ks,k.9<=5:=by
  intro us
  induction us with
  |nil=>intro ks _ h;exact h
  |cons w us ih=>intro ks hu h;exact ih _ (λv hv=>hu v (Zh _ hv)) (h1 w (hu w (Zm ..)) _ ks h)
 exact h2 ws [""] hw (λk hk=>by have:k="":=by simpa using hk
                                subst this
                                decide+kernel)
end
end _S
namespace K34
section
variable{w:World}{K:Z6}
structure Txt(mg:Str->Option Value):Prop where
 «ValueError»:mg "ValueError"=τ
 «abs»:mg "abs"=τ
 «all»:mg "all"=τ
 «any»:mg "any"=τ
 «bool»:mg "bool"=τ
 «dict»:mg "dict"=τ
 «enum»:mg "enumerate"=τ
 «int»:mg "int"=τ
 «ji»:mg "isinstance"=τ
 «len»:mg "len"=τ
 «list»:mg "list"=τ
 «max»:mg "max"=τ
 «min»:mg "min"=τ
 «range»:mg "range"=τ
 «set»:mg "set"=τ
 «sorted»:mg "sorted"=τ
 «str»:mg "str"=τ
 «sum»:mg "sum"=τ
 «tuple»:mg "tuple"=τ
inductive Vv(g:Str)(ws ss:List Str)(ev:List (Str×Addr))(o:Obj)(x de lt:Addr)(n:Int)(H:Hp)(i:Nat)(σ:St)(H4:Hp):Prop
 |mk (ts:List Addr) (dc:Addr) (v4 v6 v7:Option V) (_:σ=[ρ (.ref x),ρ (.int n),ρ (.ref de),ρ (.ref dc),v4,ρ (.ref lt),v6,v7]) (_:ts.9=i+1) (_:ts[i]?=ρ dc) (_:H4 lt=ρ (.lst (ts.map V.ref))) (_:∀j t,ts[j]?=ρ t->H4 t=ρ (.dK (KZ g ws ss j))) (_:H4 de=ρ (.frz o (.dK (bM ev)))) (_:∀m∈ev,H4 m.2=ρ (.lst ((gq g ws ss m.1).map V.str))) (_:a8 H H4)
noncomputable def tm(hs:List Str)(ws:List Int)(lns:List (List (Str×Nat))):gi:=.tup [jA hs,fL ws,gu lns]
inductive IU(K:Z6)(vs:List V)(H:Hp)(Q:VK)(eK:XK):Prop
 |mk (al aw an:Addr) (d:Nat) (ns ws:List Int) (lns:List (List (Str×Nat))) (qs:List (Str×Nat)) (_:vs=[.ref al,.ref aw,.int (d:Int),.ref an]) (_:bh K H (gu lns) (.ref al)) (_:bh K H (fL ws) (.ref aw)) (_:aM K H an (ns.map V.int)) (_:lns[d]?=ρ qs) (_:qs.9<=10000) (_:(∀q∈qs,q.2<ws.9)) (_:∀(p ls lo lu:Addr) (H':Hp),a8 H H'->H' p=ρ (.tup [.ref ls,.ref lo,.ref lu])->bh K H' (bx (aI ns qs)) (.ref ls)->bh K H' (bx (aH ns qs)) (.ref lo)->H' lu=ρ (.lst [.int (aL ws (aI ns qs)),.int (aL ws (aH ns qs))])->Q (.ref p) H')
inductive L8(K:Z6)(vs:List V)(H:Hp)(Q:VK)(eK:XK):Prop
 |mk (ah aw al an:Addr) (d:Nat) (w:Int) (ns ws:List Int) (hs:List Str) (lns:List (List (Str×Nat))) (_:vs=[.ref ah,.ref aw,.ref al,.int (d:Int),.ref an,.int w]) (_:bh K H (jA hs) (.ref ah)) (_:bh K H (fL ws) (.ref aw)) (_:bh K H (gu lns) (.ref al)) (_:aM K H an (ns.map V.int)) (_:BG hs ws lns) (_:d<hs.9) (_:∀(p:Addr) (H':Hp),a8 H H'->bh K H' (tm (cq hs d) (bF ws d w) (eR lns d ns)) (.ref p)->Q (.ref p) H')
theorem vV:∀g:List (Str×Nat),j5 (g.map eF)<=1
 |[]=>ZE _
 |q::g=>by
  show max (dep (eF q)) (j5 (g.map eF))<=1;exact whq.mpr {Zf 1,vV g}
theorem tq:∀lns:List (List (Str×Nat)),j5 (lns.map bx)<=2
 |[]=>ZE _
 |l::lns=>by
  show max (dep (bx l)) (j5 (lns.map bx))<=2;refine whq.mpr {?_,tq lns};show j5 (l.map eF)+1<=2;have:=vV l;omega
inductive Ag(K:Z6)(C:Addr)(vs:List V)(H:Hp)(Q:VK)(eK:XK):Prop
 |mk (x v hs ws lns) (_:vs=[.ref x,v]) (_:c9 K C H x hs ws lns) (_:bh K H (tm hs ws lns) v) (_:hs.9<=10000) (_:ws.9<=10000) (_:lns.9<=10000) (_:∀H',a8 H H'->Q (.bl true) H')
theorem xi{α:Type}(f:α->V):∀g:List α,j5 (g.map λz=>gi.at (f z))<=0
 |[]=>Zf _
 |z::g=>by
  show max (dep (gi.at (f z))) (j5 (g.map λz=>gi.at (f z)))<=0;exact whq.mpr {Zf 0,xi f g}
theorem Ah(hs:List Str)(ws:List Int)(lns:List (List (Str×Nat))):j5 [jA hs,fL ws,gu lns]<=50:=by
 show max (dep (jA hs)) (max (dep (fL ws)) (max (dep (gu lns)) 0))<=50;have a:dep (jA hs)<=1:=wdv (xi V.str hs);have b:dep (fL ws)<=1:=wdv (xi V.int ws);have c:dep (gu lns)<=3:=wdv (tq lns);omega
theorem yu{many w:Int}{ws:List Int}{lns:List (List (Str×Nat))}{d:Nat}{ns:List Int}(h:cE ws lns many (d:Int) ns w=true):d<lns.9/\(∀i∈ns,0<=i/\i<((lns.getD d []).9:Int))/\aI ns (lns.getD d [])≠[]/\aH ns (lns.getD d [])≠[]/\1<=w/\w<ws.getD d 0/\many*w<=aL ws (aI ns (lns.getD d []))/\many*(ws.getD d 0-w)<=aL ws (aH ns (lns.getD d [])):=by
 unfold cE at h;simp only[è]at h
 let{b,c,e,f}:=h
 rw[Zy]at c e f
 let{g,j,k}:=jh e
 let{l,o,m}:=jh f
 unfold eA at b;rw[è]at b;have n:=of_decide_eq_true b.2;refine{1.0,λi hi=>?_,g,l,j,1.0,k,m};have a:=ZM.mp c i hi;unfold eA at a;rw[è]at a;exact{of_decide_eq_true a.1,of_decide_eq_true a.2}
inductive La(K:Z6)(vs:List V)(H:Hp)(Q:VK)(eK:XK):Prop
 |mk (t q d ns w many hs ws lns) (_:vs=[.ref t,.ref q,.int many]) (_:bh K H (uE (d,ns,w)) (.ref t)) (_:bh K H (tm hs ws lns) (.ref q)) (_:BG hs ws lns) (_:cE ws lns many (d:Int) (nI ns) w=true) (_:ns.9<=1000) (_:ns.Nodup) (_:0<=many) (_:many<=8) (_:∀H',a8 H H'->Q (.bl true) H')
inductive Qy(K:Z6)(x db:Addr)(many:Int)(n:Nat)(g:Str)(bw ss ls:List Str)(f:Str->Int)(rJ:List zV)(hs:List Str)(ws:List Int)(lns:List (List (Str×Nat)))(H:Hp)(j:Nat)(σ:St)(H3:Hp):Prop
 |mk (p v4 h1 w1 l1) (_:σ=[ρ (.ref x),ρ (.ref db),ρ (.int many),ρ (.ref p),v4]) (_:a8 H H3) (_:bh K H3 (tm h1 w1 l1) (.ref p)) (_:fi g bw ss ls many n f (rJ.take j) h1 w1 l1) (_:yk many hs ws lns h1 w1 l1 (rJ.drop j))
inductive Lb(C:Addr)(vs:List V)(H:Hp)(Q:VK)(eK:XK):Prop
 |mk (x:Addr) (many:Int) (n:Nat) (g:Str) (ws ss ls:List Str) (most:Int) (r:Bool) (_:vs=[.ref x,.int many,.int (n:Int)]) (_:bE C H x g ws ss ls) (_:2<=g.9) (_:g.9<=10) (_:ss.9<=900) (_:eT g.length many n) (_:D2 g ws ss many n) (_:1<=most) (_:most<=9) (_:∀(m:Int) (h:Str->Int),1<=m->m<most->jB g ws ss ls many n m h->(ls.map h).sum=0) (_:(most=9/\r=true)\/(most<=8/\∀h,jB g ws ss ls many n most h->0<(ls.map h).sum/\r=decide (40<(ls.map h).sum))) (_:∀H',a8 H H'->Q (.bl r) H')
inductive Lc(C CX:Addr)(vs:List V)(H:Hp)(Q:VK)(eK:XK):Prop
 |mk (e d x:Addr) (kk:Nat) (many:Int) (n:Nat) (g:Str) (ws ss ls:List Str) (_:vs=[.ref e,.ref x,.int many,.int (n:Int)]) (_:H e=ρ (XC e CX (ρ d))) (_:H d=ρ (.xd [("length",.int (kk:Nat)),("rows",.int (eL g ws ss (kk*n) ""))])) (_:bE C H x g ws ss ls) (_:g.9<=10) (_:ss.9<=900) (_:eT g.length many n) (_:Hf g ws ss many n 24 (.int (kk:Nat))) (_:∀H',a8 H H'->Q (.bl true) H')
theorem BR(h:Hf g ws ss many n most v){k:Nat}(e:v=.int (k:Nat)):eL g ws ss (k*n) "" < many^k/\1<=k/\(k:Int)<=most/\∀j:Nat,1<=j->j<k->¬eL g ws ss (j*n) "" < many^j:=by
 cases h with
 |some i a b c d=>
  obtain rfl:i=k:=by have:=V.int.inj e;lia
  exact⟨c,a,b,d⟩
 |none=>cases e
theorem IV(a:Hf g ws ss many n most v){k:Nat}(b:Hf g ws ss many n most (.int (k:Nat))):v=.int (k:Nat):=by
 let{e,f,h,j}:=BR b rfl
 cases a with
 |some i a b c d=>
  rcases wgU i k with z |z |z
  .exact absurd c (j i a z)
  .rw[z]
  .exact absurd e (d k f z)
 |none a=>exact absurd e (a k f h)
inductive Ld(C:Addr)(vs:List V)(H:Hp)(Q:VK)(eK:XK):Prop
 |mk (x:Addr) (many:Int) (n:Nat) (g:Str) (bw ss ls:List Str) (_:vs=[.ref x,.int many,.int (n:Int)]) (_:bE C H x g bw ss ls) (_:∀w∈bw,1<=w.9) (_:(ch g).Nodup) (_:2<=g.9) (_:g.9<=4) (_:ss.9<=60) (_:eT g.length many n) (_:∀H',a8 H H'->Q (.bl true) H')
theorem iz.app{g a b:Str}(h:iz g a m)(i:iz g b n):iz g (a++b) (m+n):={by rw[len_app,h.1,i.1],λc hc=>by
 rw[bD]at hc;rcases ZH.mp hc with z |z
 .exact h.2 c z
 .exact i.2 c z}
end
end K34
namespace _B
theorem tu{α:Type}[DecidableEq α]:∀{g l:List α},g.Nodup->(∀k∈g,k∈l)->g.9<=l.9
 |[],l,_,_=>ZE _
 |k::g,l,nd,h=>by
  rw[Ü]at nd;have hk:=h k (Zm ..);have:=tu (l:=l.erase k) nd.2 λj a=>(wg2 (λz=>nd.1 (by rw[<-z];exact a))).mpr (h j (Zh _ a));rw[weX hk]at this;have:0<l.9:=List.length_pos_of_mem hk;rw[ZP]
  lia
structure mU(H:Hp)(db:Addr)(o:Obj)(ev:List (Str×Addr))(Bf:Str->List (Str×Str))(ls:List Str):Prop where
 d:H db=ρ (.frz o (.dK (bM ev)))
 k:ev.map (·.1)=ls
 r:∀q∈ev,∃rs,cD H q.2 rs (Bf q.1)
 e:∀p,∀q∈Bf p,q.2∈ls
 n:∀p,(Bf p).9<=1000
 nd:ls.Nodup
 few:ls.9<=60
theorem FV{l:List Str}(nd:l.Nodup){i j:Nat}{r:Str}(o:l[i]?=ρ r)(p:l[j]?=ρ r):i=j:=by
 let{a,c}:=Za.mp o
 let{b,d}:=Za.mp p
 exact(ň nd).mp (c.trans d.symm)
theorem tD(p:Str)(z:Str×Nat)(f:Str->List (Str×Nat)):∀hs:List Str,hs.Nodup->hX p z hs (hs.map f)=if p∈hs then(f p).count z else 0
 |[],_=>rfl
 |h::hs,nd=>by
  rw[Ü]at nd;show (if h=p then(f h).count z else 0)+hX p z hs (hs.map f)=_;rw[tD p z f hs nd.2]
  by_cases e:h=p
  .subst e;rw[if_pos rfl,if_neg nd.1,if_pos (Zm ..)];omega
  .rw[if_neg e]
   by_cases a:p∈hs
   .rw[if_pos a,if_pos (Zh _ a)];omega
   .rw[if_neg a,if_neg (λz=>(ZD.mp z).elim (λq=>e q.symm) a)]
theorem Ai{g:List (Str×Str)}{hs:List Str}(nd:g.Nodup)(hn:hs.Nodup)(w:Str)(e:Nat) :
 (((g.filter λq=>decide (q.2∈hs)).map λq=>(q.1,hs.idxOf q.2)):List (Str×Nat)).count (w,e)=if e<hs.9/\(w,hs.getD e "")∈g then 1 else 0:=by
 have inj:∀q∈g.filter (λq=>decide (q.2∈hs)),((q.1,hs.idxOf q.2):Str×Nat)=(w,e)↔(e<hs.9/\q=(w,hs.getD e "")):=λq d=>by
  have h:q.2∈hs:=of_decide_eq_true (ZG.mp d).2
  let{c,s}:=iO h
  let{a,b}:=q
  have c:hs[hs.idxOf b]?=ρ b:=c;constructor
  .intro z;simp only[wg6]at z
   let{rfl,rfl}:=z
   refine{(Za.mp c).1,?_};rw[Z8,c];rfl
  .rintro⟨m,z⟩;simp only[wg6]at z
   let{rfl,n}:=z
   have i:hs[e]?=ρ b:=by rw[n,Z8,Z5 m];rfl
   rw[FV hn c i]
 have gen:∀L:List (Str×Str),L.Nodup->(∀q∈L,((q.1,hs.idxOf q.2):Str×Nat)=(w,e)↔(e<hs.9/\q=(w,hs.getD e "")))->(L.map λq=>((q.1,hs.idxOf q.2):Str×Nat)).count (w,e)=if e<hs.9/\(w,hs.getD e "")∈L then 1 else 0:=by
  intro L
  induction L with
  |nil=>intro _ _;rw[if_neg (λz=>nomatch z.2)];rfl
  |cons q L o=>
   intro nd d;rw[Ü]at nd;rw[Zw,cnt_cons,o nd.2 λp j=>d p (Zh _ j)];have k:=d q (Zm ..)
   by_cases f:((q.1,hs.idxOf q.2):Str×Nat)=(w,e)
   .let{r,l}:=k.mp f
    rw[if_pos f,if_neg (λz=>nd.1 (by rw[l];exact z.2)),if_pos {r,by rw[<-l];exact Zm ..}]
   .rw[if_neg f];refine(Nat.add_zero _).trans (Ng {λz=>{z.1,Zh _ z.2},λz=>{z.1,?_}});rcases ZD.mp z.2 with y |y
    .exact absurd (k.mpr ⟨z.1,y.symm⟩) f
    .exact y
 rw[gen _ (nd.filter _) inj];refine Ng {λz=>{z.1,(ZG.mp z.2).1},λz=>{z.1,ZG.mpr {z.2,decide_eq_true ?_}}};rw[Z8,Z5 z.1];exact ZQ _
theorem Aj(ws:List Int)(g:List (Str×Nat)){ns:List Nat}(nd:ns.Nodup)(j:∀n∈ns,n<g.9):aL ws (aI (ns.map λn:Nat=>(n:Int)) g)=(ns.map λi=>ws.getD (g.getD i ("",0)).2 0).sum:=by
 delta aI;rw[vG];refine F9 (List.Perm.map _ (zT ((List.nodup_range' ..).filter _) nd λx=>?_));rw[ZG,wgR,decide_eq_true_eq,Ze];constructor
 .rintro⟨_,n,hn,e⟩;have:n=x:=1.0;rw[<-this];exact hn
 .exact λz=>{{ZE _,by have:=j x z;omega},x,z,rfl}
theorem Dc{many h w:Int}{hs:List Str}{ws:List Int}{lns:List (List (Str×Nat))}(S:ia many hs ws lns){d i0:Nat}{g:List (Str×Nat)}{ns:List Nat}(J:∀w∈ws,w<=h)(hd:lns[d]?=ρ g)(hw:ws.getD d 0=h)(T:1<=many)
 (nd:ns.Nodup) (r:∀n∈ns,n<g.9) (t:ns≠[]) (I:(ns.9:Int)<=many) (o:(ns.9:Int)=many->i0∈ns) (C:ws.getD (g.getD i0 ("",0)).2 0<h)
 (j:(ns.map λi=>ws.getD (g.getD i ("",0)).2 0).sum=many*w):cE ws lns many (d:Int) (ns.map λn:Nat=>(n:Int)) w=true:=by
 have k:=S.w;have u:=S.l;have x:d<lns.9:=(Za.mp hd).1;have m:lns.getD d []=g:=by rw[Z8,hd];rfl
 have q:g∈lns:=Zv hd
 have a:∀i,i<g.9->ws.getD (g.getD i ("",0)).2 0∈ws:=λi hi=>by
  have e:g.getD i ("",0)=g[i]:=by rw[Z8,Z5 hi];rfl
  rw[e];exact iM (by rw[k];exact S.e g q _ (ZQ hi))
 have c:∀n∈ns,1<=ws.getD (g.getD n ("",0)).2 0:=λn hn=>S.p _ (a n (r n hn));have f:∀n∈ns,ws.getD (g.getD n ("",0)).2 0<=h:=λn hn=>J _ (a n (r n hn));have y:=sQ ns c t;rw[j]at y
 have A:1<=w:=by
  by_cases z:1<=w
  .exact z
  .have:=Int.mul_nonpos_of_nonneg_of_nonpos (show 0<=many by lia) (show w<=0 by lia)
   lia
 have M:1<=h:=by rw[<-hw];exact S.p _ (iM ())
 have N:w<h:=by
  have lt:many*w<many*h:=by
   rw[<-j]
   by_cases z:(ns.9:Int)=many
   .have:=t9 ns f (o z) C;rw[z]at this;exact this
   .have B:=mP ns f;have D:((ns.9:Int)+1)*h<=many*h:=Int.mul_le_mul_of_nonneg_right () ();rw[wfw]at D
    lia
  exact Int.lt_of_mul_lt_mul_left lt ()
 have s:=Aj ws g nd r;rw[j]at s;have O:=CD ws (ns.map λn:Nat=>(n:Int)) g;have b:=S.b d g hd;rw[hw]at b
 have E:many*(h-w)<=aL ws (aH (ns.map λn:Nat=>(n:Int)) g):=by
  rw[Int.mul_sub]
  lia
 have part:∀(l:List (Str×Nat)) (v:Int),1<=v->many*v<=aL ws l->eQ ws many l v=true:=λl v G hl=>by
  have hn:l≠[]:=λz=>by
   rw[z]at hl;have B:many*v<=0:=hl;have:=Int.mul_pos (show 0<many by lia) (show 0<v by lia)
   lia
  unfold eQ;rw[decide_eq_true G,decide_eq_true hl]
  cases l with
  |nil=>exact absurd rfl hn
  |cons _ _=>rfl
 unfold cE;rw[Zy,m,hw,part _ w A (Int.le_of_eq s.symm),part _ (h-w) () E];have H:eA (d:Int) lns.9=true:=by unfold eA;rw[decide_eq_true (),decide_eq_true ()];rfl
 have L:(ns.map λn:Nat=>(n:Int)).all (λi=>eA i g.9)=true:=ZM.mpr λi hi=>by
  let{n,hn,rfl}:=Ze.mp hi
  have:=r n hn;unfold eA;rw[decide_eq_true (),decide_eq_true ()];rfl
 rw[H,L];rfl
theorem kn{n:Nat}{g:List Nat}(nd:g.Nodup)(h:∀r∈g,r<n):g.9<=n:=by
 have:=tu nd λr a=>Í.mpr (h r a);rwa[ZJ]at this
theorem Ak{many:Int}{p:Nat->Int}{n:Nat}(g:0<many)(hn:(n:Int)=many)(hd:∀i k,i<k->k<=n->p i%many≠p k%many):False:=by
 have nd:((ZF (n+1)).map λi=>(p i%many).toNat).Nodup:=nodup_map_on whc λa ha b c e=>by
  have ha:=Í.mp ha;have c:=Í.mp c;have a0:=ģ (p a) (show many≠0 by lia);have f:=ģ (p b) (show many≠0 by lia);have j:p a%many=p b%many:=by grind
  rcases wgU a b with h |h |h
  .grind
  .exact h
  .grind
 have:=kn (n:=n) nd λr d=>by
  let{i,1}:=Ze.mp d
  have a0:=ģ (p i) (show many≠0 by lia);have a1:=ţ (p i) g;show (p i%many).toNat<n
  lia
 rw[Z4,ZJ]at this
 lia
structure BU(g:Str)(ws ss ls:List Str)(many:Int)(n:Nat)(f:Str->Int):Prop where
 gr:∃most:Int,1<=most/\most<=8/\jB g ws ss ls many n most f/\∀(m:Int) (h:Str->Int),1<=m->m<most->jB g ws ss ls many n m h->(ls.map h).sum=0
 ps:0<(ls.map f).sum
 le:(ls.map f).sum<=40
def rM(g:Str)(ws ss ls:List Str)(many:Int)(n:Nat):Prop:=∃most:Int,1<=most/\most<=9/\(∀(m:Int) (h:Str->Int),1<=m->m<most->jB g ws ss ls many n m h->(ls.map h).sum=0)/\(most=9\/∃f,jB g ws ss ls many n most f/\40<(ls.map f).sum)
theorem Dd{f h:Str->Int}(a:jB g ws ss ls many n most f)(b:jB g ws ss ls many n most h):∀p∈ls,f p=h p:=λp c=>by
 have d:=a.top h b.le b.fit p c;have e:=b.top f a.le a.fit p c
 lia
theorem pP{f h:Str->Int}(a:jB g ws ss ls many n most f)(b:jB g ws ss ls many n most h):(ls.map f).sum=(ls.map h).sum:=congrArg List.sum (ú λp c=>Dd a b p c)
theorem FW(z:Str)(n:Nat):ch (é z (n:Int))=(Ġ n (ch z)).flatten:=by
 unfold é
 by_cases c:(n:Int)<1
 .rw[if_pos c];obtain rfl:n=0:=1.0;rfl
 .rw[if_neg c]
  by_cases a:((n:Int)==1 ||z.9==0)=true
  .rw[if_pos a];rcases Bool.or_eq_true_iff.mp a with b |b
   .obtain rfl:n=1:=by have:=eq_of_beq b;omega
    simp
   .rw[pH (eq_of_beq b)];simp
  .rw[if_neg a,Zy];exact Fs z n #[]
theorem IW(z:Str)(n:Nat):(é z (n:Int)).length=n*z.9:=by
 rw[<-b7,FW,wgk,List.map_replicate,List.sum_replicate_nat,b7]
theorem Le(z:Str)(n:Nat):∀c∈ch (é z (n:Int)),c∈ch z:=λc h=>by
 rw[FW]at h
 let{l,b,a}:=List.mem_flatten.mp h
 rw[(List.mem_replicate.mp b).2]at a;exact a
section
variable{g:Str}
theorem vW(nd:(ch g).Nodup):∀n,(KS g n).Nodup
 |0=>Ü.mpr {λz=>(nomatch z),ξ}
 |n+1=>by
  show ((ch g).flatMap λc=>(KS g n).map λr=>({#[c]}:Str)++r).Nodup;have l:=vW nd n
  have key:∀f:List Nat,f.Nodup->(f.flatMap λc=>(KS g n).map λr=>({#[c]}:Str)++r).Nodup:=by
   intro f
   induction f with
   |nil=>intro _;exact ξ
   |cons c f i=>
    intro hn;rw[Ü]at hn;rw[Δ];refine wez.mpr {?_,i hn.2,λa ha b m z=>?_}
    .refine List.Pairwise.map _ ?_ l;intro a b j z;have:=congrArg ch z;rw[bD,bD]at this;exact j (fB (List.append_cancel_left this))
    .let{r,1}:=Ze.mp ha
     let{d,hd,k}:=Ν.mp m
     let{q,1}:=Ze.mp k
     have:=congrArg ch z;rw[bD,bD,Fl,Fl]at this
     have e:c=d:=by
      have h:=this;rw[wfI,wfI]at h;exact(wgc h).1
     exact hn.1 (by rw[e];exact hd)
  exact key _ nd
end
end _B
namespace _L
open PySem.Spec PyProof.Rows
section
variable{P:ZC}{w:World}{K:Z6}{mg:Str->Option Value}{base:Heap}{x qual:Str}{st:Stmt}{f:Addr}{fd:Ë}{N ps:List Str}{k:Nat}{sp:Sp}
theorem xO.dP(F:xO K x qual st f fd)
 (l:∀(j:Value) (A:Around) (outer:List Env) (s:Shared) (H:Hp) (vs:List V) (Q:VK) (E:XK),N.Nodup->d5 k (A.deeper (envOfC qual (aD st) s.heap.objs.size f j))->sp vs H Q E ->
   ∃t,vp (pD cY P w K mg base N qual (aD st) f j A outer s H E).Hs (cC st) t/\t (Ends.fn Q) (start N vs) H)
 (a:(aD st).kind=.function:=by rfl) (b:(aD st).isCoroutine=false:=by rfl) (c:(aD st).isGenerator=false:=by rfl) (nd:N.Nodup:=by decide+kernel) (e:N.take ps.9=ps:=by rfl)
 (g:∀x∈ps,(aD st).names.lookup x=ρ .local\/(aD st).names.lookup x=ρ .cell:=by decide+kernel) (h:∀y∈(aD st).names,y.2≠.free:=by decide+kernel)
 (len:∀vs H Q E,sp vs H Q E->vs.9=ps.9:=by intro _ _ _ _ h;cases h;subst_vars;rfl):aW P w K mg base cY (k+1) f fd ps sp:=
 F.ok ⟨a,b,c,nd,e,g,h⟩ len λj A outer s H vs Q E=>l j A outer s H vs Q E nd
theorem xO.FX(F:xO K x qual st f fd)
 (l:∀(j:Value) (A:Around) (outer:List Env) (s:Shared) (H:Hp) (vs:List V) (Q:VK) (E:XK),N.Nodup->d5 k (A.deeper (envOfC qual (aD st) s.heap.objs.size f j))->sp vs H Q E ->
   ∃t,vp (pD (z9 P w) P w K mg base N qual (aD st) f j A outer s H E) (cC st) t/\t (Ends.fn Q) (start N vs) H)
 (a:(aD st).kind=.function:=by rfl) (b:(aD st).isCoroutine=false:=by rfl) (c:(aD st).isGenerator=false:=by rfl) (nd:N.Nodup:=by decide+kernel) (e:N.take ps.9=ps:=by rfl)
 (g:∀x∈ps,(aD st).names.lookup x=ρ .local\/(aD st).names.lookup x=ρ .cell:=by decide+kernel) (h:∀y∈(aD st).names,y.2≠.free:=by decide+kernel)
 (len:∀vs H Q E,sp vs H Q E->vs.9=ps.9:=by intro _ _ _ _ h;cases h;subst_vars;rfl):aW P w K mg base (z9 P w) (k+1) f fd ps sp:=
 F.Vu ⟨a,b,c,nd,e,g,h⟩ len λj A outer s H vs Q E=>l j A outer s H vs Q E nd
theorem gd{ss:List Str}(nd:ss.Nodup){i:Nat}{p:Str}(h:ss[i]?=ρ p):p∉ss.take i:=by
 intro b
 let{j,c,a}:=wdS.mp b
 rw[Μ]at a;rw[Zq]at c;have d:=(Za.mp h).2;have:=(ň nd).mp (a.trans d.symm)
 lia
theorem cA.same(t:cA H j g)(s:a8 H l):cA l j g:=t.keep λr a h=>s _ _ h
theorem Rd.same(h:Rd H a u)(s:a8 H g):Rd g a u:=by
 rcases h with h |⟨o,h⟩
 .exact .inl (s _ _ h)
 .exact .inr {o,s _ _ h}
theorem tE{xs:Array Nat}(g:zq xs)(j:Nat):∀fuel lo hi,hi-lo<=fuel->lo<=hi->hi<=xs.size->(∀i a,i<lo->xs[i]?=ρ a->a<j)->(∀i a,hi<=i->xs[i]?=ρ a->j<=a)->Parts xs j (wgV xs j fuel lo hi)
 |0,lo,hi,l,m,c,d,f=>by
  obtain rfl:lo=hi:=1.0;exact⟨c,d,f⟩
 |fuel+1,lo,hi,l,m,c,d,f=>by
  unfold wgV
  by_cases hl:lo<hi
  .rw[if_pos hl];dsimp only;have k:(lo+hi)/2<xs.size:=1.0;have em:xs[(lo+hi)/2]?=ρ xs[(lo+hi)/2]:=ZO k;have n:xs.getD ((lo+hi)/2) j=xs[(lo+hi)/2]:=by simp[wg0,k]
   rw[n];split
   .rename_i b;refine tE g j fuel _ _ 1.0 1.0 c (λi a h e=>?_) f
    by_cases q:i=(lo+hi)/2
    .subst q;rw[em]at e;cases e;exact b
    .exact Nat.lt_trans (g i _ _ _ 1.0 e em) b
   .rename_i o;refine tE g j fuel _ _ 1.0 1.0 1.0 d (λi a h e=>?_)
    by_cases q:i=(lo+hi)/2
    .subst q;rw[em]at e;cases e;omega
    .have:=g _ i _ _ 1.0 em e;omega
  .rw[if_neg hl];obtain rfl:lo=hi:=1.0;exact⟨c,d,f⟩
theorem nQ{xs:Array Nat}(g:zq xs)(j:Nat):Parts xs j (æ xs j):=
 tE g j _ _ _ 1.0 (ZE _) (Zf _) (λi a h _=>absurd h (Ť _)) (λi a h e=>by
  have:=(ŗ.mp e).1
  omega)
theorem De(t:Ã)(p:whu):(t.advance p).dummy=p.dummy:=by
 unfold SetTable.advance;split<;>rfl
theorem FY{t:Ã}(hd:t.dummies=#[])(j:Nat):t.slot j≠.dummy:=by
 unfold whx;dsimp only;split
 .intro h;cases h
 .rw[hd];have:wgF #[] j=false:=rfl;rw[this];intro h;cases h
theorem Al{t:Ã}{j:Nat}(h:t.slot j=.empty):t.place[æ t.place j]?≠ρ j:=by
 unfold whx at h;dsimp only at h;split at h
 .cases h
 .rename_i q;intro z;rw[z]at q;exact q (by simp)
theorem yw{t:Ã}(hd:t.dummies=#[]){hashAt:Nat->Int}{h:Int}:∀(fuel:Nat) (p:whu) (j:Nat) (d:Option Nat),p.dummy=τ->wgW t hashAt h fuel p=ρ (.empty j d)->d=τ/\t.slot j=.empty
 |0,p,j,d,_,e=>nomatch e
 |fuel+1,p,j,d,b,e=>by
  unfold wgW at e;split at e
  .rename_i a;cases e;exact⟨b,a⟩
  .rename_i a;exact absurd a (FY hd _)
  .split at e
   .cases e
   .exact yw hd fuel _ j d ((De t p).trans b) e
theorem yx{t:Ã}(hd:t.dummies=#[]){h:Int}{j:Nat}{g:Bool}(e:t.freeSlot h=ρ (j,g)):g=false/\t.slot j=.empty:=by
 unfold SetTable.freeSlot at e;split at e
 .rename_i c d a;unfold SetTable.probe at a
  let{rfl,b}:=yw hd _ _ _ _ rfl a
  cases e;exact⟨rfl,b⟩
 .cases e
theorem Df(t:Ã)(j:Array (Int×Value))(g:Nat):jw (relayAll t j g).2.1 (relayAll t j g).1.size/\(relayAll t j g).2.1.led=t.led:=by
 unfold relayAll;split
 .rename_i b order e;dsimp only;split
  .rename_i hc;have a:=(wcM.mp hc).2;unfold SetTable.relaid SetTable.laid at e
   cases q:SetTable.layClean (SetTable.sizeAbove g-1) (j.map (·.1)) with
   |none=>rw[q]at e;cases e
   |some owner=>
    rw[q]at e;cases e;refine{{?_,CZ (Cm _ _),rfl},rfl};unfold SetTable.fits at a;exact eq_of_beq (wcM.mp a).1
  .exact{i7 _ _,rfl}
 .exact{i7 _ _,rfl}
end
section
variable{X:Cx}{e:Expr}{te:TE}{pos p:Pos}
theorem FZ(g:X.mg "len"=τ)(h:PE X e te)(j:Gl X "len":=by rfl)(he:starEach [e] X.5=(false,eval e X.5)::starEach [] X.5:=by rfl)(hpl:(backTo pos (starEach [] X.5)).any (·.1)=false:=by rfl) :
 PE X (.Call (.Name "len" p) [e] [] pos) (Ov (λxs H Q=>∃z,xs=[.str z]/\z.9<=sizeLine/\Q (.int z.9) H) (Bk te Ce)):=ak wN j g Ī (a5 h dS he) (he:=he) (hpl:=hpl)
theorem za(g:X.mg "len"=τ)(h:PE X e te)(j:Gl X "len":=by rfl)(he:starEach [e] X.5=(false,eval e X.5)::starEach [] X.5:=by rfl)(hpl:(backTo pos (starEach [] X.5)).any (·.1)=false:=by rfl) :
 PE X (.Call (.Name "len" p) [e] [] pos) (Ov (λxs H Q=>∃p ys,xs=[.ref p]/\(aM X.K H p ys\/g8 X.K H p ys)/\Q (.int ys.9) H) (Bk te Ce)):=ak nv j g Ī (a5 h dS he) (he:=he) (hpl:=hpl)
end
section
variable{X:Cx}{H:Hp}{scope:Ð}{x x2 x3:Str}{ys:List Str}{ix:List Nat}{cl:List (Str×Addr)}{L:Addr}
theorem yy(hc:X.calm=true)(B:bQ X scope x ys ix)(g:bQ X scope x2 ys ix)(j:x≠x2)(cl L s H ex pn):PG (bq X scope ([x,x2]++ys) cl L s H ex pn) (.Tuple [.Name x o,.Name x2 l] p pt) (E7 X.K 2 (k4 (dA 0) (k4 (dA 1) E6))):=by
 have c:(relabel scope X.5).names.lookup x=ρ .local:=Ō B.var;have a:(relabel scope X.5).names.lookup x2=ρ .local:=Ō g.var
 have b:(x::x2::ys).Nodup:=by
  have:=B.nd;have:=g.nd
  grind
 exact dY hc (aK (j6 b rfl (.inl c) (.inr c)) (aK (j6 b rfl (.inl a) (.inr a)) cI))
theorem G0(hc:X.calm=true)(B:bQ X scope x ys ix)(g:bQ X scope x2 ys ix)(j:bQ X scope x3 ys ix)(l:x≠x2/\x≠x3/\x2≠x3)(cl L s H ex pn):PG (bq X scope ([x,x2,x3]++ys) cl L s H ex pn) (.Tuple [.Name x r,.Name x2 o,.Name x3 p] t pt) (E7 X.K 3 (k4 (dA 0) (k4 (dA 1) (k4 (dA 2) E6)))):=by
 have d:(relabel scope X.5).names.lookup x=ρ .local:=Ō B.var;have b:(relabel scope X.5).names.lookup x2=ρ .local:=Ō g.var;have c:(relabel scope X.5).names.lookup x3=ρ .local:=Ō j.var
 have a:(x::x2::x3::ys).Nodup:=by
  have:=B.nd;have:=g.nd;have:=j.nd
  grind
 exact dY hc (aK (j6 a rfl (.inl d) (.inr d)) (aK (j6 a rfl (.inl b) (.inr b)) (aK (j6 a rfl (.inl c) (.inr c)) cI)))
end
end _L
namespace _A
section
variable{W:List (List Nat)}{P:List Nat->Bool}{l:List Nat}{c:Nat}
def Good(W:List (List Nat))(l:List Nat):Prop:=∀w∈W,¬w <:+: l
noncomputable def jj(P:List Nat->Bool):List Nat->List Nat
 |[]=>[]
 |a::l=>if P (a::l)=true then a::l else jj P l
theorem iP:∀l,jj P l <:+ l
 |[]=>weY _
 |a::l=>by
  unfold jj;split
  .exact weY _
  .exact(iP l).trans (List.suffix_cons a l)
theorem tF(g:P []=true):∀l,P (jj P l)=true
 |[]=>g
 |a::l=>by
  unfold jj;split
  .assumption
  .exact tF g l
theorem Am(h:w <:+: l++[c]):w <:+: l\/w <:+ l++[c]:=by
 let{a,b,e}:=h
 rcases wfJ b with f |⟨g,d,f⟩
 .right
  subst f;exact{a,by rw[<-e,Ó]}
 .left
  rw[wfK]at f;subst f;rw[<-ZU]at e;exact{a,g,(whf e rfl).1}
end
section
variable{W:List (List Nat)}{p l u:List Nat}{c:Nat}{P:List Nat->Bool}{q:List Nat}
def Pl(W:List (List Nat))(p:List Nat):Prop:=p=[]\/((∃w∈W,p <+: w/\p.9<w.9)/\Good W p)
theorem G1(g:p <:+ q)(j:q <:+ p):p=q:=g.eq_of_length (wfi g.length_le j.length_le)
end
section
variable{W:List (List Nat)}{l m:List Nat}
theorem Good.sub(h:Good W l)(hs:m <:+: l):Good W m:=λw hw hi=>h w hw (hi.trans hs)
end
section
variable{W:List (List Nat)}{u:List Nat}{c:Nat}{P:List Nat->Bool}{l q:List Nat}
theorem Pl.init(h:Pl W (u++[c])):Pl W u:=by
 rcases h with h |⟨⟨w,hw,a,hl⟩,b⟩
 .simp at h
 .by_cases e:u=[]
  .exact .inl e
  .refine .inr {{w,hw,(web u [c]).trans a,?_},b.sub (web u [c]).isInfix};rw[Zd]at hl;simp at hl
   lia
theorem iQ(g:P q=true):∀{l},q <:+ l->q <:+ jj P l
 |[],h=>h
 |a::l,h=>by
  unfold jj;split
  .exact h
  .rename_i hn;rcases List.suffix_cons_iff.mp h with e |h
   .rw[<-e]at hn;exact absurd g hn
   .exact iQ g h
end
section
variable{l q u:List Nat}{c:Nat}
theorem yz:∀{q l:List Nat},q <:+ l++[c]->q=[]\/∃u,q=u++[c]/\u <:+ l:=λ{q l} h=>by
 rcases wfJ q with e |⟨u,d,e⟩
 .exact .inl e
 .right
  rw[wfK]at e
  let{t,a}:=h
  subst e;rw[<-ZU]at a;have b:=whf a rfl;have hd:d=c:=by simpa using b.2
  exact{u,by rw[hd],t,b.1}
end
section
variable{W:List (List Nat)}{P:List Nat->Bool}{l:List Nat}{c:Nat}
theorem Dg(o:∀x,P x=true↔Pl W x)(j:Good W l)(g:∀w∈W,w≠[]):Good W (jj P l++[c])↔Good W (l++[c]):=by
 have f:=iP (P:=P) l;constructor
 .intro h w hw hi;rcases Am hi with z |z
  .exact j w hw z
  .rcases yz z with e |⟨u,rfl,d⟩
   .exact g w hw e
   .have a:Pl W u:=by
     by_cases e:u=[]
     .exact .inl e
     .exact .inr {{_,hw,web u [c],by simp},j.sub d.isInfix}
    have:=iQ ((o u).mpr a) d
    let{t,b}:=this
    exact h _ hw (show u++[c] <:+ jj P l++[c] from {t,by rw[<-ZU,b]}).isInfix
 .intro h
  let{t,b}:=f
  exact h.sub (show jj P l++[c] <:+ l++[c] from {t,by rw[<-ZU,b]}).isInfix
theorem An(g:∀x,P x=true↔Pl W x)(j:Good W l):jj P (jj P l++[c])=jj P (l++[c]):=by
 have h:=iP (P:=P) l;have b:P []=true:=(g []).mpr (.inl rfl)
 have d:jj P l++[c] <:+ l++[c]:=by
  let{t,f}:=h
  exact{t,by rw[<-ZU,f]}
 refine G1 (iQ (tF b _) ((iP _).trans d)) (iQ (tF b _) ?_);rcases yz (iP (P:=P) (l++[c])) with e |⟨u,e,i⟩
 .rw[e];exact List.nil_suffix
 .have a:=(g _).mp (tF b (l++[c]));rw[e]at a ⊢
  let{t,f}:=iQ ((g u).mpr a.init) i
  exact{t,by rw[<-ZU,f]}
end
end _A
open _A
namespace _B
theorem dG(ws:List Str)(r:Str):bears ws r=false↔Good (wl ws) (ch r):=by simp_all [bears,Good,wl,wgN,Ij,ch]
theorem mem_keys:k∈cQ ws "" ws↔Pl (wl ws) (ch k):=by
 rw[uD];constructor
 .rintro(rfl |⟨w,hw,i,hi,e,b⟩)
  .exact .inl rfl
  .right
   refine{{ch w,Ze.mpr ⟨w,hw,rfl⟩,?_,?_},(dG ws k).mp b}
   .rw[e,rH];exact whd _ _
   .rw[e,rH,Zq,b7];omega
 .rintro(h |⟨⟨v,c,d,hl⟩,f⟩)
  .exact .inl (fB h)
  .by_cases a:ch k=[]
   .exact .inl (fB a)
   let{w,hw,rfl}:=Ze.mp c
   right
   rw[b7,b7]at hl;have g:k.length≠0:=λz=>a (pH z);refine{w,hw,k.9-1,1.0,fB ?_,(dG ws k).mpr f};rw[rH,show 1+(k.9-1)=k.length by omega,<-b7 k];exact(List.prefix_iff_eq_take.mp d)
theorem G2(g:ss.Perm (cQ ws "" ws))(l:List Nat):Nn ss l=true↔Pl (wl ws) l:=by
 have e:ch ⟨l.6⟩=l:=rfl;rw[<-e,je,g.mem_iff,mem_keys]
theorem vX{P:List Nat->Bool}(g:P []=true):∀{l:List Nat} {n:Nat},P (l.drop n)=true->(∀m,m<n->P (l.drop m)=false)->jj P l=l.drop n
 |[],n,_,_=>by simp[jj]
 |a::l,0,b,_=>by
  unfold jj;rw[wfL]at b;rw[if_pos b];rfl
 |a::l,n+1,b,c=>by
  have:=c 0 ();rw[wfL]at this;unfold jj;rw[this,if_neg (by simp),List.drop_succ_cons];exact vX g (by grind) λm d=>by grind
theorem lL(he:("":Str)∈ss)(r:Str):ch (lend ss r)=jj (Nn ss) (ch r):=by
 have c:∃n,n<=r.9/\gA r n∈ss/\∀m,m<n->gA r m∉ss:=by
  have f:∃n,gA r n∈ss:={r.9,by rw[pK];exact he}
  have key:∀k,(∃n,n<k/\gA r n∈ss/\∀m,m<n->gA r m∉ss)\/∀m,m<k->gA r m∉ss:=by
   intro k
   induction k with
   |zero=>right;intro m a;lia
   |succ k d=>
    rcases d with⟨n,hn,h⟩ |h
    .exact .inl {n,(),h}
    .by_cases hk:gA r k∈ss
     .exact .inl {k,(),hk,h}
     .right
      intro m a
      by_cases e:m=k
      .rw[e];exact hk
      .exact h m ()
  rcases key (r.9+1) with⟨n,hn,h⟩ |h
  .exact{n,(),h}
  .exact absurd (by rw[pK];exact he) (h r.length ())
 let{n,hn,a,hl}:=c
 unfold lend;rw[yc a hl hn,x9];refine(vX (je (k:="").mpr he) ?_ λm b=>?_).symm
 .rw[<-x9];exact je.mpr a
 .rw[<-x9];have:=hl m b;rw[<-je]at this;simpa using this
theorem yA(he:("":Str)∈ss)(r:Str):lend ss r∈ss:=by
 rw[<-je,lL he];exact tF (je (k:="").mpr he) _
theorem Dh(hw:∀w∈ws,1<=w.9):bears ws ""=false:=by
 refine(dG ws "").mpr λw a hi=>?_
 let{v,b,rfl}:=Ze.mp a
 have d:=hw v b;have c:=hi.length_le;rw[b7]at c;have:(ch ("":Str)).length=0:=rfl
 lia
theorem G3{g a b:Str}{k:Nat}(ha:jV g a)(j:jV g b)(hk:k<=4):jV g (ZZ a τ (ρ (k:Int))++ZZ b τ (ρ 1))/\(ZZ a τ (ρ (k:Int))++ZZ b τ (ρ 1)).9<=k+1:=by
 have e:ch (ZZ a τ (ρ (k:Int)))=(ch a).take k:=nG a k;have h:ch (ZZ b τ (ρ ((1:Nat):Int)))=(ch b).take 1:=nG b 1;have d:ch (ZZ a τ (ρ (k:Int))++ZZ b τ (ρ 1))=(ch a).take k++(ch b).take 1:=by rw[bD,e];congr 1
 have f:=j.lo;have l:(ZZ a τ (ρ (k:Int))++ZZ b τ (ρ 1)).9=min k a.9+min 1 b.9:=by rw[<-b7,d,Zd,Zq,Zq,b7,b7]
 refine{{(),(),λc hc=>?_},()};rw[d]at hc;rcases ZH.mp hc with z |z
 .exact ha.sub c (ś z)
 .exact j.sub c (ś z)
theorem Ao(he:("":Str)∈ss)(h:r∈pL g ws ss q):r.2∈ss/\r.1.9=q.1.9+1:=by
 unfold pL at h
 let{c,_,e}:=we7.mp h
 split at e
 .cases e
 .cases e;exact{yA he _,len_app _ _}
theorem yB(he:("":Str)∈ss)(j:p∈ss):∀n,∀r∈t6 g ws ss p n,r.2∈ss/\r.1.9=n
 |0,r,h=>by
  rw[Zz.mp h];exact⟨j,rfl⟩
 |n+1,r,h=>by
  let{q,a,b}:=Ν.mp h
  have:=Ao he b;have:=(yB he j n q a).2;exact{‹r.2∈ss/\_›.1,()}
theorem cD.same{H g:Hp}{l:Addr}{j:List Addr}{o:List (Str×Str)}(r:cD H l j o)(s:a8 H g):cD g l j o:={s _ _ r.l,r.t.same s}
theorem cD.push{H:Hp}{l:Addr}{g:List Addr}{j:List (Str×Str)}(R:cD H l g j){r:Addr}(o:H r=τ)(q:Str×Str):cD (upd (upd H r (.tup (jx q))) l (.lst (g.map V.ref++[.ref r]))) l (g++[r]) (j++[q]):=by
 have hl:(upd H r (.tup (jx q))) l=ρ (.lst (g.map V.ref)):=a8.upd o _ _ R.l;refine{by rw[a7,Zk];rfl,?_};rw[Zk];refine cA.keep ((R.t.same (a8.upd o)).snoc a7) λa b h=>?_;rw[af (λz=>by rw[z,hl]at h;cases h)];exact h
theorem mU.same{g:Str->List (Str×Str)}(b:mU H j o l g ls)(s:a8 H p):mU p j o l g ls:=
 {s _ _ b.d,b.k,λq a=>let ⟨c,h⟩:=b.r q a;{c,h.same s},b.e,b.n,b.nd,b.few}
theorem Hc.line{B:Str->List (Str×Str)}(h:Hc B hs lns)(hl:lns.9=hs.9)(g:∀p,(B p).9<=b):∀l∈lns,l.9<=b*hs.9:=by
 intro l j
 let{i,hi,e}:=ĥ j
 have f:lns[i]?=ρ l:=by rw[Z5 hi,e]
 have a:hs[i]?=ρ (hs[i]'1.0):=Z5 _;generalize hs[i]'1.0=p at a
 have one:∀z,l.count z<=1:=λz=>by
  have c:=xh (z:=z) a f;have d:=h p z.1 z.2;rw[show ((z.1,z.2):Str×Nat)=z from rfl]at d;rw[d]at c;split at c<;>omega
 have nd:l.Nodup:=wdO.mpr one
 have sub:∀z∈l,z∈((B p).map (·.1)).flatMap λw=>(ZF hs.9).map λe=>(w,e):=λz k=>by
  have c:=xh (z:=z) a f;have d:=h p z.1 z.2;rw[show ((z.1,z.2):Str×Nat)=z from rfl]at d;rw[d]at c;have m:0<l.count z:=wea.mpr k
  by_cases hc:z.2<hs.9/\p∈hs/\(z.1,hs.getD z.2 "")∈B p
  .exact Ν.mpr {z.1,Ze.mpr {_,hc.2.2,rfl},Ze.mpr {z.2,Í.mpr hc.1,rfl}}
  .rw[if_neg hc]at c;omega
 have c:=tu nd sub
 have d:(((B p).map (·.1)).flatMap λw=>(ZF hs.9).map λe=>(w,e)).9<=(B p).9*hs.9:=by
  have:=sH (λw=>(ZF hs.9).map λe=>((w,e):Str×Nat)) hs.length ((B p).map (·.1)) λw _=>by rw[Z4,ZJ];exact Zf _
  rwa[Z4]at this
 exact Zn c (Zn d (wdQ _ (g p)))
structure Above(lns:List (List (Str×Nat)))(many:Int)(ks:List Nat):Prop where
 sub:ks.Sublist (ZF lns.9)
 top:∀S,BI lns many S->∀d∈S,d∈ks
theorem Above.start(lns:List (List (Str×Nat)))(many:Int):Above lns many (ZF lns.9):={wde _,λS h d hd=>Í.mpr (h d hd).1}
theorem Above.next(h:Above lns many g):Above lns many (sP lns many g):=by
 refine{Ι.trans h.sub,λS a d hd=>ZG.mpr {h.top S a d hd,decide_eq_true ?_}};have b:=(a d hd).2;have c:=vR (h.top S a) (lns.getD d [])
 lia
theorem Above.stays(h:Above lns many g)(e:sP lns many g=g):BI lns many g:=λd hd=>by
 refine{Í.mp (h.sub.subset hd),?_};rw[<-e]at hd;exact of_decide_eq_true (ZG.mp hd).2
structure mV(lns:List (List (Str×Nat)))(many:Int)(ks:List Nat):Prop where
 ab:Above lns many ks
 st:BI lns many ks
theorem yC{many h:Int}{hs:List Str}{ws:List Int}{lns:List (List (Str×Nat))}(S:ia many hs ws lns)(K:mV lns many [])(t:h∈ws)(C:∀w∈ws,w<=h)(I:1<=many) :
 ∃(d i:Nat) (g:List (Str×Nat)) (q:Str×Nat),lns[d]?=ρ g/\g[i]?=ρ q/\ws.getD d 0=h/\ws.getD q.2 0<h:=by
 have f:=S.w;have v:=S.l
 by_cases s:∃(d i:Nat) (g:List (Str×Nat)) (q:Str×Nat),lns[d]?=ρ g/\g[i]?=ρ q/\ws.getD d 0=h/\ws.getD q.2 0<h
 .exact s
 exfalso
 have all:∀(d:Nat) (g:List (Str×Nat)),lns[d]?=ρ g->ws.getD d 0=h->∀q∈g,ws.getD q.2 0=h:=λd g hd hw q c=>by
  let{i,hi,e}:=ĥ c
  have x:¬ws.getD q.2 0<h:=λz=>s {d,i,g,q,hd,by rw[Z5 hi,e],hw,z};have o:=C _ (iM (ws:=ws) (i:=q.2) (by rw[f];exact S.e g (Zv hd) q c))
  lia
 let{y,j,A}:=ĥ t
 have x:1<=h:=S.p h t
 have r:BI lns many ((ZF ws.9).filter λd=>decide (ws.getD d 0=h)):=λd hd=>by
  let{u,n}:=ZG.mp hd
  have u:=Í.mp u;have n:ws.getD d 0=h:=of_decide_eq_true n;have k:d<lns.9:=();have c:lns[d]?=ρ (lns.getD d []):=by rw[Z8,Z5 k];rfl
  refine{k,?_};have m:=all d _ c n;have B:fA ((ZF ws.9).filter λd=>decide (ws.getD d 0=h)) (lns.getD d [])=lns.getD d []:=ù.mpr λq a=>decide_eq_true (ZG.mpr {Í.mpr (by rw[f];exact S.e _ (Zv c) q a),decide_eq_true (m q a)});rw[B];have o:=S.b d _ c;have D:=mO (lns.getD d []) λq a=>Int.le_of_eq (m q a);rw[n]at o;have E:many*h<=((lns.getD d []).9:Int)*h:=weW o D;exact wen E ()
 have:=K.ab.top _ r y (ZG.mpr {Í.mpr j,decide_eq_true (by rw[Z8,Z5 j,A];rfl)});cases this
theorem IX{many h:Int}{hs:List Str}{ws:List Int}{lns:List (List (Str×Nat))}(S:ia many hs ws lns)(p:1<=many){d i0:Nat}{g:List (Str×Nat)}{q:Str×Nat}(D:Down ws lns h d i0 g q){i j:Nat}(r:i<j)(C:j<=(numsOf g.length i0 (many-1).toNat).9)
 (hz:((((numsOf g.length i0 (many-1).toNat).take j).drop i).map λn=>(g.map λq=>ws.getD q.2 0).getD n 0).sum%many=0) :
 cE ws lns many (d:Int) (nI (((numsOf g.length i0 (many-1).toNat).take j).drop i)) (((((numsOf g.length i0 (many-1).toNat).take j).drop i).map λn=>(g.map λq=>ws.getD q.2 0).getD n 0).sum/many)=true:=by
 have b:i0<g.9:=(Za.mp D.s).1;have hl:=vT S D;have u:=yq (k:=(many-1).toNat) b ();have c:=sU g.length i0 (many-1).toNat;have f:=wZ (k:=(many-1).toNat) b;have m:i0∈numsOf g.length i0 (many-1).toNat:=Zm ..;generalize numsOf g.length i0 (many-1).toNat=a at *;have sub:((a.take j).drop i).Sublist a:=(weA _ _).trans (ī _ _);have len:((a.take j).drop i).9=j-i:=by rw[Ğ,Zq];lia
 have o:∀n∈(a.take j).drop i,n<g.9:=λn hn=>f n (sub.subset hn);have e:((a.take j).drop i).map (λn=>(g.map λq=>ws.getD q.2 0).getD n 0)=((a.take j).drop i).map λn=>ws.getD (g.getD n ("",0)).2 0:=ú λn hn=>KA ws (o n hn);rw[e]at hz ⊢;have v:g.getD i0 ("",0)=q:=by rw[Z8,D.s];rfl
 refine Dc S (i0:=i0) D.t D.l D.e p (c.sublist sub) o (λz=>?_) ?_ (λz=>?_) (by rw[v];exact D.lt) ?_
 .rw[z]at len;have:(0:Nat)=j-i:=len
  lia
 .rw[len];lia
 .have w:(a.take j).drop i=a:=sub.eq_of_length (by grind);rw[w];exact m
 .have:=Int.mul_ediv_add_emod ((((a.take j).drop i).map λn=>ws.getD (g.getD n ("",0)).2 0).sum) many
  lia
theorem fi.whole{f:Str->Int}(h:fi g bw ss ls many n f o hs ws lns)(r:(ls.map f).sum<=40)(j:g.length^n<=64):BG hs ws lns:=by
 have hl:=h.len;refine{h.b.w,h.b.l,h.b.e,(),λl a=>?_};have c:=h.cv.line h.b.l (b:=64) (λp=>Zn (fQ g bw ss ls n p) j) l a;have d:64*hs.9<=64*40:=wdZ _ ()
 lia
section
variable{ws ss:List Str}{r:Str}{c:Nat}
theorem Di(g:ss.Perm (cQ ws "" ws))(j:bears ws r=false):lend ss (lend ss r++{#[c]})=lend ss (r++{#[c]}):=by
 have a:("":Str)∈ss:=g.mem_iff.mpr (d8 ws);refine fB ?_;rw[lL a,bD,lL a,lL a,bD];exact An (G2 g) ((dG ws r).mp j)
theorem Ap(g:ss.Perm (cQ ws "" ws))(j:bears ws r=false)(hw:∀w∈ws,1<=w.9):bears ws (lend ss r++{#[c]})=bears ws (r++{#[c]}):=by
 have b:("":Str)∈ss:=g.mem_iff.mpr (d8 ws)
 have a:∀w∈wl ws,w≠[]:=by
  intro w d z
  let{v,e,rfl}:=Ze.mp d
  have:=hw v e;rw[<-b7,z]at this;simp at this
 have:=Dg (c:=c) (G2 g) ((dG ws r).mp j) a;rw[show [c]=ch ({#[c]}:Str) from rfl,<-lL b,<-bD,<-bD,<-dG,<-dG]at this;cases f:bears ws (lend ss r++⟨#[c]⟩)<;>cases h:bears ws (r++⟨#[c]⟩)<;>simp[f,h]at this ⊢
theorem Dj(h:ch a <:+: ch b)(g:bears ws b=false):bears ws a=false:=(dG ws a).mpr (((dG ws b).mp g).sub h)
theorem Aq(j:ss.Perm (cQ ws "" ws))(hw:∀w∈ws,1<=w.9)(h:p∈ss):bears ws p=false/\lend ss p=p:=by
 have a:("":Str)∈ss:=j.mem_iff.mpr (d8 ws);constructor
 .rcases mem_keys.mp (j.mem_iff.mp h) with z |z
  .have:p="":=fB (by rw[z];exact(pH rfl).symm);rw[this];exact Dh hw
  .exact(dG ws p).mpr z.2
 .refine fB ?_;rw[lL a];have b:Nn ss (ch p)=true:=je.mpr h;exact G1 (iP _) (iQ b (weY _))
end
section
variable{g:Str}{ws ss ls:List Str}{p:Str}
theorem G4(h:bears ws (p++a)=true):jW ws ss p (a++c)=τ:=by
 delta jW;rw[if_pos]
 cases e:bears ws (p++(a++c)) with
 |true=>rfl
 |false=>
  have:=Dj (a:=p++a) (b:=p++(a++c)) (by rw[<-pM,bD (p++a) c];exact{[],ch c,by simp}) e;rw[h]at this;cases this
theorem vY(l:ss.Perm (cQ ws "" ws))(hw:∀w∈ws,1<=w.9)(h:bears ws (p++r)=false):∀j:List Nat,(j.filterMap λc=>if bears ws (lend ss (p++r)++{#[c]})=true then τ else ρ (r++({#[c]}:Str),lend ss (lend ss (p++r)++({#[c]}:Str))))=(j.map λc=>r++({#[c]}:Str)).filterMap (jW ws ss p)
 |[]=>rfl
 |c::j=>by
  rw[Zw,ç,ç,vY l hw h j]
  have e:(if bears ws (lend ss (p++r)++{#[c]})=true then τ else ρ (r++({#[c]}:Str),lend ss (lend ss (p++r)++({#[c]}:Str))))=jW ws ss p (r++{#[c]}):=by
   delta jW;rw[Ap l h hw,Di l h,pM]
  rw[e]
theorem yD(j:ss.Perm (cQ ws "" ws))(hw:∀w∈ws,1<=w.9):∀L:List Str,fC g ws ss (L.filterMap (jW ws ss p))=(L.flatMap λr=>(ch g).map λc=>r++({#[c]}:Str)).filterMap (jW ws ss p)
 |[]=>rfl
 |r::L=>by
  rw[Δ,wfM,<-yD j hw L,ç]
  cases h:bears ws (p++r) with
  |true=>
   have e:jW ws ss p r=τ:=by delta jW;rw[if_pos h]
   rw[e,ki (l:=(ch g).map λc=>r++({#[c]}:Str)) λa ha=>by let{c,1}:=Ze.mp ha;exact G4 h];rfl
  |false=>
   have e:jW ws ss p r=ρ (r,lend ss (p++r)):=by delta jW;rw[if_neg (by rw[h];exact Zu)]
   rw[e,<-vY j hw h];exact Δ ..
theorem yE(l:ss.Perm (cQ ws "" ws))(hw:∀w∈ws,1<=w.9)(j:p∈ss):∀n,t6 g ws ss p n=(KU g n).filterMap (jW ws ss p)
 |0=>by
  let{a,b}:=Aq l hw j
  show [(("":Str),p)]=[("":Str)].filterMap (jW ws ss p);have e:jW ws ss p ""=ρ (("":Str),p):=by delta jW;rw[BO,b,if_neg (by rw[a];exact Zu)]
  rw[ç,e];rfl
 |n+1=>by
  show fC g ws ss (t6 g ws ss p n)=((KU g n).flatMap λr=>(ch g).map λc=>r++({#[c]}:Str)).filterMap (jW ws ss p);rw[yE l hw j n,yD l hw]
theorem Ar(l:ss.Perm (cQ ws "" ws))(hw:∀w∈ws,1<=w.9)(j:p∈ss)(n:Nat):(KU g n).filterMap (Io ws ss ls p)=aS g ws ss ls n p:=by
 delta aS;rw[yE l hw j]
 have:∀L:List Str,L.filterMap (Io ws ss ls p)=(L.filterMap (jW ws ss p)).filter λq=>decide (q.2∈ls):=by
  intro L
  induction L with
  |nil=>rfl
  |cons r L a=>
   rw[ç,ç,a];unfold Io jW
   cases h:bears ws (p++r) with
   |true=>rfl
   |false=>
    rw[if_neg Zu,if_neg Zu]
    by_cases hl:lend ss (p++r)∈ls
    .rw[if_pos hl,ā (by exact decide_eq_true hl)]
    .rw[if_neg hl,Ć (by simpa using hl)]
 exact this _
end
theorem xj(nd:(ch g).Nodup)(l:ss.Perm (cQ ws "" ws))(hw:∀w∈ws,1<=w.9)(j:p∈ss)(n:Nat):((aS g ws ss ls n p).map (·.1)).Nodup:=by
 rw[<-Ar l hw j n];refine List.Nodup.sublist (iy (λr x e=>?_) _) (by rw[rK];exact vW nd n);unfold Io at e;split at e
 .cases e
 .grind
theorem Hc.first{g:Str}{ws ss ls:List Str}{n:Nat}{hs:List Str}(nd:(ch g).Nodup)(l:ss.Perm (cQ ws "" ws))(hw:∀w∈ws,1<=w.9)(j:∀p∈hs,p∈ss)(hn:hs.Nodup):Hc (aS g ws ss ls n) hs (bt g ws ss ls n hs):=by
 intro p w e;unfold bt;rw[tD p (w,e) _ hs hn]
 by_cases h:p∈hs
 .rw[if_pos h];delta eE;rw[Ai (nO (xj nd l hw (j p h) n)) hn];exact Ng {λz=>⟨z.1,h,z.2⟩,λz=>⟨z.1,z.2.2⟩}
 .rw[if_neg h,if_neg (λz=>h z.2.1)]
theorem ia.first{f:Str->Int}(hn:∀p∈ls,0<=f p)(j:DX g ws ss ls many n f):ia many (aj ls f) ((aj ls f).map f) (bt g ws ss ls n (aj ls f)):=by
 have a:∀p∈aj ls f,p∈ls/\0<f p:=λp b=>{(ZG.mp b).1,of_decide_eq_true (ZG.mp b).2};refine{Z4 _,Z4 _,λw hw=>?_,λl hl q c=>?_,λi l hl=>?_}
 .let{p,b,rfl}:=Ze.mp hw
  have:=(a p b).2
  lia
 .let{p,b,rfl}:=Ze.mp hl
  let{z,d,rfl}:=Ze.mp c
  exact List.idxOf_lt_length_of_mem (of_decide_eq_true (ZG.mp d).2)
 .unfold bt at hl;rw[Z9]at hl
  cases e:(aj ls f)[i]? with
  |none=>rw[e]at hl;cases hl
  |some p=>
   rw[e]at hl;cases hl;rw[FG hn,Z8,Z9,e];exact j p (a p (Zv e)).1
theorem fi.start{f:Str->Int}(nd:(ch g).Nodup)(j:ss.Perm (cQ bw "" bw))(hw:∀w∈bw,1<=w.9)(l:∀p∈ls,p∈ss)(hl:ls.Nodup)(hn:∀p∈ls,0<=f p)(o:DX g bw ss ls many n f) :
 fi g bw ss ls many n f [] (aj ls f) ((aj ls f).map f) (bt g bw ss ls n (aj ls f)):=
 {.nil,ia.first hn o,Hc.first nd j hw (λp j=>l p (ZG.mp j).1) (hl.filter _),vF hn,ŵ _,λp j=>(ZG.mp j).1}
end _B
namespace _L
open PySem.Spec PyProof.Rows PySem.Calls
section
variable{prog:ZC}{w:World}{A:Around}{E:Value->Shared->Prop}{s:Shared}
theorem qk:∀ns:List Int,preSum (λi=>ns.getD i 0) ns.9=ns.sum
 |[]=>rfl
 |n::ns=>by
  show preSum (λi=>(n::ns).getD i 0) (ns.9+1)=n+ns.sum;rw[PySem.W.kdu_shift,<-qk ns];rfl
theorem gf{h h':Heap}{p:Addr}{g:Array Value}(e:h.IsList p g)(hk:∀b o,h.get? b=ρ o->h'.get? b=ρ o):h'.IsList p g:=let ⟨o,a,r⟩:=e;{o,hk _ _ a,r}
noncomputable abbrev JN(t:Tok):List (Str×Value):=[(Ĩ "start",.int 1 t)]
theorem G5(l:Addr)(t:Tok):checkTypeCall "enumerate" {[.ref l],JN t}=pure .unit:=by kernel_rfl
theorem G6(l:Addr)(t:Tok):ū "enumerate.__new__" {[.type "enumerate",.ref l],JN t}=pure .unit:=by kernel_rfl
theorem As(o l:Addr)(t:Tok):argsOk "object.__init__" {[.ref o,.ref l],JN t}:=by unfold argsOk;kernel_rfl
theorem Au(o l:Addr)(t:Tok):Meets (È.«object.__init__» {[.ref o,.ref l],JN t}) (λ_ R s=>s.TypeIs (.ref o) "enumerate"/\R (.ok (.ret .none)) s):=by
 have hl:=wec.init.lookup;have c:=wec.made;have a:(ρ "enumerate.__new__" != ρ "object.__new__")=true:=⋯;refine Meets.of_wp λprog w A R s ⟨d,b⟩=>?_
 repeat (any_goals (first |assumption |wp_step))
 exact{_,rfl,b}
theorem Av{P:Nat->Value->Prop}{St:Nat->Heap->Prop}(D:Draws prog w A it g n P St):Draws prog w A it g (n+1) (λj v=>∃i,j=i+1/\P i v) (λj h=>∃i,j=i+1/\St i h) where
 live:=λ_ _ {i,_,st}=>D.live i _ st
 frame:=λ_ h a ⟨i,e,st⟩ hk=>{i,e,D.frame i h a st hk}
 item:=λ_ s Q E l ⟨i,e,st⟩ b=>D.item i s Q E () st λx a c d f sb=>b x a c ⟨i,e,d⟩ {i+1,(),f} sb
 done:=λs Q E ⟨i,e,st⟩ k=>D.done s Q E ((show n=i by lia) ▸ st) k
theorem Dk(g:A.handled=τ)(it l:Addr)(items:Array Value)(i:Nat)(p:items[i]?=τ):Draws prog w A it [it,l] (i+1) (λ_ _=>False) (λj h=>j=i+1/\h.IsListIter it l i/\h.IsList l items) where
 live:=λ_ _ {_,st,_}=>let ⟨o,a,_⟩:=st;⟨o,a⟩
 frame:=λ_ _ _ ⟨e,st,sl⟩ hk=>{e,st.at λo q=>hk it (by simp) o q,sl.at λo q=>hk l (by simp) o q}
 item:=λ_ _ _ _ b {e,_} _=>absurd e (Zt b)
 done:=λ_ _ _ {_,st,sl} c=>wpAny_nextOf_list_end g st sl p c
noncomputable def G7(K:Z6)(a:Addr):It:=
 {λi H=>∃xs x,aM K H a xs/\xs[i]?=ρ x,λi H x H'=>∃T xv,H T=τ/\x=.ref T/\H'=upd H T (.tup [.int ((i+1:Nat):Int),xv])/\∀xs,aM K H a xs->xs[i]?=ρ xv,λi H=>∃xs,aM K H a xs/\xs.9<=i}
def Lf(K:Z6)(ta:TA):TI:=λσ H R=>ta σ H λvs H1=>∃a xs,vs=[.ref a]/\aM K H1 a xs/\R (G7 K a) H1
theorem Dl{K:Z6}{a:Addr}{xs:List V}{g:TG}{t:TS}{D:Ends}{σ:St}{H:Hp}(Pv:Nat->St->Hp->Prop)(I:Pv 0 σ H)(hl:∀i σ H,i<=xs.9->Pv i σ H->aM K H a xs)
 (hs:∀i x σ H T,xs[i]?=ρ x->Pv i σ H->H T=τ->g (.ref T) σ (upd H T (.tup [.int ((i+1:Nat):Int),x])) λj r=>t (D.lp (Pv (i+1))) j r) (hd:∀σ H,Pv xs.length σ H->D.nx σ H) :
 ∃W:Nat->Nat->St->Hp->Prop,(∃m,W 0 m σ H)/\∀i m σ H,W i m σ H ->
  ((G7 K a).stop i H/\D.nx σ H)\/((G7 K a).go i H/\∃N:St->Hp->Prop,(∀l o,N l o->∃C,C<m/\W (i+1) C l o)/\∀x o,(G7 K a).ur i H x o->g x σ o λj r=>t (D.lp N) j r):=by
 refine{λi m σ H=>m=xs.9-i/\i<=xs.9/\Pv i σ H,{xs.9,by simp,ZE _,I},?_};rintro i m σ H ⟨rfl,hi,p⟩;have q:=hl i σ H hi p
 by_cases b:i<xs.9
 .refine .inr {{xs,xs[i],q,by simp[b]},Pv (i+1),λl o c=>{xs.9-(i+1),(),rfl,b,c},λx o y=>?_}
  let{T,d,f,h,k,y}:=y
  subst h k;exact hs i d σ _ T (y xs q) p f
 .have e:i=xs.9:=();subst e;exact .inl {{xs,q,Zf _},hd σ H p}
end
section
variable{t:TA}
def ND(K:Z6)(t:TA):TE:=λσ H Q=>t σ H λvs H1=>∃(a:Addr) (ps:List Addr),vs=[.ref a]/\aM K H1 a (ps.map V.ref)/\ps≠[]/\(∀q∈ps,∃ys,aM K H1 q ys)/\∀q∈ps,Q (.ref q) H1
theorem xk{E:Value->Shared->Prop}{Q:Value->Shared->Prop}(l:args.any (·.1)=false)(o:j.any (·.1.isNone)=false)
 (h:wpAny M A (evalArgs (.type T) true args j) (λa g=>wpAny M A (call (.type T) (first++a.pos) a.kw) Q E g) E s):wpAny M A (callWith pos (.type T) first args j) Q E s:=by
 unfold callWith;refine Z7 (ZX (Å h (λa g b=>Z7 (Ŕ ?_)) λ_ _ x=>x));simp only[l,o,Bool.or_false];exact Z7 (Zc (Z7 (Å b (λr c d=>Z7 (ZX (wpAny_point (Zc d)))) λ_ _ x=>x)))
end
section
variable{prog:ZC}{w:World}{A:Around}{s:Shared}{l I S:Addr}{vs:List Value}{R:à->Shared->Prop}
theorem xm(kf:Nat->Int)(hh:A.handled=τ)(hl:s.heap.IsList l vs.6)(hI:I=s.8)(Lg:S≠I)(Vw:s.8<=S)
 (turn:∀(i:Nat) (v:Value),vs[i]?=ρ v->∃p items,v=.ref p/\s.heap.IsList p items/\(items.size:Int)=kf i/\(items.size:Int)<2^63)
 (hR:∀(v:Value) (h':Heap) (Aw:Nat),v∈vs->(∀b o,s.heap.get? b=ρ o->h'.get? b=ρ o)->R (.ok (.ret v)) {s with heap:=h',toks:=Aw}) :
 ∀(r j i:Nat) (h:Heap) (tk:Nat) (vb:Value) (tb:Tok) (c:Nat),vs.9-(j+1)=r->j+1<=vs.9->(∀b o,s.heap.get? b=ρ o->h.get? b=ρ o) ->
  h.get? S=ρ (seqObj "list" #[vb,.int (kf i) tb] c)->h.IsListIter I l (j+1)->vs[i]?=ρ vb ->
  codeAny (model prog w) A (.builtin "min.loop" {[.ref I,.builtin "len",.ref S],[]}) R {s with heap:=h,toks:=tk}:=by
 have yF:(toString "min"++toString ".loop":String)="min.loop":=⋯;have uF:l<s.8:=let ⟨o,ho,_⟩:=hl;Zg ho
 have Qz:l≠I:=by rw[hI];exact Zt uF
 have W:=Ŭ (prog:=prog) (w:=w) (A:=A.in1) hh I l Qz vs.6;have hsz:vs.toArray.size=vs.9:=ZB ..
 have old:∀{b:Addr} {o:Obj},s.heap.get? b=ρ o->b≠S/\b≠I:=λ{b o} e=>by
  have hb:b<s.8:=Zg e;exact{Zt (Zx hb Vw),by rw[hI];exact Zt hb}
 intro r
 induction r with
 |zero=>
  intro j i h tk vb tb c hr hj mono nS hit QA;have Vx:j+1=vs.9:=1.0;refine ä wdo ?_;rw[ą Ņ _];show wpAny _ A.in1 (ι (.ref S) >>= _) _ _ _;refine Z7 (wfN nS rfl ?_);show wpAny _ A.in1 (tryCatch (pyNext (.ref I)) _ >>= _) _ _ _;refine Z7 (Ţ (W.done _ _ _ {by rw[hsz,<-Vx];exact hit,gf hl mono} λh' Aw Hg=>?_));have Vy:=Hg S _ (by simpa using Lg) nS;have s1:=ŭ h' S (ê λ_=>(#[]:Array Value));show wpAny _ A.in1 (wgG S (λ_=>#[]) >>= _) _ _ _;refine Z7 ?_;refine Ÿ Vy rfl (Z7 (Ο (Zc ?_)));exact hR vb _ _ (Zv QA) λb o e=>(s1.2 b (old e).1).trans (Hg b o (by simpa using(old e).2) (mono b o e))
 |succ r ih=>
  intro j i h tk vb tb c hr hj mono nS hit QA;have zb:j+1<vs.9:=1.0;refine ä wdo ?_;rw[ą Ņ _];show wpAny _ A.in1 (ι (.ref S) >>= _) _ _ _;refine Z7 (wfN nS rfl ?_);show wpAny _ A.in1 (tryCatch (pyNext (.ref I)) _ >>= _) _ _ _;refine Z7 (Ţ (W.item (j+1) _ _ _ (by rw[hsz];exact zb) {hit,gf hl mono} λv h' Aw hP IY Hg=>?_));have hv:vs[j+1]?=ρ v:=by simpa using hP
  have vZ:∀b o,s.heap.get? b=ρ o->h'.get? b=ρ o:=λb o e=>Hg b o (by simpa using(old e).2) (mono b o e);have M7:=Hg S _ (by simpa using Lg) nS
  let{p,items,rfl,hp,QB,Ax}:=turn (j+1) v hv
  show wpAny _ A.in1 (tryCatch (holding [Zo p] (call (.builtin "len") [.ref p])) _ >>= _) _ _ _;refine Z7 (Ţ (ZX (wdX (gf hp vZ) Ax ?_)));rw[QB];show wpAny _ A.in1 (tryCatch (holding [Zo p,.int (kf (j+1)) _] (richCompare .Lt (.int (kf (j+1)) _) (.int (kf i) tb) >>= _)) _ >>= _) _ _ _;refine Z7 (Ţ (ZX (Z7 (CmpOf.ints_lt (prog:=prog) (w:=w) (A:=A.in1) (P:=λi v=>∃t,v=.int (kf i) t) kf (λi v h=>h) (j+1) i _ _ _ _ _ {_,rfl} ⟨tb,rfl⟩ ?_))));refine Z7 (ZX (ď ?_));refine Z7 (Ο (Zc ?_))
  by_cases G8:kf (j+1)<kf i
  .simp only[G8,decide_true,if_true];refine Z7 ?_;refine Ÿ M7 rfl (Z7 (Ο ?_));rw[yF];have s1:=ŭ h' S (ê λ_=>#[Zo p,.int (kf (j+1)) (Aw+1)]);obtain⟨c2,NF⟩:∃c2,(h'.update S (ê λ_=>#[Zo p,.int (kf (j+1)) (Aw+1)])).get? S=ρ (seqObj "list" #[Zo p,.int (kf (j+1)) (Aw+1)] c2):={_,get?_update_seq M7 λ_=>#[Zo p,.int (kf (j+1)) (Aw+1)]};refine Zc {ĉ Ņ _,ih (j+1) (j+1) _ _ _ _ c2 1.0 zb (λb o e=>(s1.2 b (old e).1).trans (vZ b o e)) NF ?_ hv}
   let{QC,Lh,QD}:=id IY.1
   exact{QC,(s1.2 I Lg.symm).trans Lh,QD}
  .simp only[G8,decide_false,ġ,if_false];refine Z7 (Ο ?_);rw[yF];exact Zc {ĉ Ņ _,ih (j+1) i _ _ vb tb c 1.0 zb vZ M7 IY.1 QA}
end
end _L
namespace _L
open PySem.Spec PyProof.Rows
section
variable{X:Cx}
theorem Ay(he:("":Str)∈ss)(h:t∈gq g ws ss p):t∈ss:=by grind [gq,yA]
theorem Li(l:X.A.units<À):jZ X (Æ .NotEq) (λx y H Q=>x=y/\Thing H x/\(∀a,x=.ref a->H a≠ρ (.dK []))/\Q (.bl false) H):=by
 intro g s σ H x y v u Q I c d h
 let{rfl,m,nd,q}:=h
 have fin:EP X g σ Q (.bool false) s:={.bl false,H,I,rfl,q}
 cases m with
 |flat f=>
  cases x with
  |non=>cases c;cases d;exact SeqAt.RcNeAt.none_none _ _ _ _ fin
  |bl b=>cases c;cases d;exact SeqAt.RcNeAt.bool_bool b b _ _ _ _ (by simpa using fin)
  |int b=>let{t,rfl}:=c;let{i,rfl}:=d;exact SeqAt.RcNeAt.int_int b t b i _ _ _ _ (by simpa using fin)
  |str b=>let{t,rfl}:=c;let{i,rfl}:=d;exact SeqAt.RcNeAt.str_str b t b i _ _ _ _ (by simpa using fin)
  |_=>exact absurd (show false=true from f) Zu
 |@lst a n ha f=>
  cases c;cases d
  let{k,r,pl,o}:=I.list (aM.of (K:=X.K) ha)
  refine wgH (e:=λ_=>true) pl.isList pl.isList rfl l (λj _ _=>Ŵ _) X.prog X.w _ _ ?_;rw[iE];exact fin
 |@tup a n ha f=>
  cases c;cases d
  let{k,r,pl,o}:=I.tuple (g8.of (K:=X.K) ha)
  refine SeqAt.RcNeAt.tuples (e:=λ_=>true) pl pl l (λj _ _=>Ŵ _) X.prog X.w _ _ ?_;rw[iE,beq_self_eq_true];exact fin
 |@dic a ha=>exact absurd ha (nd a rfl)
mutual
theorem bh.same{K:Z6}{H g:Hp}(s:a8 H g):∀(d:gi) (v:V),bh K H d v->bh K g d v
 |.at _,_,h=>h
 |.tup c,_,h=>by
  let{a,b,e,f,hl}:=h
  exact{a,b,e,s _ _ f,aQ.same s c b hl}
 |.lst c,_,h=>by
  let{a,b,e,f,hl}:=h
  exact{a,b,e,hZ s f,aQ.same s c b hl}
theorem aQ.same{K:Z6}{H j:Hp}(s:a8 H j):∀(g:List gi) (xs:List V),aQ K H g xs->aQ K j g xs
 |[],_,h=>h
 |d::g,_,h=>by
  let{v,a,e,b,hl}:=h
  exact{v,a,e,bh.same s d v b,aQ.same s g a hl}
end
theorem xn{α:Type}(xs:Array α)(p:Nat)(x:α)(g:p<=xs.size)(i:Nat):(Ĕ xs p x)[i]?=if i<p then xs[i]? else if i=p then ρ x else xs[i-1]?:=by
 unfold Ĕ;have c:((xs.extract 0 p).push x).size=p+1:=by rw[wfd,Α];omega
 by_cases a:i<p
 .rw[if_pos a,weo 1.0,Array.getElem?_push_lt (by rw[Α];omega)];rw[Array.getElem_extract];simp only[ŵ];exact(ZO 1.0).symm
 .rw[if_neg a]
  by_cases b:i=p
  .subst b;rw[if_pos rfl,weo 1.0];have d:(xs.extract 0 i).size=i:=by rw[Α];omega
   have:=Array.getElem?_push_size (xs:=xs.extract 0 i) (x:=x);rw[d]at this;exact this
  .rw[if_neg b,Array.getElem?_append_right 1.0,c,Array.getElem?_extract];split
   .congr 1;omega
   .rename_i e;exact(Ķ 1.0).symm
theorem G9{xs:Array Nat}(g:zq xs){j:Nat}(hn:xs[æ xs j]?≠ρ j):zq (Ĕ xs (æ xs j) j):=by
 have P:=nQ g j;generalize æ xs j=p at P hn
 have hi:∀i a,p<=i->xs[i]?=ρ a->j<a:=λi a h e=>by
  have l:=P.hi i a h e
  by_cases q:i=p
  .subst q
   by_cases z:a=j
   .exact absurd (z ▸ e) hn
   .omega
  .obtain⟨b,c⟩:∃b,xs[p]?=ρ b:={_,ZO (by have:=(ŗ.mp e).1;omega)};have m:=P.hi p b (Zf _) c;have n:=g p i b a 1.0 c e;omega
 intro i k a b f d c;rw[xn _ _ _ P.le]at d c;split at d
 .rename_i l;have ha:=P.lo i a l d;split at c
  .exact g i k a b f d c
  .split at c
   .cases c;exact ha
   .have:=hi (k-1) b 1.0 c;omega
 .split at d
  .cases d;rw[if_neg 1.0,if_neg 1.0]at c;exact hi (k-1) b 1.0 c
  .rw[if_neg 1.0,if_neg 1.0]at c;exact g (i-1) (k-1) a b 1.0 d c
theorem IZ{t:Ã}{n j:Nat}(T:jw t n)(h:t.slot j=.empty):jw (t.put j).1 (n+1):=by
 have P:=nQ T.up j;refine{?_,G9 T.up (Al h),?_}
 .show (Ĕ t.place _ j).size=_;rw[lS _ _ _ P.le,T.sz]
 .show (if wgF t.dummies j then _ else t.dummies)=#[];rw[T.du,show wgF #[] j=false from rfl];rfl
theorem Az{t:Ã}{g:Array (Int×Value)}(T:jw t g.size)(h:Int)(x:Value):jw (layNew t g h x).2.1 (layNew t g h x).1.size/\(layNew t g h x).2.1.led=t.led:=by
 unfold layNew;split
 .rename_i j c e
  let{rfl,a}:=yx T.du e
  have P:=nQ T.up j;have b:(Ĕ g (æ t.place j) (h,x)).size=g.size+1:=lS _ _ _ (by rw[<-T.sz];exact P.le);show jw ((t.put j).1.orStandIn (Ĕ g (æ t.place j) (h,x)).size) (Ĕ g (æ t.place j) (h,x)).size/\((t.put j).1.orStandIn (Ĕ g (æ t.place j) (h,x)).size).led=t.led;unfold SetTable.orStandIn;split
  .exact{b ▸ IZ T a,rfl}
  .exact{i7 _ _,rfl}
 .refine{?_,rfl};show jw (t.standIn (g.size+1)) (g.push (h,x)).size;rw[wfd];exact i7 _ _
theorem bW:Slot "set_iterator" "__next__" "set_iterator.__next__":=
 .of (owner:="set_iterator") (n:="__next__") (by rw[typeLookup_type,wfO];kernel_rfl) ∅ ∅ ∅
  (by first |exact .inl ∅ |exact .inr ∅) (by rw[θ];kernel_rfl)
theorem w4{α:Type}(next:Nat->Nat)(xs:Array α):(Ū next xs).toList.Perm xs.toList:=by
 have key:∀(fuel k:Nat) (left:List α) (out:Array α),left.9=fuel->(whA next fuel k left out).toList.Perm (out.toList++left):=by
  intro fuel
  induction fuel with
  |zero=>
   intro k left out hl;rw[ĵ.mp hl,Ó];exact whv _
  |succ fuel b=>
   intro k left out hl;unfold whA;have a:next k%left.9<left.9:=whr _ 1.0;rw[Z5 a];dsimp only;refine(b (k+1) _ _ (by rw[wep a];omega)).trans ?_;rw[wgX,ZU];refine List.Perm.append_left _ ?_;exact sf a
 exact(key xs.size 0 xs.toList #[] (by simp)).trans (by simp)
theorem nR:Slot "set_iterator" "__iter__" "set_iterator.__iter__":=
 .of (owner:="set_iterator") (n:="__iter__") (by rw[typeLookup_type,wfO];kernel_rfl) ∅ ∅ ∅
  (by first |exact .inl ∅ |exact .inr ∅) (by rw[θ];kernel_rfl)
end
end _L
namespace K34
section
variable{w:World}{K:Z6}
theorem tG{a b ss:List Str}(ha:ş a=true)(hs:ş ss=true)(sub:b.Sublist ss)(p:a.Perm b):a=b:=by
 refine p.eq_of_pairwise (le:=He) (λx y _ _ c d=>?_) (jz ha) ((jz hs).sublist sub);unfold He at c d;rw[List.not_lt]at c d;exact fB (List.le_antisymm c d)
inductive Lj(vs:List V)(H:Hp)(Q:VK)(eK:XK):Prop
 |mk (dw db o ev f Bf ls many) (_:vs=[.ref dw,.ref db,.int many]) (_:H dw=ρ (.dK (b9 (bZ f ls)))) (_:mU H db o ev Bf ls) (_:∀p∈ls,0<=f p) (_:∀p∈ls,f p<=8) (_:∀p∈ls,many*f p<=((Bf p).map λq=>f q.2).sum) (_:0<(ls.map f).sum) (_:(ls.map f).sum<=40) (_:∀H',a8 H H'->Q (.bl true) H')
inductive Ln(K:Z6)(vs:List V)(H:Hp)(Q:VK)(eK:XK):Prop
 |mk (dw db o ev f g ws ss ls n) (_:vs=[.ref dw,.ref db]) (_:H dw=ρ (.dK (b9 (bZ f ls)))) (_:mU H db o ev (aS g ws ss ls n) ls) (_:ş ss=true) (_:ls.Sublist ss) (_:∀(p:Addr) (H':Hp),a8 H H'->bh K H' (tm (aj ls f) ((aj ls f).map f) (bt g ws ss ls n (aj ls f))) (.ref p)->Q (.ref p) H')
inductive Lp(K:Z6)(vs:List V)(H:Hp)(Q:VK)(eK:XK):Prop
 |mk (v al ks many lns) (_:vs=[v,.ref al,.int many]) (_:bh K H (fL (nI ks)) v) (_:bh K H (gu lns) (.ref al)) (_:mV lns many ks) (_:ks≠[]) (_:lns.9<=60) (_:∀l∈lns,l.9<=5000) (_:∀H',a8 H H'->Q (.bl true) H')
inductive Ga(K:Z6)(C CB CX CO:Addr)(vs:List V)(H:Hp)(Q:VK)(eK:XK):Prop
 |mk (e x:Addr) (many:Int) (n:Nat) (g:Str) (ws ss ls:List Str) (_:vs=[.ref e,.ref x,.int many,.int (n:Int)]) (_:bE C H x g ws ss ls) (_:2<=g.9) (_:g.9<=10) (_:ss.9<=900) (_:eT g.length many n)
  (_:(∃d kk,H e=ρ (XC e CX (ρ d))/\H d=ρ (.xd [("length",.int (kk:Nat)),("rows",.int (eL g ws ss (kk*n) ""))])/\Hf g ws ss many n 24 (.int (kk:Nat)))\/(H e=ρ (XC e CO τ)/\D2 g ws ss many n/\rM g ws ss ls many n)) (_:∀H',a8 H H'->Q (.bl true) H'):Ga K C CB CX CO vs H Q eK
theorem iz.mul{g:Str}{w:Str}(h:iz g w 1)(n:Nat):iz g (é w (n:Int)) n:={by rw[IW,h.1,Nat.mul_one],λc hc=>h.2 c (Le w n c hc)}
theorem Gb{g:Str}(h:vM g):vM (ZZ g τ (ρ 2))/\(ZZ g τ (ρ 2)).9=2:=by
 have e:ch (ZZ g τ (ρ 2))=(ch g).take 2:=nG g 2
 have hl:(ZZ g τ (ρ 2)).9=2:=by
  rw[<-b7,e,Zq,b7];have:=h.lo;omega
 refine{{1.0,1.0,?_,λc hc=>h.sub c ?_},hl}
 .rw[e];exact h.nd.sublist (ī _ _)
 .rw[e]at hc;exact ś hc
end
end K34
namespace _L
structure jC(K:Z6)(C:Addr)(nm qual:Str)(st:Stmt)(ps:List Str)(f:Addr)(fd:Ë):Prop where
 F:xO K nm qual st f fd
 b:Binds K fd ps []
 m:HG K C nm f
theorem w5:∀(g:List Addr) (j:List (Str×Str)),cA H g (j.map jx)->aQ K H (j.map JC) (g.map V.ref)
 |[],[],_=>rfl
 |[],_::_,h=>by have:=h.1;simp at this
 |_::_,[],h=>by have:=h.1;simp at this
 |r::g,q::j,h=>by
  refine{.ref r,g.map V.ref,rfl,{r,jx q,rfl,h.2 0 r (jx q) rfl rfl,?_},w5 g j {by have:=h.1;simpa using this,λi a b c d=>h.2 (i+1) a b c d}};exact{.str q.1,[.str q.2],rfl,⟨rfl,rfl⟩,{.str q.2,[],rfl,⟨rfl,rfl⟩,rfl}}
theorem QE._B.cD.Yj(R:cD H l j g):bh K H (.lst (g.map JC)) (.ref l):={l,1,.inl R.l,w5 j g R.t}
theorem jk{X:Cx}(g:X.K=K):cu X (.builtin "isinstance") (λxs H Q=>∃x T t b,xs=[x,.ty T]/\dD K H x t/\ſ K t (.type T)=ρ b/\Q (.bl b) H):=g ▸ bb
theorem dD.rd(h:Rd H a (.lst xs)):dD K H (.ref a) (.type "list"):=by
 rcases h with e |⟨o,e⟩
 .exact .lst e
 .exact .frz e
theorem J0{X:Cx}(g:X.K=K):M3 X (MD K):=by
 subst g;exact fb
end _L
namespace _L
open PySem.Spec PyProof.Rows PySem.W Builtin Builtin.ObjectAttr
section
variable{name:Str}
noncomputable abbrev NI:List Value:=[.type "ValueError",.type "Exception",.type "BaseException",.type "object"]
noncomputable abbrev pQ(CB:Addr):List Value:=.ref CB::NI
theorem Dm{fs:List (Str×V)}{g:Str->Option Value}(r:∀f,iY (fs.lookup f) (g f)):ű g (fs.map (·.1)):=λy c=>by
 have h:=r y
 cases e:fs.lookup y with
 |none=>
  rw[e]at h
  cases d:g y with
  |none=>exact absurd d c
  |some z=>rw[d]at h;exact h.elim
 |some z=>
  clear h r c
  induction fs with
  |nil=>cases e
  |cons p fs i=>
   let{a,b}:=p
   by_cases ha:y=a
   .rw[ha];exact Zm ..
   .rw[Ñ,show (y==a)=false from beq_eq_false_iff_ne.mpr ha]at e;exact Zh _ (i e)
theorem yG(h:fs.lookup name=τ)(f:Str):(fs++[(name,y)]).lookup f=if f=name then ρ y else fs.lookup f:=by
 grind
end
section
variable{prog:ZC}{w:World}{A:Around}{E:Value->Shared->Prop}{s:Shared}{K:Z6}{x C CB:Addr}{name:Str}{v:Value}
theorem Gd{Q:Value->Shared->Prop}(X:K.In s.heap)(I:InstAt s.heap x ox C (ρ od))(hc:clsIn K C=ρ cd)(l:cd.mro=.ref C::pQ CB)(o:cd.hasDict=true)
 (g:findIn K (.ref C) "__getattribute__"=ρ (ρ (.builtin "BaseException.__getattribute__"))) (j:findIn K (.ref C) "__getattr__"=ρ τ) (ha:findIn K (.ref C) name=ρ τ)
 (hl:lookIn name od=ρ (ρ v)) (p:handedIn v=true) (h:Q v {s with toks:=s.toks+1}):wpAny (model prog w) A (getAttr (.ref x) name expr) Q E s:=by
 have G:=weq.ga;refine Z7 (wpAny_mkText (ZX (Z7 (I.type _ _ _ _ (λ_ _ e=>e) (Z7 (ő X g _ _ _ _ (λ_ _ e=>e) ?_))))));dsimp only;rw[show (į (Zo C)&&Ċ "BaseException.__getattribute__" == Ċ "object.__getattribute__")=false from by rw[show (Ċ "BaseException.__getattribute__" == Ċ "object.__getattribute__")=false from by decide+kernel,ĭ],if_neg ⋯];have a:Looks (model prog w) s.heap (hookBefore (.ref C)) τ:=looks_hook X (by show (if į (Zo C) then findIn K (.ref C) "__getattr__" else ρ τ)=ρ τ;rw[if_pos (show į (Zo C)=true from rfl)];exact j);refine Z7 (a _ _ _ _ (λ_ _ e=>e) (Z7 (ŉ (ZX ?_))));unfold callGetattribute;rw[show (expr&&į (Ċ "BaseException.__getattribute__"))=false from ĭ _,if_neg ⋯];unfold boundAndCalled;rw[G.bind];refine Z7 (Zc ?_);show wpAny _ _ (call (.builtin "BaseException.__getattribute__") [.ref x,.str name s.toks]) _ _ _;refine â ?_;have sub:Looks (model prog w) s.heap (š (.ref x) (.type "BaseException")) true:=I.type.andThen (Η X (by unfold mroIn;rw[hc,ζ,l];rfl));refine ĩ G.plain wfP ?_;refine @wgm (model prog w) _ _ {s with toks:=s.toks+1} "BaseException.__getattribute__" "BaseException" "__getattribute__" (.ref x) [.str name s.toks] [] _ ∅ ∅ sub (wg3 (.ref x) (.str name s.toks)) ?_
 have b:findObj K C (ρ od) name=ρ (.value v):=by
  unfold findObj;rw[hc,ha];simp only[ζ];unfold PySem.W.ownOf;rw[o,if_pos rfl];dsimp only;rw[hl];rfl
 have c:=I.type (M:=model prog w);have d:=looks_find (M:=model prog w) X I b;unfold È.«object.__getattribute__»;refine Z7 (Zc ?_);refine Z7 (Zc (Z7 (c _ _ _ _ (λ_ _ e=>e) (Z7 (d _ _ _ _ (λ_ _ e=>e) ?_)))));refine Zc ?_;show wpAny _ _ (handedOut v) _ _ _;rw[handedOut_of p];exact Zc h
end
section
variable{prog:ZC}{w:World}{A:Around}{s:Shared}{K:Z6}{x C CB f:Addr}{name:Str}{v:Value}{R:à->Shared->Prop}
theorem w6(X:K.In s.heap)(I:InstAt s.heap x ox C od)(hc:clsIn K C=ρ cd)(hm:cd.mro=.ref C::pQ CB)(ha:findIn K (.ref C) name=ρ τ)
 (h:wpAny (model prog w) A.in1 (storeInOwnDict (.ref x) (.ref C) (.str name tk) name v false)
   (λfin s'=>match fin with |.done f=>R (.ok f) s' |.again c'=>c'.quiet=true/\codeAny (model prog w) A c' R s') (λe s'=>R (.error e) s') s) :
 codeAny (model prog w) A (.call (.builtin "object.__setattr__") {[.ref x,.str name tk,v],[]}) R s:=by
 have SF:=PySem.F.store_object;have sub:Looks (model prog w) s.heap (š (.ref x) (.type "object")) true:=I.type.andThen (Η X (by unfold mroIn;rw[hc,ζ,hm];rfl));refine ĩ SF.slot.plain SF.entry (@wgm (model prog w) _ _ s "object.__setattr__" "object" "__setattr__" (.ref x) [.str name tk,v] [] _ SF.kind SF.split sub (SF.args (.ref x) (.str name tk) v) ?_);have Vz:Looks (model prog w) s.heap (mroOf (.ref C)) cd.mro:=(wdg X hc).andThen .now;have L3:Looks (model prog w) s.heap (storeTaker? τ) τ:=.now;rw[osa_eq,refuse_eq];refine Z7 (Z7 (I.type.here (Z7 (Vz.here ?_))));rw[hm,refuseLoop_ref,refuseLoop_ref,PySem.F.store_ValueError.passes];refine Zc (Z7 (I.type.here (Z7 ((ő X ha).here (Z7 (L3.here ?_))))));exact h
end
end _L
namespace _L
open PySem.Spec PyProof.Rows
structure cg(K:Z6)(C CB:Addr)(nm:Str):Prop where
 lk:∃(q:Str) (N:Addr) (bs:List Value) (sn:List Str) (sub:List Value) (ab:Bool) (col:Option Bool) (dd:Option Addr) (k0 k1 k2 k3 k5:Option Value),
  K.lookup C=ρ (Ý nm q C N bs (pQ CB) true sn sub ab col dd k0 k1 k2 k3 k5 "ValueError.__new__")
 sa:findIn K (.ref C) "__setattr__"=ρ (ρ (.builtin "object.__setattr__"))
 ga:findIn K (.ref C) "__getattribute__"=ρ (ρ (.builtin "BaseException.__getattribute__"))
 gh:findIn K (.ref C) "__getattr__"=ρ τ
 kp:keepIn K (.ref C)=true
structure AA(K:Z6)(CB:Addr)(nm:Str):Prop where
 lk:∃(q:Str) (N:Addr) (bs:List Value) (hd:Bool) (sn:List Str) (sub:List Value) (ab:Bool) (col:Option Bool) (dd:Option Addr) (k0 k1 k2 k3 k5:Option Value),
  K.lookup CB=ρ (Ý nm q CB N bs NI hd sn sub ab col dd k0 k1 k2 k3 k5 "ValueError.__new__")
def QF(K:Z6)(CB:Addr)(tb:M4)(j i:Nat):TS:=λD σ H=>tb (λσ' cv od H'=>∃C nm,cv=.ref C/\cg K C CB nm/\∀e,H' e=τ->D.nx (((σ'.set j (ρ (.ref e))).set i (ρ (.ref e))).set j τ) (upd H' e (XC e C od))) D σ H
section
variable{prog:ZC}{w:World}{A:Around}{R:à->Shared->Prop}{h:Heap}{g:Array õ}{d:Drawn}{t:Nat}{os:Ì}{nm q:Str}{C CB N:Addr}{bs:List Value}{hdct:Bool}{sn:List Str}{sub:List Value}{ab:Bool}{col:Option Bool}{dd:Option Addr}{k0 k1 k2 k3 k5:Option Value}
theorem J1{M:Model}{E:Value->Shared->Prop}{rest:List Value}{Q:Unit->Shared->Prop}(j:h.get? C=ρ (Ý nm q C N bs (pQ CB) hdct sn sub ab col dd k0 k1 k2 k3 k5 "ValueError.__new__"))
 (l:Q .unit ⟨h,g,d,t,os⟩):wpAny M A (ū "ValueError.__new__" {.ref C::rest,[]}) Q E ⟨h,g,d,t,os⟩:=by
 have F:=γ;have a:(Zo C::pQ CB).contains (.type "ValueError")=true:=rfl;have b:=F.noStar;simp only[ū,F.newKind,F.newSplit,F.newRow]
 repeat (first |refine ÿ j ?_ |(refine ō j ?_;rw[a]) |refine wpAny_staticBase_exc j ?_ |refine wpAny_madeBy_exc j ?_ |simp only[bne_self_eq_false,ġ,if_false] |wp_step)
 exact l
theorem J4{rest:List Value}(j:h.get? C=ρ (Ý nm q C N bs (pQ CB) hdct sn sub ab col dd k0 k1 k2 k3 k5 "ValueError.__new__"))
 (o:R (.ok (.ret (.ref (h.7+1)))) {(h.push {cls:=.type "tuple",data:=.seq rest.6}).push
   {cls:=.ref C,data:=.fields #[.ref h.7,.none,.none,.none,.bool false,.none]},g,d,t,os}) (l:rest.9<=sizeLine:=by size_fits) :
 codeAny (model prog w) A (.builtin "ValueError.__new__" {.ref C::rest,[]}) R ⟨h,g,d,t,os⟩:=by
 have F:=γ;have a:=F.ends;have b:(Zo C::pQ CB).contains (.type "ValueError")=true:=rfl;have c:(Zo C::pQ CB).contains (.type "AttributeError")=false:=rfl;have e:(Zo C::pQ CB).contains (.type "NameError")=false:=rfl;refine codeAny_builtinAt F.entry ?_;unfold È.«BaseException.__new__»;refine whs ?_;show PySem.wpAt _ _ _ (PySem.stack >>= _) _ _ _;refine whs (PySem.wpAt_stack λp f=>wgn ?_)
 wp_walk
 refine wgn ?_;rw[F.owner]
 repeat (first |with_reducible refine wpAny_madeHere_exc F.canon j ?_ |with_reducible refine ÿ j ?_ |(with_reducible refine ō j ?_;first |rw[b] |rw[c] |rw[e]) |wp_step)
 show R _ _;rw[ã];exact o
theorem qm{E:Value->Shared->Prop}{Q:Flow->Shared->Prop}(l:A.handled=τ)
 (h:wpAny M A (eval x env) (λv j=>∃e od t,v=.ref e/\j.heap.get? C=ρ (Ý nm q C N bs (pQ CB) hdct sn sub ab col dd k0 k1 k2 k3 k5 "ValueError.__new__") /\
   j.heap.get? e=ρ {cls:=.ref C,dict:=od,data:=.fields #[.ref t,.none,.none,.none,.bool false,.none]}/\E (.ref e) j) E s) :
 wpAny M A (exec (.Raise (ρ x) τ pos) env) Q E s:=by
 have key:wpAny M A (raiseStmt env (ρ (do let v <-eval x env;standAt pos;pure v)) τ) Q E s:=by
  have b:(Zo C::pQ CB).contains (.type "BaseException")=true:=rfl;unfold raiseStmt;refine Z7 (Z7 (Å h (λv j a=>Z7 (Ŕ (Zc ?_))) λ_ _ x=>x))
  let{e,od,t,rfl,c,f,i}:=a
  let{k,g,d,m,os}:=j
  repeat (first |with_reducible refine ÿ f ?_ |with_reducible refine ÿ c ?_ |(with_reducible refine ō c ?_;rw[b]) |wp_step)
  exact wpAny_raiseNew_none l i
 rw[arm_exec_Raise];exact Z7 (Ŕ key)
end
section
variable{X:Cx}{e o:Expr}{es:List Expr}{ta:TE}{t:TA}{pos apos:Pos}{C f:Addr}{q:Str}{st:Stmt}{ps:List Str}{k:Nat}{sp:Sp}
theorem AB{m:Str}{fd:Ë}{pl:Sem Bool}(he:PE X o ta)(c:z8 X.K C)(g:jC X.K C m q st ps f fd)(F:aW X.prog X.w X.K X.mg X.base cY k f fd ps sp)(l:d5 k X.A:=by exact d5.mono (by assumption) ⋯)
 (r:eval (.Call (.Attribute o m apos) [] [] pos) X.5=(do
   let j <-eval o X.5
   standAt apos.atName
   let (f,first) <-holding [j] (ķ j m pl)
   callWith pos f first (backTo pos (starEach [] X.5)) (backToKw pos (Ĝ [] X.5))):=by rfl) :
 PE X (.Call (.Attribute o m apos) [] [] pos) (Bl C m sp [] E0 ta Ce):=F4 he c g.m F l g.b .nil lU r
theorem NK{m:Str}{fd:Ë}{pl:Sem Bool}(he:PE X o ta)(c:z8 X.K C)(j:jC X.K C m q st ps f fd)(F:aW X.prog X.w X.K X.mg X.base cY k f fd ps sp)(ha:PA X (e::es) t)(r:d5 k X.A:=by exact d5.mono (by assumption) ⋯)
 (g:starEach (e::es) X.5=(false,eval e X.5)::starEach es X.5:=by rfl) (hpl:(backTo pos (starEach es X.5)).any (·.1)=false:=by rfl)
 (I:eval (.Call (.Attribute o m apos) (e::es) [] pos) X.5=(do
   let l <-eval o X.5
   standAt apos.atName
   let (f,first) <-holding [l] (ķ l m pl)
   callWith pos f first (backTo pos (starEach (e::es) X.5)) (backToKw pos (Ĝ [] X.5))):=by rfl) :
 PE X (.Call (.Attribute o m apos) (e::es) [] pos) (Bl C m sp [] E0 ta t):=HU he c j.m F r j.b .nil lU ha g hpl I
end
section
variable{M:Model}{A:Around}{E:Value->Shared->Prop}{e C CB:Addr}{nm q Dn qB:Str}{N NB:Addr}{bs VA:List Value}{hdct VB:Bool}{sn VC:List Str}{sub subB:List Value}{ab VD:Bool}{col QG:Option Bool}{dd VE:Option Addr}{k0 k1 k2 k3 k5 l0 l1 l2 l3 l5:Option Value}
theorem Lq{h:Heap}{g:Array õ}{d:Drawn}{t:Nat}{os:Ì}{l:Obj}{Q:Bool->Shared->Prop}(o:h.get? C=ρ (Ý nm q C N bs (pQ CB) hdct sn sub ab col dd k0 k1 k2 k3 k5 "ValueError.__new__"))
 (p:h.get? CB=ρ (Ý Dn qB CB NB VA NI VB VC subB VD QG VE l0 l1 l2 l3 l5 "ValueError.__new__")) (he:h.get? e=ρ l) (j:l.cls=.ref C) (r:Q true ⟨h,g,d,t,os⟩) :
 wpAny M A (excMatches (.ref e) (.ref CB)) Q E ⟨h,g,d,t,os⟩:=by
 have a:(Zo CB::NI).contains (.type "BaseException")=true:=rfl;have b:(Zo C::pQ CB).contains (.ref CB)=true:=by simp[wee]
 have f:=tc_notTuple;unfold excMatches
 repeat (first |(with_reducible refine ÿ he ?_;rw[j]) |with_reducible refine ÿ o ?_ |with_reducible refine ÿ p ?_ |(with_reducible refine ō o ?_;rw[b]) |(with_reducible refine ō p ?_;rw[a]) |wp_step)
 exact r
end
section
variable{X:Cx}{CB:Addr}{Dn n x J5:Str}{body:List Stmt}{tb:M4}{i j:Nat}{p1 p2 p3 p4 QH pos:Pos}
theorem Lr(r:X.stack=X.5::X.outer/\X.env.frame=ρ X.env.locals)(l:MY X body tb)(hg:Gl X Dn)(hm:X.mg Dn=ρ (.ref CB))(TB:AA X.K CB J5)(T:X.N.Nodup)(J:X.N[j]?=ρ n)(hi:X.N[i]?=ρ x)
 (g:X.env.scope.names.lookup n=ρ .local) (hx:Loc X.env.scope x) (VF:(Dn==("__debug__":Str))=false:=by decide) (VG:(n==("__debug__":Str))=false:=by decide) (VH:(n==("__classdict__":Str))=false:=by decide)
 (hf:X.fn x=true\/X.env.scope.names.lookup x=ρ .local:=by first |exact .inl rfl |exact .inr rfl |assumption) (Qm:ë (.Name n p3) (ρ (.Name x p2)) p4.line X.5=pure false:=by rfl) :
 PS X (.Try body [.ExceptHandler (ρ (.Name Dn p1)) (ρ n) [.Assign [.Name x p2] (.Name n p3) p4] QH] [] [] pos) (QF X.K CB tb j i):=by
 refine{?_};intro a s σ H D I h;refine wpAny_Try_except (Å (l a s σ H D _ I h) (λf s1 q=>?_) λev s1 q=>?_)
 .cases f with
  |next=>exact ņ q
  |ret v=>exact q
  |brk=>exact q
  |cont=>exact q
 let{k,H0,w,d,e,L,M,u,rfl,t,bare,un,bc,F,C,SZ,O,U,hD}:=q
 cases O;have I1:Inv X a k u s1:=d.vo t un bc bare λb z=>absurd z (by simp);have Q:(X.5::X.outer).filterMap (·.frame)=qW X.stack:=by rw[r.1];rfl
 have A:=I1.rE
 have B:w.8<=s1.8:=whg λz=>by
  let{R,_,vs,sl,he,_}:=F
  exact absurd (Zx (ß R (Zg he)) (weQ z)) (Ø _)
 refine xT (lo:=w.8) (H:=u) (base:=X.base) (outer:=X.outer) (by rw[<-r.1];exact d.ok.frames) (by rw[<-r.1];exact I1.stack) r.2 B (λb l=>bc.fresh l) F λh2 F2 p=>?_;rw[Q]at p
 let{S,E,J2}:=d.EE t bare un bc p A
 have V:=J2 s1.toks
 let{qC,NC,Yk,Yl,VI,Ym,VJ,Yn,c0,c1,c2,c3,c5,Y}:=U.lk
 let{qT,NT,Yo,Yp,Yq,VL,Yr,VM,Ys,t0,t1,t2,t3,t5,Z}:=TB.lk
 let{VN,Yt,QI,_}:=id F2.ob
 refine wpAny_handleBy_cons (codeAny_handlers_test (i6 (X:=X.marked e) (V.marked (e:=e)) hg hm ?_ VF)) (by intro z;cases z);refine Lq (V.gE _ _ Y) (V.gE _ _ Z) QI rfl ?_;refine codeAny_handlers_suite_as ?_;refine zz F2 λh3 F3 k3=>?_;have VO:El w.heap.objs.size u (qW X.stack) h2 h3:={λb o q l _=>k3 b o q l,λb o q l=>{o.slots,k3 b o q (.inl ?_)}}
 rotate_left
 ·
  have:∃o,w.heap.get? b=ρ o:=by
   let{_,o,G,_}:=d.stack.mem l
   exact⟨o,G⟩
  let{o,G}:=this
  exact Zg G
 let{Yu,VP,J3}:=d.EE (s1:={s1 with heap:=h2}) t bare S E VO A
 have I3:=J3 s1.toks
 let{T1,Yv,VQ,_}:=id F3.ob
 have old:∀{b:Addr},b<w.8->b≠e:=λl z=>by rw[z]at l;exact absurd (Zx l F.ge) (Ø _)
 have VR:Inv X a k (upd u e (XC e L M)) {s1 with heap:=h3}:=I3.N9 F.nt (Zn d.sz F.ge) (Á (old d.lt)) (λy c hc=>old (by
  let{v,o,G,_}:=d.cell y c hc
  exact Zg G)) (λp hp=>old (Zg (d.pin p hp).1)) (Qi VQ)
 refine iJ (v:=.ref e) VR T J (.inl g) rfl (λs4 I4=>?_) (.inr g);have OA:j<k.9:=by rw[d.len];exact(Za.mp J).1
 have ev:=En (X:=(X.marked e).Hs) (pos:=p3) J (.inl g) VG VH a s4 _ (upd u e (XC e L M)) (λv VS=>v=.ref e/\VS=upd u e (XC e L M)) ((I4.marked (e:=e)).nh _) {.ref e,ŋ OA,rfl,rfl};refine Ű (wex (Nb (cj ev λv s5 ⟨y,H5,I5,r5,ey,eH⟩=>?_)) Qm);subst ey;subst eH;have I5:=(I5.gm).unmarked d.ok;refine iJ I5 T hi hx r5 (λs6 I6=>ņ ?_) hf
 let{m,hn,hl}:=id I6.loc
 refine wpAny_nameGoes_keeps g hn (by rw[I6.ok.kind];rfl) λh7 v7 VU VW=>?_;exact{_,_,I6.EI (m:=m) (tk:=s6.toks+1) T J g ⟨m,hn,hl,VU⟩ VW,hD e F.nt}
end
end _L
namespace _L
open PySem.Spec PyProof.Rows Builtin Builtin.ObjectAttr
section
variable{prog:ZC}{w:World}{A:Around}{E:Value->Shared->Prop}{s:Shared}{K:Z6}{x C CB:Addr}{nm:Str}{od:Option Addr}
def ExcAt(x C:Addr)(od:Option Addr)(h:Heap):Prop:=(∃vs sl,h.get? x=ρ {.ref C,od,.fields vs,sl})/\∀d,od=ρ d->∃o,h.get? d=ρ o
theorem ExcAt.inst(e:ExcAt x C od h):∃ox o,InstAt h x ox C o:=by
 let{{c,sl,a},hd}:=e
 cases od with
 |none=>exact{_,τ,a,rfl,rfl,trivial}
 |some d=>
  let{o,b}:=hd d rfl
  exact{_,ρ o,a,rfl,rfl,b}
structure tH(K:Z6)(C:Addr):Prop where
 ha:findIn K (.ref C) "__class__"=ρ (ρ (.builtin "object.__class__"))
 hn:wgK K (.builtin "object.__class__") "__get__"=ρ (ρ (.builtin "getset_descriptor.__get__"))
 lB:takesIn K (.builtin "object.__class__")=ρ true
theorem Dp{Q:Option Value->Shared->Prop}(U:cg K C CB nm)(Y:tH K C)(X:K.In s.heap)(I:ExcAt x C od s.heap)(h:Q (ρ (.ref C)) {s with toks:=s.toks+1}):wpAny (model prog w) A (getAttr? (.ref x) "__class__") Q E s:=by
 let{ox,o,I}:=I.inst
 let{q,N,bs,k,sub,ab,c,l,m,n,p,r,t,lk}:=U.lk
 have hc:∃b,clsIn K C=ρ b:={_,by unfold clsIn;rw[lk]};have d:mroIn K C (.type "object")=ρ true:=by unfold mroIn clsIn;rw[lk];rfl
 have a:mroIn K C (.type "BaseException")=ρ true:=by unfold mroIn clsIn;rw[lk];rfl
 have G:=weq.ga
 have f:findObj K C o "__class__"=ρ (.bind (.builtin "getset_descriptor.__get__") (.builtin "object.__class__")):=by
  let{b,hc}:=hc
  unfold findObj;rw[hc,Y.ha];simp only[ζ];rw[Y.hn];simp only[ζ];rw[Y.lB];rfl
 unfold getAttr? getAttrBy? getAttrBy;refine Z7 (wpAny_mkText (Z7 (ŉ (ZX (Z7 (I.type _ _ _ _ (λ_ _ e=>e) (Z7 (ő X U.ga _ _ _ _ (λ_ _ e=>e) ?_))))))));dsimp only;rw[show (į (Zo C)&&Ċ "BaseException.__getattribute__" == Ċ "object.__getattribute__")=false from by rw[show (Ċ "BaseException.__getattribute__" == Ċ "object.__getattribute__")=false from by decide+kernel,ĭ],if_neg ⋯];have g:Looks (model prog w) s.heap (hookBefore (.ref C)) τ:=looks_hook X (by show (if į (Zo C) then findIn K (.ref C) "__getattr__" else ρ τ)=ρ τ;rw[if_pos (show į (Zo C)=true from rfl)];exact U.gh);refine Z7 (g _ _ _ _ (λ_ _ e=>e) (Z7 (ŉ (ZX ?_))));unfold callGetattribute;rw[show (false&&į (Ċ "BaseException.__getattribute__"))=false from rfl,if_neg ⋯];unfold boundAndCalled;rw[G.bind];refine Z7 (Zc ?_);show wpAny _ _ (call (.builtin "BaseException.__getattribute__") [.ref x,.str "__class__" s.toks]) _ _ _;refine â ?_;have sub:Looks (model prog w) s.heap (š (.ref x) (.type "BaseException")) true:=I.type.andThen (Η X a);refine ĩ G.plain wfP ?_;refine @wgm (model prog w) _ _ {s with toks:=s.toks+1} "BaseException.__getattribute__" "BaseException" "__getattribute__" (.ref x) [.str "__class__" s.toks] [] _ ∅ ∅ sub (wg3 (.ref x) (.str "__class__" s.toks)) ?_;have i:=I.type (M:=model prog w);have j:=looks_find (M:=model prog w) X I f;unfold È.«object.__getattribute__»;refine Z7 (Zc ?_);refine Z7 (Zc (Z7 (i _ _ _ _ (λ_ _ e=>e) (Z7 (j _ _ _ _ (λ_ _ e=>e) ?_)))));show wpAny _ _ (holding [.builtin "object.__class__"] (call (.builtin "getset_descriptor.__get__") [.builtin "object.__class__",.ref x,.ref C]) >>= ret) _ _ _;refine Z7 (ZX (â (class_get (s:={s with toks:=s.toks+1}) (ox:=ox) (od:=o) X I d ?_)));refine Zc ?_;exact handed_on rfl (Zc h)
theorem tI:kitOne K (.ref C) (.ref C)=ρ true:=by
 unfold kitOne;rw[if_pos (by simp)]
end
theorem cg.ne{K:Z6}{C D CB j:Addr}{nm g:Str}(U:cg K C CB nm)(l:cg K D j g)(h:¬nm=g):C≠D:=λe=>by
 subst e
 let{q,N,bs,s,sub,ab,d,t,u,v,w,x,y,f}:=U.lk
 let{z,A,i,k,b,m,c,n,B,p,E,G,H,a}:=l.lk
 rw[f]at a;have:=congrArg (λo=>match o with |some (⟨_,_,.cls r,_⟩:Obj)=>r.name |_=>nm) a;exact h this
theorem cg.neT{K:Z6}{C CB g:Addr}{nm j:Str}(U:cg K C CB nm)(T:AA K g j)(h:¬nm=j):C≠g:=λe=>by
 subst e
 let{q,N,bs,s,sub,ab,d,t,u,v,w,x,y,f}:=U.lk
 let{z,A,i,k,l,b,m,c,n,B,p,D,E,G,a}:=T.lk
 rw[f]at a;have:=congrArg (λo=>match o with |some (⟨_,_,.cls r,_⟩:Obj)=>r.name |_=>nm) a;exact h this
def NM(K:Z6)(ta:TE)(f:Str):TE:=λσ H Q=>ta σ H λy H1=>∃e C CB d nm fs v,y=.ref e/\H1 e=ρ (XC e C (ρ d))/\H1 d=ρ (.xd fs)/\cg K C CB nm/\findIn K (.ref C) f=ρ τ/\fs.lookup f=ρ v/\Q v H1
section
variable{K:Z6}{x C CB:Addr}{nm:Str}{od:Option Addr}
theorem yH(U:cg K C CB nm)(Y:tH K C):KitX K (.ref x) (.ref C) (ExcAt x C od) where
 ty:=λM h X I=>by
  let{r,o,I}:=I.inst
  exact I.type
 it:=λM h X I=>by
  let{q,N,bs,c,sub,ab,a,d,f,g,i,j,l,lk}:=U.lk
  intro s t u v k q;unfold isType loadHead;exact Z7 (΢ (k _ _ (X _ _ lk)) (Zc q))
 ne:=λh tp m p n sl X b=>by
  let{q,N,bs,c,sub,ab,a,d,f,g,i,j,l,lk}:=U.lk
  refine wgY.mpr λq=>?_;have e:C=tp:=Value.ref.inj (beq_iff_eq.mp q);subst e;have z:=congrArg (λo=>o.map (·.cls)) ((X _ _ lk).symm.trans b);simp at z
 ca:=λX I k=>Dp U Y X I k
theorem w9(U:cg K C CB nm):kitOne K (.ref C) (.type "ValueError")=ρ true:=by
 unfold kitOne;rw[if_neg (by simp)]
 let{q,N,bs,b,sub,ab,a,c,d,e,f,g,h,lk}:=U.lk
 unfold kitCls;dsimp only;rw[if_pos ∅];unfold subIn mroIn clsIn;dsimp only;rw[lk];rfl
end
section
variable{X:Cx}
set_option genInjectivity true in
inductive Dq(K:Z6)(H:Hp):V->V->Bool->Prop where
 |exc {e C CB:Addr} {od:Option Addr} {nm:Str} {D:Addr} {b:Bool} (h:H e=ρ (XC e C od)) (hd:∀d,od=ρ d->∃fs,H d=ρ (.xd fs)) (U:cg K C CB nm) (Y:tH K C) (k:kitOne K (.ref C) (.ref D)=ρ b):Dq K H (.ref e) (.ref D) b
 |val {e C CB:Addr} {od:Option Addr} {nm:Str} {T:String} {b:Bool} (h:H e=ρ (XC e C od)) (hd:∀d,od=ρ d->∃fs,H d=ρ (.xd fs)) (U:cg K C CB nm) (Y:tH K C) (k:kitOne K (.ref C) (.type T)=ρ b):Dq K H (.ref e) (.ty T) b
 |oth {x:V} {t:Value} {D:Addr} {b:Bool} (h:dD K H x t) (k:kitOne K t (.ref D)=ρ b):Dq K H x (.ref D) b
 |otb {x:V} {t:Value} {T:String} {b:Bool} (h:dD K H x t) (k:kitOne K t (.type T)=ρ b):Dq K H x (.ty T) b
theorem bJ:cu X (.builtin "isinstance") (λxs H Q=>∃x c b,xs=[x,c]/\Dq X.K H x c b/\Q (.bl b) H):=by
 intro j s σ H xs v Q I r h
 let{x,c,b,rfl,l,q}:=h
 let{u,w,rfl,f,g}:=vals2 r
 have at_:∀{e C:Addr} {i:Option Addr},H e=ρ (XC e C i)->(∀d,i=ρ d->∃fs,H d=ρ (.xd fs))->ExcAt e C i s.heap:=λ{e C i} h hd=>by
  let{{m,sl,n},_}:=I.bc e _ h
  refine{⟨m,sl,n⟩,λd e=>?_}
  let{fs,p}:=hd d e
  let{y,{o,_,_,t,_},_}:=I.bc d _ p
  exact⟨o,t⟩
 cases l with
 |exc h hd U Y k=>
  cases f;cases g;exact kia_one (yH U Y) I.gE (at_ h hd) k (λz=>nomatch z) λa=>{.bl b,H,I.tok a,rfl,q}
 |val h hd U Y k=>
  cases f;cases g;exact kia_one (yH U Y) I.gE (at_ h hd) k (λz=>nomatch z) λa=>{.bl b,H,I.tok a,rfl,q}
 |oth h k=>
  cases g;exact lF I f h k λa=>{.bl b,H,I.tok a,rfl,q}
 |otb h k=>
  cases g;exact lF I f h k λa=>{.bl b,H,I.tok a,rfl,q}
theorem ic(he:PE X e j)(l:ė e f X.env (eval e X.5)=eval e X.5):PE X (.Attribute e f pos) (NM X.K j f):=by
 refine{?_};intro a s σ H Q I h;refine BD l (cj (he a s σ H _ I h) λu E ⟨y,i,b,k,e,C,CB,d,m,fs,v,n,p,t,U,ha,hl,q⟩=>?_);subst n;obtain rfl:u=Zo e:=k
 let{{w,sl,x},_}:=b.bc e _ p
 let{z,ns,r}:=b.bc d _ t
 let{o,hd,look}:=vh ns
 let{A,N,bs,B,sub,ab,c,G,J,L,M,O,R,lk}:=U.lk
 let{S,D,g}:=iY.rA (v:=v) (o:=z f) (by rw[<-hl];exact r f)
 refine Gd (CB:=CB) (ox:={.ref C,ρ d,.fields w,sl}) (od:=o) b.gE ⟨x,rfl,rfl,hd⟩ (cd:={name:=m,bases:=bs,mro:=.ref C::pQ CB,ns:=N,qualname:=A,hasDict:=true,slotNames:=B,subclasses:=sub,abstract:=ab,collection:=c,hasDel:=false}) (by unfold clsIn;rw[lk]) rfl rfl U.ga U.gh ha (by rw[look,D]) (uW g) ?_;exact{v,i,b.tok _,g,q}
end
section
variable{K:Z6}{C CB D:Addr}{nm BV J5:Str}
theorem cg.cls(V:cg K D CB BV):(clsIn K D).isSome=true/\typeIn K (.ref D)=ρ (.type "type"):=by
 let{h,i,d,e,b,f,c,g,j,k,l,m,n,a}:=V.lk
 refine{by unfold clsIn;rw[a];rfl,?_};show Option.map (λx=>x.cls) (K.lookup D)=ρ (.type "type");rw[a];rfl
theorem tJ(U:cg K C CB nm)(V:cg K D CB BV)(T:AA K CB J5)(g:¬BV=J5)(e:¬nm=BV):kitOne K (.ref C) (.ref D)=ρ false:=by
 unfold kitOne;have ne:=U.ne V e;rw[if_neg (by simpa using ne)]
 let{q,N,bs,h,sub,ab,a,i,j,k,l,m,n,lk}:=U.lk
 let{b,c}:=V.cls
 unfold kitCls;dsimp only;rw[b,c,if_pos (by rfl)];unfold subIn mroIn clsIn;dsimp only;rw[lk];show ρ ((Zo C::pQ CB).contains (.ref D))=ρ false;have d:(Zo D==Zo C)=false:=by simpa using Á ne
 have f:(Zo D==Zo CB)=false:=by simpa using V.neT T g
 simp only[wee,d,f,Ŋ];rfl
end
end _L
namespace _L
open PySem.Spec PyProof.Rows
section
variable{X:Cx}{tg:Expr}
theorem Dr{P:ZC}{w:World}{K:Z6}{T:Expr}(d it:Addr)(o:Obj)(kvs:List (Key×V))(U:Array DictEntry)(ep:Nat)(J:o.data=.dict U ep):Turn P w K T (HF d o kvs) [it] it (λi h=>h.IsKeyIter it d i kvs.length ep) where
 mem:=by simp
 obj:=λi h st b f=>by
  have e:b=it:=by simpa using f
  subst e
  let{o,e,c,p}:=st
  exact{o,e,λv z=>by rw[p]at z;cases z}
 keep:=λi h m st k=>st.at λo e=>k it (by simp) o e
 item:=by
  intro X q hw r hc i a s σ H E I n st u;subst q hw r
  let{x,hi}:=u
  let{L,rel,g}:=zF I x J
  have G:kvs[i]?=ρ kvs[i]:=by simp[hi]
  let{{k,v},M,N,_}:=Ec rel G
  let{A,f1,f2,B,C,D}:=n it (by simp)
  rw[rel.9]at st;refine wpAny_pyNext_dict_item st g M λkey m l j sb=>?_;have O:Inv X a σ H {s with heap:=m}:=I.turned (t':=s.toks) (λb o f e=>(sb.2 b f).trans e) A f1 B C D
  let{S,e,c,p}:=id j
  rw[<-rel.9]at j;refine{key,rfl,Bg (s:={s with heap:=m}) e c p ⋯ {kV kvs[i].1,H,O,?_,{rfl,_,G,rfl},j,λb f=>(n b f).1}};have Q:kvs[i].1=k:=N;rw[Q];rcases cm l with⟨i,t,rfl,rfl⟩ |⟨y,t,rfl,rfl⟩
  .exact⟨t,rfl⟩
  .exact⟨t,rfl⟩
 done:=by
   intro X q hw r hc i a s σ H E I n st u;subst q hw r
   let{x,hi}:=u
   let{L,rel,g}:=zF I x J
   let{A,f1,f2,B,C,D}:=n it (by simp)
   rw[rel.9]at st hi;exact wpAny_pyNext_dict_end (I.ok.hd hc) st g (by simp;omega) λm R=>{rfl,I.turned (t':=s.toks) (λb o f e=>R b o f e) A f1 B C D}
 self:=λ_ _ _ _ _ st h=>wpAny_pyIter_keyiter st h
theorem ie{l:Expr}{p:TE}(hl:PE X l p):PI X tg l (MM p):=by
 refine{?_};intro a s σ H R I h;refine cj (hl a s σ H _ I h) λv g ⟨x,D,m,t,j⟩=>?_
 let{d,f,e,q}:=j
 subst e;cases t
 have key:∀{i:Hp} {o:Obj},Inv X a σ i g->i d=ρ (.frz o (.dK f))->R (HF d o f) i->wpAny (model X.prog X.w) X.A (pyIter (.ref d)) (Oq X a σ tg R) X.xe g:=λ{i o} c hd u=>by
  let{E,lo,y,n,G,z,B,j,J,r,L}:=kg c.bc (.inr ⟨o,hd⟩)
  let{C,_}:=c.bc d _ hd
  rw[C]at j;cases j
  let{M,rel,k}:=zF c hd r
  refine wpAny_pyIter_dict lo k ?_;refine{g.8,[g.8],_,_,i,rfl,c.kept (t':=g.toks) λb o e=>Zb _ e,Dr d _ o f z B r,{_,Zr _ rfl,rfl,by rw[rel.9];rfl},λb N=>?_,u};have e:b=g.8:=by grind
  subst e;exact c.Cr (Zf _) (c.bc.fresh (Zf _))
 rcases q with⟨hd,q⟩ |⟨o,hd,q⟩
 .let{o,O,c}:=m.freeze hd
  exact key c a7 (q o)
 .exact key m hd q
theorem AD(l:X.A.units<À):jZ X (Æ .NotEq) (PL X.K):=by
 intro m s σ H x y v u Q I D E h
 let{a,b,f,g,rfl,rfl,ha,G,J,L,q}:=h
 cases D;cases E
 let{d,n,o,_}:=I.list ha
 let{c,p,r,_}:=I.list G
 have M:=n.9;have V:=p.9
 by_cases hl:f.9=g.9
 .refine wgH (e:=λj=>ph (f.getD j .non) (g.getD j .non)) o.isList r.isList (by simp only[ZB];lia) l (λj N O=>?_) X.prog X.w _ _ ?_
  .have i:j<d.9:=by simpa using N
   have k:j<c.9:=by simpa using O
   have t:f[j]?=ρ (f.getD j .non):=by rw[Z8];simp[show j<f.length by lia]
   have z:g[j]?=ρ (g.getD j .non):=by rw[Z8];simp[show j<g.length by lia]
   let{R,B,S}:=n.get t
   let{T,C,U}:=p.get z
   have g1:d.toArray[j]=R:=by
    have:d[j]?=ρ d[j]:=by simp[i]
    rw[this]at B;simpa using Zi B
   have g2:c.toArray[j]=T:=by
    have:c[j]?=ρ c[j]:=by simp[k]
    rw[this]at C;simpa using Zi C
   rw[g1,g2];exact pz S U (ZM.mp J _ (Zv t)) (ZM.mp L _ (Zv z))
  .rw[mH hl]at q;refine{.bl _,H,I,rfl,?_};rw[ZB,<-M];exact q
 .refine SeqAt.RcNeAt.lists_lengths o.isList r.isList (by simp only[ZB,bne_iff_ne];lia) l X.prog X.w _ _ {.bl true,H,I,rfl,?_};rw[xP hl]at q;exact q
theorem fR{K:Z6}{J:It}{Ok:Hp->Prop}{j:List Addr}{prs:List (V×V)}{l:Addr}{C:St}{tt:TT}{te:TE}{H:Hp}{Q:Hp->Prop}(p:V×V->Bool)(g:V×V->V)(U:jS J Ok (j.map V.ref))(hT:cA H j (prs.map lR))(hl:H l=τ)(hz:j.9<=sizeLine)(I:∀r,a8 H r->Ok r)
 (ht:∀q t T,q∈prs->a8 H t->(∀r,a8 t r->T (p q) r)->tt (ρ q.1::ρ q.2::C) t T)
 (he:∀q t T,q∈prs->p q=true->a8 H t->(∀r,a8 t r->T (g q) r)->te (ρ q.1::ρ q.2::C) t T)
 (hd:∀r,a8 H r->r l=ρ (.lst ((prs.filter p).map g))->Q r):iw K J l C tt te H Q:=by
 have f:j.9=prs.9:=by rw[hT.1,Z4]
 refine{λi m s d=>m=j.9-i/\i<=j.9/\a8 H d/\d l=ρ (.lst s)/\s=((prs.take i).filter p).map g,{j.9,by simp,ZE _,a8.upd hl,a7,by simp},?_};rintro i m s d ⟨rfl,hi,c,k,n⟩;refine{k,?_}
 by_cases a:i<j.9
 .refine .inr {U.go i d (I _ c) (by rw[Z4];exact a),?_,λx t y=>?_}
  .rw[n,Z4];refine ß (ă _ _) ?_;rw[Zq];omega
  .let{e,v}:=U.ur i d x t (I _ c) (by rw[Z4];exact a) y
   subst e;have w:prs[i]?=ρ prs[i]:=Z5 1.0;have z:j[i]?=ρ j[i]:=Z5 a;rw[Z9,z]at v;obtain rfl:V.ref j[i]=x:=Zi v;have mem:prs[i]∈prs:=ZQ _;have A:prs.take (i+1)=prs.take i++[prs[i]]:=by rw[Ô,w];rfl
   refine{j[i],prs[i].1,prs[i].2,rfl,g8.of (c _ _ (hT.2 i j[i] _ z (by rw[Z9,w];rfl))),ht prs[i] _ _ mem c λD h=>?_}
   cases u:p prs[i] with
   |false=>
    rw[if_neg Zu];refine{j.9-(i+1),1.0,rfl,a,c.trans h,h _ _ k,?_};rw[A,Ĉ,n];simp[u]
   |true=>
    rw[if_pos rfl];refine he prs[i] _ _ mem u (c.trans h) λE B=>{B _ _ (h _ _ k),j.9-(i+1),1.0,rfl,a,λb o e=>?_,a7,?_}
    .rw[af (aa e hl)];exact B _ _ (h _ _ (c _ _ e))
    .rw[A,Ĉ,n];simp[u]
 .have e:i=j.9:=1.0;subst e;refine .inl {?_,hd d c ?_}
  .have:=U.stop d (I _ c);rwa[Z4]at this
  .rw[k,n,f,ZI]
theorem Ds{K:Z6}{J:It}{Ok:Hp->Prop}{j:List Addr}{prs:List (V×V)}{l:Addr}{I:St}{tt:TT}{te:TE}{H:Hp}{Q:Hp->Prop}(p:V×V->Bool)(g:V×V->List V)(hJ:jS J Ok (j.map V.ref))(hT:cA H j (prs.map lR))(hl:H l=τ)(hz:j.9<=sizeLine)(T:∀t,a8 H t->Ok t)
 (ht:∀q C U,q∈prs->a8 H C->(∀t,a8 C t->U (p q) t)->tt (ρ q.1::ρ q.2::I) C U)
 (he:∀q C U,q∈prs->p q=true->a8 H C->(∀r t,a8 C t->t r=ρ (.tup (g q))->U (.ref r) t)->te (ρ q.1::ρ q.2::I) C U)
 (hd:∀ys t,a8 H t->t l=ρ (.lst (ys.map V.ref))->cA t ys ((prs.filter p).map g)->Q t):iw K J l I tt te H Q:=by
 have h:j.9=prs.9:=by rw[hT.1,Z4]
 refine{λi m B d=>m=j.9-i/\i<=j.9/\a8 H d/\∃ys:List Addr,B=ys.map V.ref/\d l=ρ (.lst (ys.map V.ref))/\cA d ys (((prs.take i).filter p).map g),{j.9,by simp,ZE _,a8.upd hl,[],rfl,a7,by simpa using cA.nil _},?_};rintro i m B d ⟨rfl,hi,c,ys,rfl,k,n⟩;refine{k,?_}
 by_cases a:i<j.9
 .refine .inr {hJ.go i d (T _ c) (by rw[Z4];exact a),?_,λx C y=>?_}
  .rw[Z4,n.1,Z4];refine ß (ă _ _) ?_;rw[Zq];omega
  .let{e,D}:=hJ.ur i d x C (T _ c) (by rw[Z4];exact a) y
   subst e;have E:prs[i]?=ρ prs[i]:=Z5 1.0;have G:j[i]?=ρ j[i]:=Z5 a;rw[Z9,G]at D;obtain rfl:V.ref j[i]=x:=Zi D;have mem:prs[i]∈prs:=ZQ _;have L:prs.take (i+1)=prs.take i++[prs[i]]:=by rw[Ô,E];rfl
   refine{j[i],prs[i].1,prs[i].2,rfl,g8.of (c _ _ (hT.2 i j[i] _ G (by rw[Z9,E];rfl))),ht prs[i] _ _ mem c λN f=>?_}
   cases u:p prs[i] with
   |false=>
    rw[if_neg Zu];refine{j.9-(i+1),1.0,rfl,a,c.trans f,ys,rfl,f _ _ k,?_}
    have e:((prs.take (i+1)).filter p).map g=((prs.take i).filter p).map g:=by
     rw[L,Ĉ];simp[u]
    rw[e];exact n.same f
   |true=>
    rw[if_pos rfl];refine he prs[i] _ _ mem u (c.trans f) λr O s v=>{s _ _ (f _ _ k),j.9-(i+1),1.0,rfl,a,λb o e=>?_,ys++[r],by rw[Zk];rfl,by rw[a7,Zk];rfl,?_}
    .rw[af (aa e hl)];exact s _ _ (f _ _ (c _ _ e))
    .have e:((prs.take (i+1)).filter p).map g=((prs.take i).filter p).map g++[g prs[i]]:=by
      rw[L,Ĉ];simp[u]
     rw[e];have w:=s _ _ (f _ _ k);refine cA.keep ((n.same (f.trans s)).snoc v) λR M A=>?_;rw[af (λz=>by rw[z,w]at A;cases A)];exact A
 .have e:i=j.9:=1.0;subst e;refine .inl {?_,hd ys d c k ?_}
  .have:=hJ.stop d (T _ c);rwa[Z4]at this
  .rw[h,ZI]at n;exact n
theorem jl(hc:X.calm=true):cu X (.builtin "sorted") (λxs H Q=>∃d kvs g,xs=[.ref d]/\Rd H d (.dK kvs)/\kvs.map (·.1)=Ú (ZA:Str->Key) g/\g.9<64 /\
 ∀l ss,H l=τ->ss.Perm g->sortedS ss=true->Q (.ref l) (upd H l (.lst (ss.map V.str)))):=by
 intro k s σ H xs Y Q I r h
 let{d,kvs,g,rfl,hd,hk,v,q}:=h
 let{u,rfl,N}:=vals1 r
 cases N
 let{D,lo,x,rel,O}:=kg I.bc hd
 let{ep,y}:=O.dictAt
 have R:=I.ok.hd hc;have n:kvs.9=g.9:=by have:=congrArg ð hk;simpa using this
 have hn:x.9<=sizeLine:=by rw[<-rel.9];exact D
 refine wcW wh3 wgw wgx (wgy _) ?_;unfold È.«sorted»;refine Z7 (m:=checkCount "sorted" 1 1 _) (Zc ?_);refine Z7 (wcT (A:=X.A.in1) (weR (knd:=bG X.prog X.w) (kvs:=x) (ep:=ep) lo) R y hn λi E a z c=>?_);have hl:a.toList.9=x.9:=by rw[ZR];exact c.1
 refine Z7 (Ξ ?_ (by rw[hl];exact hn));have B:StrsAre a.toList g:=xQ (P:=X.prog) (w:=X.w) hk rel hl λj u e=>c.2 j u (by rw[<-á];exact e);have f:(i.push (seqObj "list" a.toList.toArray 0)).get? i.7=ρ (seqObj "list" a.toList.toArray 0):=Zr _ rfl;have p:a.toList.9<64:=by rw[hl,<-rel.9,n];exact v
 refine Z7 (ZX (Č wfE {_,f,rfl} wfg (list_sort_treeK strKind_oneLt f B.keysOf (λG J rest e=>keyKind_strs (by rw[<-e];exact B)) p λC a1 a2=>{1,?_}) (wfF _)))
 let{t,S,L,T}:=sorted_out_str B a1 a2
 have M:Inv X k σ H {s with heap:=i,toks:=E}:=I.kept z
 let{e,U}:=wga (out:=(arrOf C).map (·.2)) f
 refine Zc {1,{.ref i.7,upd H i.objs.size (.lst (t.map V.str)),M.laid (t':=E) (λb o q=>?_) (Zf _) {?_,_,e,pw S,?_},rfl,q _ t (M.bc.fresh (Zf _)) L T}}
 .have lt:b<i.7:=Zg q;rw[wfG (Zt lt) (by rw[ω];exact Ă lt)];exact Zb _ q
 .rw[Z4,L.length_eq,<-n];exact D
 .rw[Ĳ];exact U
theorem tK{Ok:Hp->Prop}{Q:Hp->Prop}(R:Nat->V->Hp->Prop)(C:∀i y I g ys,R i y I->I l=ρ (.lst ys)->(∀b o,I b=ρ o->b≠l->g b=ρ o)->R i y g)(T:jS J Ok xs)(hl:H l=τ)(hz:xs.9<=sizeLine)(r:∀p,a8 H p->Ok p)
 (he:∀i x t ys Q',xs[i]?=ρ x->a8 H t->t l=ρ (.lst ys)->(∀y p,a8 t p->R i y p->Q' y p)->te (ρ x::U) t Q')
 (hd:∀ys p,a8 H p->p l=ρ (.lst ys)->ys.9=xs.9->(∀i y,ys[i]?=ρ y->R i y p)->Q p):kh J l U rV te H Q:=by
 refine{λi m a g=>m=xs.9-i/\i<=xs.9/\a8 H g/\g l=ρ (.lst a)/\a.9=i/\∀j y,a[j]?=ρ y->R j y g,{xs.9,by simp,ZE _,a8.upd hl,a7,rfl,λj y h=>by simp at h},?_};rintro i m a g ⟨rfl,hi,f,k,c,B⟩;refine{k,?_}
 by_cases d:i<xs.9
 .refine .inr {T.go i g (r _ f) d,by rw[c];lia,λx t y=>?_}
  let{e,D}:=T.ur i g x t (r _ f) d y
  subst e;delta rV;dsimp only;rw[if_pos rfl];refine he i x _ a _ D f k λy s u v=>{u _ _ k,xs.9-(i+1),(),rfl,d,λb o e=>?_,a7,by rw[Zd,c];rfl,λj z n=>?_}
  .rw[af (aa e hl)];exact u _ _ (f _ _ e)
  .have q:=u _ _ k;have kp:∀b o,s b=ρ o->b≠l->(upd s l (.lst (a++[y]))) b=ρ o:=λb o e E=>by rw[af E];exact e
   by_cases w:j<a.9
   .rw[ZN w]at n;exact C j z s _ _ (C j z _ _ _ (B j z n) k λb o e _=>u _ _ e) q kp
   .rw[ZL ()]at n
    have A:j-a.9=0:=by
     have:=(Za.mp n).1;simp at this
     lia
    rw[A]at n;cases n;have:j=i:=();rw[this];exact C i y s _ _ v q kp
 .have e:i=xs.9:=();subst e;exact .inl {T.stop g (r _ f),hd a g f k c B}
theorem yI{K:Z6}{J:It}{Ok:Hp->Prop}{xs:List V}{l:Addr}{t:St}{U:TE}{H:Hp}{Q:Hp->Prop}(p:List gi)(hJ:jS J Ok xs)(hl:H l=τ)(hz:xs.9<=sizeLine)(C:p.9=xs.9)(I:∀g,a8 H g->Ok g)
 (he:∀(i:Nat) (x:V) (d:gi) j T,xs[i]?=ρ x->p[i]?=ρ d->a8 H j->(∀y g,a8 j g->bh K (aO j g) d y->T y g)->U (ρ x::t) j T)
 (hd:∀g,a8 H g->bh K (aO H g) (.lst p) (.ref l)->Q g):kh J l t rV U H Q:=by
 refine tK (λi y g=>∀d,p[i]?=ρ d->∃j o,a8 H j/\j l=ρ o/\bh K (aO j g) d y) ?_ hJ hl hz I (λi x j f T k b c m=>?_) (λf g h n e q=>?_)
 .intro i y v w f r s kp d a
  let{j,o,b,c,r}:=r d a
  exact{j,o,b,c,bh.same (bu c kp) d y r}
 .have hi:i<p.9:=by rw[C];exact(Za.mp k).1
  refine he i x p[i] j _ k (Z5 hi) b λy g h r=>m y g h λd a=>?_;rw[Z5 hi]at a;cases a;exact{j,_,b,c,r}
 .refine hd g h {l,f,rfl,.inl (bO hl n),aQ.mL p f (by rw[C,e]) λi d y a u=>?_}
  let{j,o,b,c,r}:=q i y u d a
  exact bh.same (fu b) d y r
theorem AF{K:Z6}{J:It}{Ok:Hp->Prop}{xs:List V}{prs:List (V×V)}{l:Addr}{I:St}{tt:TT}{te:TE}{H:Hp}{Q:Hp->Prop}(p:V×V->Bool)(D:V×V->gi)(hJ:jS J Ok xs)(C:xs.9=prs.9)
 (hT:∀(i:Nat) (q:V×V),prs[i]?=ρ q->∃r,xs[i]?=ρ (.ref r)/\g8 K H r [q.1,q.2]) (hl:H l=τ) (hz:xs.9<=sizeLine) (T:∀t,a8 H t->Ok t)
 (ht:∀q g U,q∈prs->a8 H g->(∀t,a8 g t->U (p q) t)->tt (ρ q.1::ρ q.2::I) g U)
 (he:∀q g U,q∈prs->p q=true->a8 H g->(∀y t,a8 g t->bh K (aO g t) (D q) y->U y t)->te (ρ q.1::ρ q.2::I) g U)
 (hd:∀t ys,a8 H t->t l=ρ (.lst ys)->bh K (aO H t) (.lst ((prs.filter p).map D)) (.ref l)->Q t):iw K J l I tt te H Q:=by
 refine{λi m ys n=>m=xs.9-i/\i<=xs.9/\a8 H n/\n l=ρ (.lst ys)/\ys.9=((prs.take i).filter p).9/\∀(j:Nat) (d:gi) (y:V),(((prs.take i).filter p).map D)[j]?=ρ d->ys[j]?=ρ y->∃g o,a8 H g/\g l=ρ o/\bh K (aO g n) d y,
  {xs.9,by simp,ZE _,a8.upd hl,a7,by simp,λj d y h=>by simp at h},?_}
 rintro i m ys n ⟨rfl,hi,f,w,c,Y⟩;refine{w,?_}
 by_cases k:i<xs.9
 .have Yw:((prs.take i).filter p).9<=i:=Zn (ă _ _) (by rw[Zq];omega);refine .inr {hJ.go i n (T _ f) k,1.0,λx g y=>?_}
  let{e,hx}:=hJ.ur i n x g (T _ f) k y
  subst e;have Z:prs[i]?=ρ prs[i]:=Z5 1.0
  let{r,A,hr}:=hT i _ Z
  rw[hx]at A;cases A;have mem:prs[i]∈prs:=ZQ _;have tk:prs.take (i+1)=prs.take i++[prs[i]]:=by rw[Ô,Z];rfl
  refine{r,prs[i].1,prs[i].2,rfl,f.HC hr,ht prs[i] _ _ mem f λH4 u=>?_}
  have B:∀(j:Nat) (d:gi) (y:V),(((prs.take i).filter p).map D)[j]?=ρ d->ys[j]?=ρ y->∃g o,a8 H g/\g l=ρ o/\bh K (aO g H4) d y:=λj d y h1 h3=>by
   let{N,o,E,h5,O}:=Y j d y h1 h3
   exact{N,o,E,h5,bh.same (dm u) d y O}
  cases R:p prs[i] with
  |false=>
   rw[if_neg Zu];have G:(prs.take (i+1)).filter p=(prs.take i).filter p:=by rw[tk,Ĉ];simp[R]
   exact{xs.9-(i+1),1.0,rfl,k,f.trans u,u _ _ w,by rw[G];exact c,by rw[G];exact B}
  |true=>
   rw[if_pos rfl];have G:(prs.take (i+1)).filter p=(prs.take i).filter p++[prs[i]]:=by rw[tk,Ĉ];simp[R]
   have v:=u _ _ w;refine he prs[i] _ _ mem R (f.trans u) λy N E O=>{E _ _ v,xs.9-(i+1),1.0,rfl,k,λb o e=>?_,a7,by rw[G,Zd,Zd,c];rfl,λj d z s a=>?_}
   .rw[af (aa e hl)];exact E _ _ (u _ _ (f _ _ e))
   .have kp:∀b o,N b=ρ o->b≠l->(upd N l (.lst (ys++[y]))) b=ρ o:=λb o e hb=>by rw[af hb];exact e
    rw[G,Zk]at s;have S:(((prs.take i).filter p).map D).length=ys.9:=by rw[Z4,c]
    by_cases X:j<ys.9
    .rw[ZN 1.0]at s;rw[ZN X]at a
     let{H6,o,s6,h6,r6}:=B j d z s a
     exact{H6,o,s6,h6,bh.same ((dm E).trans (bu h6 kp)) d z r6}
    .rw[ZL 1.0]at s a
     have L:j-ys.9=0:=by
      have:=(Za.mp a).1;simp at this;omega
     rw[S,L]at s;rw[L]at a;cases s;cases a;exact{H4,_,f.trans u,v,bh.same (bu v kp) _ _ O}
 .have e:i=xs.9:=1.0;subst e;refine .inl {hJ.stop n (T _ f),hd n ys f w {l,ys,rfl,.inl (bO hl w),aQ.mL _ ys ?_ λj d y s hy=>?_}}
  .rw[C,ZI]at c;rw[Z4,c]
  .have M:=Y j d y;rw[C,ZI]at M
   let{g,o,s3,h3,r3}:=M s hy
   exact bh.same (fu s3) d y r3
theorem lM{K:Z6}{J:It}{Ok:Hp->Prop}{xs:List V}{prs:List (V×V)}{l:Addr}{o:St}{T:TT}{U:TE}{H:Hp}{Q:Hp->Prop}(p:V×V->Bool)(D:V×V->gi)(hJ:jS J Ok xs)(t:xs.9=prs.9)
 (hT:∀(i:Nat) (q:V×V),prs[i]?=ρ q->∃r,xs[i]?=ρ (.ref r)/\g8 K H r [q.1,q.2]) (hl:H l=τ) (hz:xs.9<=sizeLine) (I:∀g,a8 H g->Ok g)
 (ht:∀q j C,q∈prs->a8 H j->(∀g,a8 j g->C (p q) g)->T (ρ q.1::ρ q.2::o) j C)
 (he:∀q j C,q∈prs->p q=true->a8 H j->(∀y g,a8 j g->bh K (aO j g) (D q) y->C y g)->U (ρ q.1::ρ q.2::o) j C)
 (hd:∀g,a8 H g->bh K (aO H g) (.lst ((prs.filter p).map D)) (.ref l)->Q g):iw K J l o T U H Q:=
 AF p D hJ t hT hl hz I ht he λg _ a _ r=>hd g a r
theorem wa:cu X (.builtin "isinstance") (λxs H Q=>∃a C g fs,xs=[.ref a,.ref C]/\H a=ρ (.ins C g fs)/\z8 X.K C/\tH X.K C/\Ε X.K C (.type "object")=ρ true/\Q (.bl true) H):=by
 intro b s σ H xs f Q I r h
 let{a,C,g,fs,rfl,ha,cl,y,c,q}:=h
 let{u,i,rfl,d,e}:=vals2 r
 cases e;exact lF I d (dD.ins ha cl y.ha y.hn y.lB c) tI λj=>{.bl true,H,I.tok _,rfl,q}
theorem wc{K:Z6}{a l:Addr}{xs:List V}{r:St}{I:TT}{J:TE}{H:Hp}{Q:Hp->Prop}(p:Nat->Bool)(C:aM K H a xs)(hl:H l=τ)(hz:xs.9<=sizeLine)
 (U:∀(i:Nat) (x:V) j t,xs[i]?=ρ x->a8 H j->(∀g,a8 j g->t (p i) g)->I (ρ (.int (i:Nat))::ρ x::r) j t)
 (he:∀(i:Nat) (x:V) j t,xs[i]?=ρ x->a8 H j->(∀g,a8 j g->t x g)->J (ρ (.int (i:Nat))::ρ x::r) j t)
 (hd:∀g,a8 H g->g l=ρ (.lst (bg p 0 xs))->Q g):iw K (M1 K a) l r I J H Q:=by
 refine{λi m u f=>m=xs.9-i/\i<=xs.9/\a8 H f/\f l=ρ (.lst u)/\u=bg p 0 (xs.take i),{xs.9,by simp,ZE _,a8.upd hl,a7,rfl},?_};rintro i m u f ⟨rfl,hi,c,v,k⟩;refine{v,?_}
 by_cases d:i<xs.9
 .refine .inr {{xs,xs[i],c.seq C,Z5 d},?_,λx j y=>?_}
  .rw[k];refine ß (fm p 0 _) ?_;rw[Zq]
   lia
  .let{T,h,E,G,L,y}:=y
   subst G L;have w:xs[i]?=ρ h:=y xs (c.seq C);have n:a8 f (upd f T (.tup [.int (i:Nat),h])):=a8.upd E;have z:xs.take (i+1)=xs.take i++[h]:=by rw[Ô,w];rfl
   have q:(xs.take i).9=i:=by rw[Zq];lia
   refine{T,.int (i:Nat),h,rfl,g8.of a7,U i h _ _ w (c.trans n) λM s=>?_};have A:=s _ _ (n _ _ v)
   cases B:p i with
   |false=>
    rw[if_neg Zu];exact{xs.9-(i+1),(),rfl,d,(c.trans n).trans s,A,by rw[z,j0,q,ŵ,B,if_neg Zu,Ó];exact k}
   |true=>
    rw[if_pos rfl];refine he i h _ _ w ((c.trans n).trans s) λN D=>{D _ _ A,xs.9-(i+1),(),rfl,d,λb o e=>?_,a7,?_}
    .rw[af (aa e hl)];exact D _ _ (s _ _ (n _ _ (c _ _ e)))
    .rw[z,j0,q,ŵ,B,if_pos rfl,k]
 .have e:i=xs.9:=();subst e;rw[ZI]at k;exact .inl {{xs,c.seq C,Zf _},hd f c (by rw[v,k])}
end
section
variable{X:Cx}{pins:List (Addr×Obj)}{σ:St}{H:Hp}{s:Shared}
theorem Ls(I:Inv X pins σ H s):∀(n:Nat) (d:gi),dep d<=n->∀(x y:V) (u v:Value) (A:Around),A.units+n<À->bh X.K H d x->bh X.K H d y->RelV x u->RelV y v->π A s u v true:=by
 intro n
 induction n with
 |zero=>
  intro d hd x y u v A hA q r t w
  cases d with
  |«at» z=>
   let{rfl,p}:=(show x=z/\mG z=true from q)
   let{rfl,_}:=(show y=x/\mG x=true from r)
   have:=pz (A:=A) (s:=s) t w (lA p) (lA p);rw[vf p]at this;exact this
  |tup h=>exact absurd hd (by show ¬j5 h+1<=0;lia)
  |lst h=>exact absurd hd (by show ¬j5 h+1<=0;lia)
 |succ n ih=>
  intro d hd x y u v A hA q r t w
  have item:∀(g i:List V) (f c:List Value) (h:List gi),j5 h<=n->aQ X.K H h g->aQ X.K H h i->Vals g f->Vals i c->∀j (U:j<f.toArray.size) (Y:j<c.toArray.size),π A.in1 s f.toArray[j] c.toArray[j] true:=by
   intro g i f c h Yx U Y m o j L M
   let{hl,hg}:=aQ.both h g i U Y
   have Z:=m.9;have e2:=o.9;have B:j<f.9:=by simpa using L
   have C:j<c.9:=by simpa using M
   obtain⟨G,D⟩:∃G,g[j]?=ρ G:={_,Z5 ()};obtain⟨J,E⟩:∃J,i[j]?=ρ J:={_,Z5 ()}
   let{u1,q1,w1}:=m.get D
   let{u2,q2,w2}:=o.get E
   have g1:f.toArray[j]=u1:=by
    have:f[j]?=ρ f[j]:=by simp[B]
    rw[this]at q1;simpa using Zi q1
   have g2:c.toArray[j]=u2:=by
    have:c[j]?=ρ c[j]:=by simp[C]
    rw[this]at q2;simpa using Zi q2
   let{d',J6,N,O}:=hg j G J D E
   rw[g1,g2];exact ih d' () G J u1 u2 A.in1 (by show A.units+1+n<À;lia) N O w1 w2
  cases d with
  |«at» z=>
   let{rfl,p}:=(show x=z/\mG z=true from q)
   let{rfl,_}:=(show y=x/\mG x=true from r)
   have:=pz (A:=A) (s:=s) t w (lA p) (lA p);rw[vf p]at this;exact this
  |tup h=>
   let{a,g,rfl,ha,k}:=(show ∃a g,x=.ref a/\H a=ρ (.tup g)/\aQ X.K H h g from q)
   let{b,i,rfl,Q,l}:=(show ∃a g,y=.ref a/\H a=ρ (.tup g)/\aQ X.K H h g from r)
   cases t;cases w
   by_cases e:a=b
   .subst e;exact Ŵ _
   .let{f,m,S,_}:=I.tuple (g8.of ha)
    let{c,o,T,_}:=I.tuple (g8.of Q)
    have hl:=(aQ.both h g i k l).1;have Z:=m.9;have e2:=o.9;have R:=SeqAt.RcAt.tuples (A:=A) (e:=λ_=>true) S T () (item g i f c h (by have:j5 h+1<=n+1:=hd;lia) k l m o);rw[iE,show (f.toArray.size==c.toArray.size)=true by simp only[ZB,beq_iff_eq];lia]at R;exact wgI e R
  |lst h=>
   let{a,g,rfl,ha,k}:=(show ∃a g,x=.ref a/\Rd H a (.lst g)/\aQ X.K H h g from q)
   let{b,i,rfl,Q,l}:=(show ∃a g,y=.ref a/\Rd H a (.lst g)/\aQ X.K H h g from r)
   cases t;cases w
   by_cases e:a=b
   .subst e;exact Ŵ _
   .let{f,m,S,_}:=I.list (.inl ha)
    let{c,o,T,_}:=I.list (.inl Q)
    have hl:=(aQ.both h g i k l).1;have Z:=m.9;have e2:=o.9;have R:=SeqAt.RcAt.lists (A:=A) (e:=λ_=>true) S.isList T.isList (by simp only[ZB];lia) () (item g i f c h (by have:j5 h+1<=n+1:=hd;lia) k l m o);rw[iE]at R;exact wgI e R
theorem BW(I:Inv X pins σ H s)(J:A.units+n<À)(T:j5 o<=n)(p:aQ X.K H o xs)(r:aQ X.K H o ys)(t:Vals xs l)(C:Vals ys g) :
 ∀j (p:j<l.toArray.size) (r:j<g.toArray.size),π A s l.toArray[j] g.toArray[j] true:=by
 intro j h i
 let{hl,x}:=aQ.both o xs ys p r
 have E:=t.9;have G:=C.9;have a:j<l.9:=by simpa using h
 have b:j<g.9:=by simpa using i
 obtain⟨e,c⟩:∃e,xs[j]?=ρ e:={_,Z5 ()};obtain⟨f,d⟩:∃f,ys[j]?=ρ f:={_,Z5 ()}
 let{q,u,y}:=t.get c
 let{v,w,z}:=C.get d
 have g1:l.toArray[j]=q:=by
  have:l[j]?=ρ l[j]:=by simp[a]
  rw[this]at u;simpa using Zi u
 have g2:g.toArray[j]=v:=by
  have:g[j]?=ρ g[j]:=by simp[b]
  rw[this]at w;simpa using Zi w
 let{B,D,k,m}:=x j e f c d
 rw[g1,g2];exact Ls I n B () e f q v A J k m y z
theorem J7(J:X.A.units+60<À):jZ X (Æ .Eq) (Vh X.K true):=by
 intro pins s σ H x y v u Q I z B h
 let{i,hd,h,q}:=h
 rcases h with⟨m,o⟩ |⟨m,o⟩
 .let{a,c,rfl,ha,d}:=(show ∃a c,x=.ref a/\Rd H a (.lst c)/\aQ X.K H i c from m)
  let{b,p,rfl,r,f}:=(show ∃a c,y=.ref a/\Rd H a (.lst c)/\aQ X.K H i c from o)
  cases z;cases B
  let{j,k,t,_}:=I.list (.inl ha)
  let{g,l,w,_}:=I.list (.inl r)
  have hl:=(aQ.both i c p d f).1;have C:=k.9;have D:=l.9;refine whk (e:=λ_=>true) t.isList w.isList (by simp only[ZB];lia) () (BW I (A:=X.A.in1) (n:=50) (by show X.A.units+1+50<À;lia) hd d f k l) ?_;rw[iE];exact{.bl true,H,I,rfl,q}
 .let{a,c,rfl,ha,d}:=(show ∃a c,x=.ref a/\H a=ρ (.tup c)/\aQ X.K H i c from m)
  let{b,p,rfl,r,f}:=(show ∃a c,y=.ref a/\H a=ρ (.tup c)/\aQ X.K H i c from o)
  cases z;cases B
  let{j,k,t,_}:=I.tuple (g8.of ha)
  let{g,l,w,_}:=I.tuple (g8.of r)
  have hl:=(aQ.both i c p d f).1;have C:=k.9;have D:=l.9;refine SeqAt.eq_tupleAt (e:=λ_=>true) t w () (BW I (A:=X.A.in1) (n:=50) (by show X.A.units+1+50<À;lia) hd d f k l) ?_;rw[iE,show (j.toArray.size==g.toArray.size)=true by simp only[ZB,beq_iff_eq];lia];exact{.bl true,H,I,rfl,q}
end
section
variable{X:Cx}{H:Hp}{scope:Ð}{x x2 x3:Str}{ys:List Str}{ix:List Nat}{cl:List (Str×Addr)}{L:Addr}
theorem eG(hc:X.calm=true)(B:bQ X scope x ys ix)(I:bQ X scope x2 ys ix)(g:x≠x2)(hi:PI X (.Tuple [.Name x T,.Name x2 j] U pt) iter wi)
 (ht:∀cl L s H ex pn,EK (bq X scope (x::x2::ys) cl L s H ex pn) o r) (he:∀cl L s H ex pn,PE (bq X scope (x::x2::ys) cl L s H ex pn) p t)
 (hs:∀v,č iter X.env v=pure v:=by intro _;rfl):PE X (.ListComp p [⟨.Tuple [.Name x T,.Name x2 j] U pt,iter,o,0⟩] scope pos) (EH X.K wi ix r t):=
 sF (C:=λJ l a H Q=>iw X.K J l a r t H Q) (xs:=[x,x2]) hc B (yy hc B I g) (λ_ _ _ _ _=>y6) hi ht he hs
theorem Ge{X:Cx}{K:Z6}{o e:Expr}{l:List Expr}{to:TE}{t:TA}{name:Str}{apos g:Pos}{T id:String}{r:V->List V->Hp->VK->Prop}(hK:X.K=K)(pa:wfW T)(slot:Slot T name id)(U:typeOf (.builtin id)=pure (.type "method_descriptor"))(hm:Kj X id r)(ho:PE X o to)(ha:PA X (e::l) t)
 (p:ė o name X.env (eval o X.5)=eval o X.5:=by rfl)
 (J:((backTo g (starEach (e::l) X.5)).all (λx=>!x.1)&&(backToKw g (Ĝ [] X.5)).all (λx=>x.1.isSome)
   && decide ((e::l).9+([]:List Ň).9+(if ([]:List Ň).isEmpty then 0 else 1)<30))=true:=by rfl)
 (I:(apos.endLine==g.line)=true:=by rfl) (hs:starEach (e::l) X.5=(false,eval e X.5)::starEach l X.5:=by rfl) (j:(backTo g (starEach l X.5)).any (·.1)=false:=by rfl) :
 PE X (.Call (.Attribute o name apos) (e::l) [] g) (SJ K T r to t):=by
 subst hK;exact fJ pa slot U hm ho ha p J I hs j
theorem Gf(hc:X.calm=true)(B:bQ X scope x ys ix)(T:bQ X scope x2 ys ix)(U:bQ X scope x3 ys ix)(g:x≠x2/\x≠x3/\x2≠x3)(hi:PI X (.Tuple [.Name x px,.Name x2 j,.Name x3 o] kt pt) iter wi)
 (ht:∀cl L s H ex pn,EK (bq X scope (x::x2::x3::ys) cl L s H ex pn) p t) (he:∀cl L s H ex pn,PE (bq X scope (x::x2::x3::ys) cl L s H ex pn) r I)
 (hs:∀v,č iter X.env v=pure v:=by intro _;rfl):PE X (.ListComp r [⟨.Tuple [.Name x px,.Name x2 j,.Name x3 o] kt pt,iter,p,0⟩] scope pos) (Kq X.K wi ix t I):=
 sF (C:=λJ l a H Q=>sE X.K J l a t I H Q) (xs:=[x,x2,x3]) hc B (G0 hc B T U g) (λ_ _ _ _ _=>EJ) hi ht he hs
end
section
variable{X:Cx}{scope:Ð}{x x2:Str}{ys:List Str}{ix:List Nat}
theorem qo(hc:X.calm=true)(B:bQ X scope x ys ix)(hN:X.N.Nodup)(hy:X.N[i]?=ρ y)(r:X.env.scope.names.lookup y=ρ .local)(B2:bQ X scope x2 ys ix)(t:x≠x2)(hi:PI X (.Tuple [.Name x T,.Name x2 g] U pt) iter wi)
 (ht:∀cl L s H ex pn,EK (bq X scope (x::x2::ys) cl L s H ex pn) j tt) (he:∀cl L s H ex pn,PE (bq X scope (x::x2::ys) cl L s H ex pn) o te)
 (I:ë (.ListComp o [⟨.Tuple [.Name x T,.Name x2 g] U pt,iter,j,0⟩] scope pos) (ρ (.Name y py)) p.line X.5=pure true:=by rfl)
 (hs:∀v,č iter X.env v=pure v:=by intro _;rfl):PS X (.Assign [.Name y py] (.ListComp o [⟨.Tuple [.Name x T,.Name x2 g] U pt,iter,j,0⟩] scope pos) p) (HP X.K wi ix tt te i):=
 qa (C:=λJ l a H Q=>iw X.K J l a tt te H Q) (xs:=[x,x2]) hc B hN hy r (yy hc B B2 t) (λ_ _ _ _ _=>y6) hi ht he I hs
theorem Dt{K:Z6}{p g pt pos:Pos}{r:Nat}{iter j:Expr}{l:List Expr}{t:TI}{C:TT}{I:TE}(J:X.K=K)(hc:X.calm=true)(B:bQ X scope x ys ix)(T:bQ X scope x2 ys ix)(o:x≠x2)(hi:PI X (.Tuple [.Name x p,.Name x2 g] r pt) iter t)
 (U:∀cl L s H ex pn,EK (bq X scope (x::x2::ys) cl L s H ex pn) l C) (he:∀cl L s H ex pn,PE (bq X scope (x::x2::ys) cl L s H ex pn) j I)
 (hs:∀v,č iter X.env v=pure v:=by intro _;rfl):PE X (.ListComp j [⟨.Tuple [.Name x p,.Name x2 g] r pt,iter,l,0⟩] scope pos) (EH K t ix C I):=by
 subst J;exact eG hc B T o hi U he hs
end
theorem yJ{X:Cx}(hl:PE X l g)(p:∀{σ H} {Q o:VK},(∀x j,Q x j->o x j)->g σ H Q->g σ H o:=by intro _ _ _ _ h q;let{v,e,q}:=q;exact{v,e,h _ _ q}):PI X r l (Kb g):=by
 refine{?_};intro c s σ H R I h;refine ie hl c s σ H R I (p (λx j q=>?_) h)
 let{d,f,e,a,b}:=q
 exact{d,f,e,xS a b}
end _L
namespace _S
structure gR(K:Z6)(C CB:Addr)(nm:Str):Prop where
 lk:∃(q:Str) (N:Addr) (bs:List Value) (sn:List Str) (sub:List Value) (ab:Bool) (col:Option Bool) (dd:Option Addr) (k0 k1 k2 k3 k5:Option Value),
  K.lookup C=ρ (Ý nm q C N bs (pQ CB) true sn sub ab col dd k0 k1 k2 k3 k5 "ValueError.__new__")
theorem BX
 (l:K.lookup C=ρ (Ý nm q C N bs (pQ CB) true sn sub ab col dd k0 k1 k2 k3 k5 "ValueError.__new__")):gR K C CB nm:=⟨q,N,bs,sn,sub,ab,col,dd,k0,k1,k2,k3,k5,l⟩
theorem J8
 (l:K.lookup CB=ρ (Ý nm q CB N bs NI hd sn sub ab col dd k0 k1 k2 k3 k5 "ValueError.__new__")):AA K CB nm:=⟨q,N,bs,hd,sn,sub,ab,col,dd,k0,k1,k2,k3,k5,l⟩
inductive Lv(K:Z6)(C:Addr)(vs:List V)(H:Hp)(Q:VK)(eK:XK):Prop
 |mk (x many hs ws lns) (_:vs=[.ref x,.int many]) (_:c9 K C H x hs ws lns) (_:lns.9<=1000) (_:(∀l∈lns,l.9<=10000)) (_:∀(l:Addr) (ks:List Nat) (H':Hp),a8 H H'->H l=τ->H' l=ρ (.lst ((nI ks).map V.int))->mV lns many ks->Q (.ref l) H')
inductive Lw(K:Z6)(C:Addr)(vs:List V)(H:Hp)(Q:VK)(eK:XK):Prop
 |mk (x many hs ws lns) (_:vs=[.ref x,.int many]) (_:c9 K C H x hs ws lns) (_:ia many hs ws lns) (_:mV lns many []) (_:hs≠[]) (_:hs.9<=1000) (_:(∀l∈lns,l.9<=10000)) (_:1<=many) (_:many<=1000) (_:∀(t l:Addr) (d:Nat) (ns:List Nat) (w:Int) (H':Hp),a8 H H'->H l=τ->H t=τ->H' t=ρ (.tup [.int (d:Int),.ref l,.int w])->H' l=ρ (.lst ((nI ns).map V.int))->cE ws lns many (d:Int) (nI ns) w=true->d<hs.9->(ns.9<=1000/\ns.Nodup)->Q (.ref t) H')
inductive Gg(C CO:Addr)(vs:List V)(H:Hp)(Q:VK)(E:XK):Prop
 |mk (x:Addr) (many:Int) (n:Nat) (g:Str) (ws ss ls:List Str) (_:vs=[.ref x,.int many,.int (n:Int)]) (_:bE C H x g ws ss ls) (_:2<=g.9) (_:g.9<=10) (_:ss.9<=900) (_:eT g.length many n) (_:(∀(d:Addr) (f:Str->Int) (H':Hp),a8 H H'->H d=τ->H' d=ρ (.dK (b9 (bZ f ls)))->BU g ws ss ls many n f->Q (.ref d) H')) (_:(rM g ws ss ls many n->∀H',a8 H H'->E (.ref CO) τ H'))
end _S
local macro_rules|`(tactic|ac_rfl)=>`(tactic|try dsimp only[K34.dM,K34.dN,K34.bo,K34.bp])
namespace K34
section
variable{P:ZC}{w:World}{K:Z6}{mg:Str->Option Value}{base:Heap}
inductive QJ(lns:List (List (Str×Nat)))(rs ys:List Nat)(x rd wl a:Addr)(d z:Nat)(H:Hp)(i:Nat)(σ:St)(H5:Hp):Prop
 |mk (ad v5 v6) (_:σ=[ρ (.ref x),ρ (.int (d:Int)),ρ (.ref rd),ρ (.ref wl),ρ (.ref a),v5,v6]) (_:a8 H H5) (_:H5 rd=ρ (.dK (dB (rs++ad)))) (_:H5 wl=ρ (.lst ((nI (ys++ad)).map V.int))) (_:(rs++ad).Nodup) (_:∀r∈rs++ad,r<lns.9) (_:∀q∈(lns.getD z []).take i,q.2∈rs++ad)
theorem QJ.s{wl:Addr}(q:QJ lns j ys x rd wl a d z H i σ g):a8 H g:=by
 let{_,_,_,_,h,_}:=q
 exact h
theorem T3{CX P w K mg base N q g f cd A o s H E}:(pD CX P w K mg base N q g f cd A o s H E).prog=P:=rfl
theorem T4{CX P w K mg base N q g f cd A o s H E}:(pD CX P w K mg base N q g f cd A o s H E).w=w:=rfl
inductive Lx(K:Z6)(CB CX CO:Addr)(vs:List V)(H:Hp)(Q:VK)(eK:XK):Prop
 |mk (e C nm od) (_:vs=[.ref e]) (_:H e=ρ (XC e C od)) (_:∀d,od=ρ d->∃fs,H d=ρ (.xd fs)) (_:cg K C CB nm) (_:tH K C) (_:nm="Scarce"\/nm="Open") (_:Q (.bl false) H)
end
structure Lk(K:Z6)(mg:Str->Option Value) where
 T:Txt mg
 (tL tM we nT lY lZ qp tN kq nU BZ nV qt wg mW yK kr fS m3 ku nW nX C0 ky gv nY gT fv kz iR nZ jm qu yL o1 wh qw qy wj kA kB jD m4 o4 o6 jn gw gU ig m5 qz tO tP o7 o8 jo qA o9 gV oa qD kC jE gx gW mc fT kD md kE og tQ oh:Addr)
 (tR tS wk oi me mh qE tT kF oj C1 om qF wm tU yM kG iS mi kH oo oq C2 kI jF ot gX fw kJ iT ou ow qG yN oy wo qH qI wq kK kL jG mj oz oA oB jH gY ik ml qJ tV tW oC oE oF qK oG kM oH qL kN jI jJ kP mm iU kQ mn kR oI tX oJ:Ë)
 mX:FnAt K mg "is_whole" (top 20) ["thing"] tL tR
 tY:FnAt K mg "all_rows" (top 22) ["band","wide"] tM tS
 wu:FnAt K mg "is_rate" (top 23) ["band","many","wide"] we wk
 fF:FnAt K mg "check_rate" (top 24) ["band","many","wide"] nT oi
 mq:FnAt K mg "longer_rows" (top 25) ["band","rows"] lY me
 fZ:FnAt K mg "blocks_from" (top 26) ["band","place","wide"] lZ mh
 qM:FnAt K mg "ends_from" (top 28) ["band","place"] qp qE
 tZ:FnAt K mg "all_ends" (top 29) ["band"] tN tT
 gZ:FnAt K mg "counts_up_to" (top 30) ["band","length"] kq kF
 oK:FnAt K mg "count_from" (top 31) ["band","place","length"] nU oj
 xo:FnAt K mg "count" (top 32) ["band","length"] BZ C1
 oM:FnAt K mg "block_ends" (top 34) ["band","wide"] nV om
 qN:FnAt K mg "weight_of" (top 35) ["places","weights"] qt qF
 wx:FnAt K mg "lowered" (top 36) ["ends","many","weights"] wg wm
 mY:FnAt K mg "greatest" (top 37) ["band","many","wide","most"] mW tU
 oN:FnAt K mg "scarce" (top 38) ["band","many","wide","most"] yK yM
 kT:FnAt K mg "copied_steps" (top 40) ["line"] kr kG
 iA:FnAt K mg "first_sheet" (top 42) ["band","many","wide","weights"] m3 mi
 hE:FnAt K mg "is_number_of" (top 43) ["number","things"] ku kH
 dn:FnAt K mg "check_part" (top 44) ["sheet","many","steps","weight"] nW oo
 oO:FnAt K mg "with_twins" (top 45) ["line","desk","twin"] nX oq
 rN:FnAt K mg "split" (top 46) ["sheet","many","desk","numbers","weight"] C0 C2
 hF:FnAt K mg "copied_sheet" (top 51) ["sheet"] ky kI
 dq:FnAt K mg "check_not_scarce" (top 53) ["band","many","wide"] gT gX
 cz:FnAt K mg "weights_of_least_most" (top 54) ["band","many","wide"] fv fw
 kU:FnAt K mg "reached_from" (top 55) ["sheet","desk"] kz kJ
 iV:FnAt K mg "closed_weights" (top 56) ["band","many","wide","weights"] iR iT
 oP:FnAt K mg "steps_into" (top 57) ["line","desks"] nZ ou
 jq:FnAt K mg "kept_desks" (top 58) ["sheet","many"] jm ow
 qO:FnAt K mg "step_down" (top 59) ["sheet"] qu qG
 yO:FnAt K mg "run_by" (top 60) ["weights","numbers","many"] yL yN
 oQ:FnAt K mg "next_split" (top 61) ["sheet","many"] o1 oy
 lN:FnAt K mg "plan_of" (top 62) ["band","many","wide"] wh wo
 kW:FnAt K mg "all_among" (top 65) ["text","signs"] qw qH
 qP:FnAt K mg "are_signs" (top 66) ["thing"] qy qI
 wz:FnAt K mg "is_word" (top 67) ["thing","signs"] wj wq
 kX:FnAt K mg "check_barred" (top 68) ["barred","signs"] kA kK
 hH:FnAt K mg "bears_barred" (top 69) ["row","barred"] kB kL
 jK:FnAt K mg "sorted_places" (top 70) ["barred"] jD jG
 mr:FnAt K mg "longest_end" (top 71) ["row","places"] m4 mj
 oR:FnAt K mg "moves_from" (top 72) ["place","signs","barred","places"] o4 oz
 oS:FnAt K mg "leads_into" (top 73) ["ends","lot"] o6 oA
 oU:FnAt K mg "live_among" (top 74) ["moves"] jn oB
 dv:FnAt K mg "_law_nth" (top 77) ["_law_script","_law_k"] tP tW
 b0:FnAt K mg "_law_mixed" (top 78) ["_law_cell","_law_turn","_law_many"] o7 oC
 oV:FnAt K mg "_law_signs" (top 79) ["_law_cell"] o8 oE
 oW:FnAt K mg "_law_words" (top 80) ["_law_script","_law_at","_law_signs_here","_law_most","_law_long"] jo oF
 kY:FnAt K mg "_law_rate" (top 81) ["_law_cell","_law_signs_here"] qA qK
 cK:FnAt K mg "_law_whole" (top 82) ["_law_thing","_law_low","_law_high"] o9 oG
 kZ:FnAt K mg "_law_weighed" (top 83) ["_law_weights","_law_blocks","_law_many"] gV kM
 oX:FnAt K mg "_law_first" (top 84) ["_law_weights","_law_blocks"] oa oH
 la:FnAt K mg "_law_part" (top 85) ["_law_lines","_law_weights","_law_desk","_law_numbers"] qD qL
 lg:FnAt K mg "_law_divided" (top 86) ["_law_homes","_law_weights","_law_lines","_law_desk","_law_numbers","_law_weight"] kC kN
 gy:FnAt K mg "_law_is_sheet" (top 87) ["_law_found","_law_due"] jE jI
 jL:FnAt K mg "_law_is_split" (top 88) ["_law_told","_law_here","_law_many"] gx jJ
 lj:FnAt K mg "_law_is_kept" (top 89) ["_law_kept","_law_lines","_law_many"] gW kP
 mw:FnAt K mg "_law_walked" (top 90) ["_law_plan","_law_blocks","_law_many"] mc mm
 iW:FnAt K mg "_law_is_scarce" (top 91) ["_law_e","_law_band","_law_many","_law_wide"] fT iU
 hO:FnAt K mg "_law_is_open" (top 92) ["_law_band","_law_many","_law_wide"] kD kQ
 mx:FnAt K mg "_law_others" (top 93) ["_law_e"] md mn
 lq:FnAt K mg "_law_refused" (top 94) ["_law_e","_law_band","_law_many","_law_wide"] kE kR
 gF:FnAt K mg "_law_right" (top 95) ["_law_band","_law_many","_law_wide"] og oI
 u0:FnAt K mg "_law_six" (top 96) ["_law_script","_law_signs_here"] tQ tX
 oY:FnAt K mg "_law_heavy" (top 97) ["_law_signs_here","_law_turn"] oh oJ
 aA:Addr
 rP:mg "Sheet"=ρ (.ref aA)
 au:Fx K aA
 u3:Mk K aA fS
 J9:tH K aA
 Gh:Ε K aA (.type "object")=ρ true
 bf:Addr
 Gi:mg "Plan"=ρ (.ref bf)
 bX:Ip K bf
 Ja:Mk K bf gv
 Ly:tH K bf
 Jb:Ε K bf (.type "object")=ρ true
 aN:Addr
 AG:mg "Band"=ρ (.ref aN)
 aV:Iq K aN
 xq:Mk K aN gw
 eN:jC K aA "__init__" "Sheet.__init__" (inClass (top 41) 0) ["self","homes","weights","lines"] fS iS
 jM:jC K bf "__init__" "Plan.__init__" (inClass (top 52) 0) ["self","weights","splits","kept","last"] gv jF
 jr:jC K bf "sheet" "Plan.sheet" (inClass (top 52) 1) ["self"] nY ot
 f5:jC K aN "__init__" "Band.__init__" (inClass (top 75) 0) ["self","signs","barred"] gw jH
 fj:jC K aN "check_place" "Band.check_place" (inClass (top 75) 2) ["self","place"] gU gY
 il:jC K aN "check_live" "Band.check_live" (inClass (top 75) 3) ["self","place"] ig ik
 my:jC K aN "places" "Band.places" (inClass (top 75) 5) ["self"] m5 ml
 gg:jC K aN "live" "Band.live" (inClass (top 75) 6) ["self"] qz qJ
 mZ:jC K aN "led" "Band.led" (inClass (top 75) 8) ["self","place","sign"] tO tV
 aR:Addr
 qQ:mg "BandError"=ρ (.ref aR)
 XT:AA K aR "BandError"
 XB:Jy K aR
 pR:Addr
 Du:mg "NoSigns"=ρ (.ref pR)
 Dv:gR K pR aR "NoSigns"
 pT:Addr
 Dw:mg "TooMany"=ρ (.ref pT)
 Dx:gR K pT aR "TooMany"
 u5:Addr
 Gj:mg "NoWord"=ρ (.ref u5)
 Gk:gR K u5 aR "NoWord"
 xr:Addr
 Jc:mg "NoRow"=ρ (.ref xr)
 Jd:gR K xr aR "NoRow"
 u9:Addr
 Gm:mg "Barred"=ρ (.ref u9)
 Gn:gR K u9 aR "Barred"
 pU:Addr
 Dy:mg "NoPlace"=ρ (.ref pU)
 Dz:gR K pU aR "NoPlace"
 n0:Addr
 AH:mg "NoNumber"=ρ (.ref n0)
 AI:gR K n0 aR "NoNumber"
 ua:Addr
 Go:mg "NoRate"=ρ (.ref ua)
 Gp:gR K ua aR "NoRate"
 eO:Addr
 gL:mg "NoSplit"=ρ (.ref eO)
 gM:cg K eO aR "NoSplit"
 M8:tH K eO
 hU:Û K (.ref eO) "__init__"=ρ (ρ (.builtin "ValueError.__init__"))
 n6:Addr
 AJ:mg "NoLength"=ρ (.ref n6)
 AK:gR K n6 aR "NoLength"
 aY:Addr
 yP:mg "Scarce"=ρ (.ref aY)
 bP:cg K aY aR "Scarce"
 oZ:tH K aY
 dO:Addr
 fG:Ë
 yQ:xO K "__init__" "Scarce.__init__" (inClass (top 13) 0) dO fG
 yR:Binds K fG ["self","length","rows"] []
 DA:Û K (.ref aY) "__init__"=ρ (ρ (.ref dO))
 DB:weP K (.ref dO)=true
 dE:Û K (.ref aY) "length"=ρ τ
 eW:Û K (.ref aY) "rows"=ρ τ
 fU:Addr
 xt:mg "Open"=ρ (.ref fU)
 iB:cg K fU aR "Open"
 xu:tH K fU
 C3:Û K (.ref fU) "__init__"=ρ (ρ (.builtin "ValueError.__init__"))
 ub:Addr
 Gq:mg "NoData"=ρ (.ref ub)
 Gr:gR K ub aR "NoData"
 uc:Addr
 Gs:mg "NoForm"=ρ (.ref uc)
 Gu:gR K uc aR "NoForm"
 ud:Addr
 Gv:mg "NoBand"=ρ (.ref ud)
 Gw:gR K ud aR "NoBand"
 n7:Addr
 AO:mg "NoWriter"=ρ (.ref n7)
 AQ:gR K n7 aR "NoWriter"
 ue:∃t,mg "MOST_BLOCKS"=ρ (.int 24 t)
 uf:∃t,mg "MOST_WEIGHT"=ρ (.int 8 t)
 jX:∃t,mg "MOST_WEIGHT_IN_ALL"=ρ (.int 40 t)
 known:∃t,mg "KNOWN_SIGNS"=ρ (.str fK t)
section
variable{P:ZC}{w:World}{K:Z6}{mg:Str->Option Value}{base:Heap}
theorem p5(L:Lk K mg):aW P w K mg base cY 1 L.qw L.qH ["text","signs"] Iz:=by
 have T:=L.T;refine L.kW.F.dP (N:=["text","signs"]) (λf A outer s H n Q E nd o h=>?_)
 let{a,b,rfl,hl,k}:=h
 refine{_,(a9 (ao (ak (gP rfl) (by rfl) T.all zZ (aC (bR rfl (aq ["signs"] [1]) (wR (0)) (λ_ _ _ _ _ _=>b8) (λ_ _ _ _ _ _=>(eY vq (0) (1) rfl))))))),?_}
 ac_rfl
 refine{1,a,rfl,λl e=>comp_map (Oz b) (nk a) e (by unfold df;rw[Z4];exact av (Zn (Ŷ (b7 a)) ())) (λ_ _=>trivial) (λx g p i _ q=>?_) (λj m d=>?_)}
 .let{c,1}:=Ze.mp i
  exact{2,_,1,rfl,q g (a8.refl _)}
 .rw[CU]at d;refine{l,1,aM.of d,?_};have:=k j m;rw[œ];exact this
theorem jN(L:Lk K mg):aW P w K mg base cY 1 L.kB L.kL ["row","barred"] (IM K):=by
 have T:=L.T;refine L.hH.F.dP (N:=["row","barred"]) (λi A outer s H o Q E nd p h=>?_)
 let{r,a,j,rfl,f,hl,k}:=h
 refine{_,(a9 (ao (ak (y4 rfl) (by rfl) T.any Nj (aC (bR rfl (aq ["row"] [0]) (aG (1)) (λ_ _ _ _ _ _=>b8) (λ_ _ _ _ _ _=>(eY vq (0) (1) rfl))))))),?_}
 ac_rfl
 refine{1,a,rfl,{_,f},λl d=>comp_map (Oz r) (aJ K a (j.map V.str)) d (by rw[Z4];exact av ()) (λg e=>e.seq f) (λx m t n _ q=>?_) (λg e b=>?_)}
 .let{c,1}:=Ze.mp n
  exact{2,_,1,rfl,q m (a8.refl _)}
 .rw[FE]at b;refine{l,1,aM.of b,?_};have:=k g e;rw[Κ];exact this
theorem xx(L:Lk K mg):aW P w K mg base cY 2 L.qy L.qI ["thing"] Nw:=by
 have T:=L.T;refine L.qP.F.dP (N:=["thing"]) (λd A outer s H l Q E nd m h=>?_)
 let{x,rfl,S,k}:=h
 have a:x.9<=sizeLine:=av (by have:=S.hi;lia)
 let{f,b}:=L.known
 refine{_,(a6 (aT (PW.pt (cp (bj (aP (ak bb (by rfl) T.ji di (a5 (0) (aC (cw (v:=.ty "str") (by rfl) T.str Ib rfl)))))) (cp (ck gO (FZ T.len (0)) ae) (cU (ck i5 (FZ T.len (0)) ae))))) (a9 (ao bU)) aB)
  (a9 (ao (j7 (eY ju (ak y2 (by rfl) T.len Ī (aC (bC (yb rfl) (by rfl) T.set KC (aC (0))))) (FZ T.len (0)) (ip _)) (j2 (ag (p5 L) L.kW (a5 (0) (aC (bV (v:=.str fK) (by rfl) b ⟨f,rfl⟩))))))))),?_}
 ac_rfl
 refine{1,_,_,_,true,rfl,dD.str x,rfl,true,rfl,?_};refine aU ?_;refine{1,x,rfl,a,_,1,rfl,1,?_};refine Ea (by have:=S.lo;simp;lia) ?_;refine{1,x,rfl,a,_,1,rfl,1,?_};refine Ea (by have:=S.hi;simp;lia) ?_;refine{1,x,rfl,?_,λp g=>?_}
 .have:=S.hi;show x.9+1<É;unfold É
  lia
 refine{p,1,a7,1,x,rfl,a,rfl,?_};refine{1,?_};refine Pr (by rw[ym S.nd];simp) ?_;refine{1,x,fK,rfl,by have:=S.hi;lia,λi j=>?_};have e:((ch x).all λc=>decide (c∈ch fK))=true:=ZM.mpr λc hc=>decide_eq_true (S.sub c hc);rw[e];exact k i ((a8.upd g).trans j)
theorem AR(L:Lk K mg):aW P w K mg base cY 2 L.wj L.wq ["thing","signs"] Nx:=by
 have T:=L.T;refine L.wz.F.dP (N:=["thing","signs"]) (λb A outer s H i Q E nd j h=>?_)
 let{x,g,rfl,S,k}:=h
 have a:x.9<=sizeLine:=av (by have:=S.hi;lia)
 refine{_,(a6 (aT (PW.pt (cp (bj (aP (ak bb (by rfl) T.ji di (a5 (0) (aC (cw (v:=.ty "str") (by rfl) T.str Ib rfl)))))) (cp (ck gO (FZ T.len (0)) ae) (cU (ck i5 (FZ T.len (0)) ae))))) (a9 (ao bU)) aB)
  (a9 (ao (ag (p5 L) L.kW (a5 (0) (aC (1))))))),?_}
 ac_rfl
 refine{1,_,_,_,true,rfl,dD.str x,rfl,true,rfl,?_};refine aU ?_;refine{1,x,rfl,a,_,1,rfl,1,?_};refine Ea (by have:=S.lo;simp;lia) ?_;refine{1,x,rfl,a,_,1,rfl,1,?_};refine Ea (by have:=S.hi;simp;lia) ?_;refine{2,x,g,rfl,by have:=S.hi;lia,λd f=>?_};have e:((ch x).all λc=>decide (c∈ch g))=true:=ZM.mpr λc hc=>decide_eq_true (S.sub c hc);rw[e];exact k d f
theorem rg(L:Lk K mg):aW P w K mg base cY 3 L.kA L.kK ["barred","signs"] (IP K):=by
 have T:=L.T;refine L.kX.F.dP (N:=["barred","signs","number","thing"]) (λj A outer s H q Q E nd r h=>?_)
 let{a,g,d,rfl,c,hl,hw,k}:=h
 refine{_,(a6 (aT (ck i5 (za T.len (0)) ae) gK aB)
  (a9 (forA (nA (by rfl) T.enum (aC (0))) (dY rfl (aK (az (i:=2)) (aK (az (i:=3)) cI))) (a9 (aT (bj (aP (ag (AR L) L.wz (a5 (3) (aC (1)))))) gK aB))))),?_}
 ac_rfl
 refine{1,a,1,.inl c,_,1,rfl,1,?_};refine Ea (by grind) ?_;refine{1,a,1,c,sq (K:=K) (a:=a) (xs:=d.map V.str) (λi σ b=>a8 H b/\∃e f,σ=[ρ (.ref a),ρ (.str g),e,f]) {a8.refl _,τ,τ,rfl} (λi σ b _ p=>p.1.seq c) ?_ (λσ b p=>k b p.1)};rintro i x σ b T u ⟨l,e,f,rfl⟩ m
 obtain⟨t,rfl,n⟩:∃t,x=.str t/\t∈d:=by
  grind
 refine{T,1,g8.of a7,rfl,_,1,_,1,rfl,?_};refine{2,t,g,rfl,hw t n,λv o=>{true,rfl,?_}};refine aU ?_;exact{(l.trans (a8.upd m)).trans o,_,1}
theorem pV(L:Lk K mg):aW P w K mg base cY 2 L.jD L.jG ["barred"] (FU K):=by
 have T:=L.T;refine L.jK.F.dP (N:=["barred","found","word","length","beginning"]) (λO A outer s H vs Q E nd R h=>?_)
 let{a,ws,rfl,B,hl,hw,k}:=h
 have S:=eP R
 refine{_,(a6 (ai (i:=1) (BE (xU fh bU Bq) rfl rfl (by simp) ⋯))
  (a6 (forA (aG (0)) (az (i:=2)) (a9 (forA (lC rfl T.range (a5 ae (aC (FZ T.len (2))))) (az (i:=3)) (a6 (ai (i:=4) (cB mN (2) eX (cx (3))))
  (a9 (aT (bj (aP (ag (jN L) L.hH (a5 (4) (aC (0)))))) (a9 (eJ S (1) (4) bU rfl)) aB))))))
  (a9 (ao (ak (wU rfl) (by rfl) T.sorted nE (aC (1))))))),?_}
 ac_rfl
 intro d hd;refine{a7,[((ZA "":Key),V.bl true)],rfl,⋯,?_}
 have I:a8 H (upd (upd H d (.dK [])) d (.dK (k9 [] [((ZA "":Key),V.bl true)]))):=by
  rw[Be];exact a8.upd hd
 refine{1,a,rfl,{_,I.seq B},cn (K:=K) (a:=a) (xs:=ws.map V.str) (λi σ p=>∃C f v4,σ=[ρ (.ref a),ρ (.ref d),C,f,v4]/\a8 H p/\p d=ρ (.dK (jt (cQ ws "" (ws.take i)))))
  ⟨τ,τ,τ,rfl,I,a7⟩ (λi σ p _ {_,_,_,_,g,_}=>g.seq B) ?_ ?_}
 .rintro i x σ p m ⟨C,f,v4,rfl,g,u⟩;have hi:i<ws.9:=by have:=(Za.mp m).1;rwa[Z4]at this
  obtain⟨c,q,rfl⟩:∃c,ws[i]?=ρ c/\x=.str c:=by
   rw[Z9]at m
   cases e:ws[i]? with
   |none=>rw[e]at m;cases m
   |some z=>rw[e]at m;exact{z,rfl,(Zi m).symm}
  have U:c∈ws:=Zv q;have X:=hw c U;have Y:ws.take (i+1)=ws.take i++[c]:=by rw[Ô,q];rfl
  have Z:(cQ ws "" (ws.take i)).9<=30:=by
   have:=lI (ws:=ws) (e:="") (us:=ws.take i) λv hv=>hw v (ś hv);rw[Zq]at this
   lia
  refine⟨_,rfl,c,rfl,av (),1,_,rfl,{⋯,⋯,(),()},?_⟩;have en:((c.9:Int)-1).toNat=c.9-1:=()
  refine cT (lo:=1) (n:=((c.9:Int)-1).toNat) (λj σ y=>∃f v4,σ=[ρ (.ref a),ρ (.ref d),ρ (.str c),f,v4]/\a8 H y/\y d=ρ (.dK (jt (upTo ws c (cQ ws "" (ws.take i)) j))))
   ⟨f,v4,rfl,g,u⟩ ?_ ?_
  .rintro j σ y hj ⟨f,v4,rfl,r,D⟩;have ec:(1+(j:Int))=((1+j:Nat):Int):=();refine{3,c,rfl,av (),?_};rw[ec];have QK:=sY ws c (cQ ws "" (ws.take i)) j;refine{2,iN c (1+j),a,ws,rfl,r.seq B,(),λH4 G=>{1,?_}};have J:=G _ _ D
   cases M:bears ws (iN c (1+j)) with
   |true=>
    refine aU ?_;refine{_,1,r.trans G,?_};rw[J,fP];unfold pJ;rw[if_pos M]
   |false=>
    refine dC ?_;refine{2,d,1,jT.k (k:=ZA (iN c (1+j))) J (by rw[Cj];exact bN ()),?_};refine{_,1,λb o e=>?_,?_}
    .rw[af (aa e hd)];exact G _ _ (r _ _ e)
    .rw[a7,CV,fP];unfold pJ;rw[if_neg (by rw[M];exact Zu)]
  .rintro σ y ⟨f,v4,rfl,r,D⟩;refine{_,f,v4,rfl,r,?_};rw[D,Y,A2,en];rfl
 .rintro σ p ⟨C,f,v4,rfl,g,u⟩;rw[Z4,ZI]at u;have T5:=lI (ws:=ws) (e:="") (us:=ws) hw;refine{1,d,_,1,u,zu _,(),λl ss t hp hs=>?_};exact k l ss _ (g.trans (a8.upd t)) (g.free t) a7 hp hs
theorem ug(L:Lk K mg):aW P w K mg base cY 1 L.m4 L.mj ["row","places"] (KM K):=by
 refine L.mr.F.dP (N:=["row","places","cut"]) (λq A outer s H x Q E nd y h=>?_)
 let{r,a,ps,rfl,t,u,hl,k}:=h
 refine{_,(a6 (ai (i:=2) ae)
  (a6 (iI Ŗ (eZ j3 (cB mN (0) (cx (2)) eX) (1) rfl) (a9 (wM (i:=2) nd rfl (ċ rfl) ae Ez)))
  (a9 (ao (cB mN (0) (cx (2)) eX))))),?_}
 ac_rfl
 refine{λm σ c=>∃n:Nat,n<=r.9/\m=r.9-n/\σ=[ρ (.str r),ρ (.ref a),ρ (.int (n:Int))]/\a8 H c/\∀j,j<n->gA r j∉ps,⟨r.9,0,ZE _,rfl,rfl,a8.refl _,λj d=>absurd d (Ť j)⟩,?_};rintro m σ c ⟨n,hn,rfl,rfl,f,o⟩;refine{3,r,rfl,av (),1,a,1,.inl (f.seq t),rfl,cR ps,1,?_};rw[if_pos rfl,iG]
 by_cases h:gA r n∈ps
 .have e:decide (ZZ r (ρ (n:Int)) τ∈ps)=true:=decide_eq_true h;rw[e];refine aU ?_;refine{3,r,rfl,av (),?_};have:=k c f;unfold lend at this;rw[yc h o hn]at this;exact this
 .have e:decide (ZZ r (ρ (n:Int)) τ∈ps)=false:=decide_eq_false h;rw[e];refine dC ?_
  have g:n<r.9:=by
   rcases wef hn with z |z
   .exact z
   .subst z;rw[pK]at h;exact absurd u h
  refine{λb p=>∃l:Nat,l=n+1/\b=[ρ (.str r),ρ (.ref a),ρ (.int (l:Int))]/\a8 H p,?_,?_}
  .rintro b p ⟨l,rfl,rfl,v⟩;refine{r.9-(n+1),(),n+1,g,rfl,rfl,v,λj d=>?_};rcases wef (Nat.le_of_lt_succ d) with z |z
   .exact o j z
   .rw[z];exact h
  .exact{1,_,1,rfl,n+1,rfl,rfl,f}
theorem uG(L:Lk K mg):aW P w K mg base cY 2 L.o4 L.oz ["place","signs","barred","places"] (IQ K):=by
 refine L.oR.F.dP (N:=["place","signs","barred","places","moves","sign","row"]) (λR A outer s H vs Q E nd S h=>?_)
 let{p,g,a,b,l,ps,rfl,T,U,V,X,Y,B,C,k}:=h
 have Z:=eP S
 refine{_,(a6 (ai (i:=4) dZ)
  (a6 (forA (wR (1)) (az (i:=5)) (a6 (ai (i:=6) (aF dX (0) (5)))
  (a9 (eJ Z (4) (5) (xV (aP (ag (jN L) L.hH (a5 (6) (aC (2))))) iq (ag (ug L) L.mr (a5 (6) (aC (3))))) rfl))))
  (a9 (ao (4))))),?_}
 ac_rfl
 intro d hd
 refine{1,g,rfl,ke (nk g) (λi σ f=>∃r v6,σ=[ρ (.str p),ρ (.str g),ρ (.ref a),ρ (.ref b),ρ (.ref d),r,v6]/\a8 H f/\f d=ρ (.dK (((ch g).take i).map λc=>((ZA ({#[c]}:Str):Key),uz l ps p c))))
  {τ,τ,rfl,a8.upd hd,a7} (λ_ _ _ _ _=>trivial) ?_ ?_}
 .rintro i x σ f m ⟨r,v6,rfl,t,y⟩
  obtain⟨c,hc,rfl⟩:∃c,(ch g)[i]?=ρ c/\x=.str ⟨#[c]⟩:=by
   unfold df at m;rw[Z9]at m
   cases e:(ch g)[i]? with
   |none=>rw[show g.cps.toList[i]?=τ from e]at m;cases m
   |some z=>rw[show g.cps.toList[i]?=ρ z from e]at m;exact{z,rfl,(Zi m).symm}
  have hi:i<(ch g).9:=(Za.mp hc).1;have J:=b7 g;have yS:(p++({#[c]}:Str)).length=p.9+1:=by rw[<-b7,bD,Zd,b7];rfl
  refine{2,p,{#[c]},rfl,rfl,av (by show p.9+1<=_;lia),?_}
  have fin:∀u,a8 f u->Jz (Hr 4) (Hr 5) (λ_ D Q5=>Q5 (uz l ps p c) D) {nx:=λσ f=>∃r v6,σ=[ρ (.str p),ρ (.str g),ρ (.ref a),ρ (.ref b),ρ (.ref d),r,v6]/\a8 H f/\f d=ρ (.dK (((ch g).take (i+1)).map λc=>((ZA ({#[c]}:Str):Key),uz l ps p c))),rt:=Q}
   [ρ (.str p),ρ (.str g),ρ (.ref a),ρ (.ref b),ρ (.ref d),ρ (.str {#[c]}),ρ (.str (p++{#[c]}))] u:=by
   intro u n;have h4:=n _ _ y;refine{2,d,1,jT.k (k:=ZA ({#[c]}:Str)) h4 (by rw[Z4,Zq];exact bN ()),?_};refine{_,1,λb o e=>?_,?_}
   .rw[af (aa e hd)];exact n _ _ (t _ _ e)
   .rw[a7,eU]
    .have:(ch g).take (i+1)=(ch g).take i++[c]:=by rw[Ô,hc];rfl
     rw[this,Zk];rfl
    .cases q:cZ (((ch g).take i).map λc=>((ZA (⟨#[c]⟩:Str):Key),uz l ps p c)) (ZA (⟨#[c]⟩:Str):Key) with
     |none=>rfl
     |some v=>
      have:=wQ q;rw[Zj]at this
      let{G,I,e}:=Ze.mp this
      have e':({#[G]}:Str)={#[c]}:=Ě e
      have:G=c:=by
       have:=congrArg ch e';simpa [ch] using this
      subst this
      let{j,hj,M}:=wdS.mp I
      rw[Μ]at M;rw[Zq]at hj;have e1:(ch g)[i]=G:=(Za.mp hc).2;have:=(ň B).mp (M.trans e1.symm)
      lia
  refine{2,_,a,l,rfl,t.seq T,C,λu n=>{1,?_}}
  cases O:bears l (p++⟨#[c]⟩) with
  |true=>
   refine dC ?_;have:=fin u n;unfold uz at this;rw[if_pos O]at this;unfold uz;exact this
  |false=>
   refine aU ?_;refine{2,_,b,ps,rfl,(t.trans n).seq U,V,(),λD s5=>?_};have:=fin D (n.trans s5);unfold uz at this;rw[if_neg (by rw[O];exact Zu)]at this;unfold uz;exact this
 .rintro σ f ⟨r,v6,rfl,t,y⟩;have e:(df g).9=(ch g).9:=by unfold df;rw[Z4]
  rw[e,ZI]at y;exact{_,rfl,k d f t hd y}
theorem uH(L:Lk K mg):aW P w K mg base cY 1 L.o6 L.oA ["ends","lot"] (Ig K):=by
 have T:=L.T;refine L.oS.F.dP (N:=["ends","lot"]) (λm A outer s H v Q E nd y h=>?_)
 let{a,b,d,ls,rfl,i,n,o,p,hl,k}:=h
 refine{_,(a9 (ao (ak (y4 rfl) (by rfl) T.any Nj (aC (bR rfl (aq ["lot"] [1]) (aG (0)) (λ_ _ _ _ _ _=>b8) (λ_ _ _ _ _ _=>(eY (fg (K:=K) rfl) (0) (1) rfl))))))),?_}
 ac_rfl
 refine{1,a,rfl,{_,i},λl f=>comp_map (Nk ls) (aJ K a d) f (av ()) (λj g=>g.seq i) (λx r z t u q=>?_) (λj g c=>?_)}
 .exact{2,b,ls,rfl,.inl (u.seq n),ZM.mp o x t,p,q r (a8.refl _)}
 .have e:d.map (Nk ls)=(d.map λe=>jY e ls).map V.bl:=by rw[Zj];rfl
  rw[e]at c;refine{l,1,aM.of c,?_};have:=k j g;rw[Κ];exact this
theorem uI(L:Lk K mg):aW P w K mg base cY 2 L.jn L.oB ["moves"] (KN K):=by
 have T:=L.T;refine L.oU.F.dP (N:=["moves","lot","left"]) (λY A outer s H vs Q E nd hr h=>?_)
 let{d,Z,o,rfl,hd,hl,hm,hf,VX,k}:=h
 have hu:=eP hr;have Lz:(A.deeper (İ "live_among" (aD (top 74)) s.heap.objs.size L.jn Y)).units<À:=hr.kd
 refine{_,(a6 (ai (i:=1) (bC (mM rfl) (by rfl) T.list eV (aC (0))))
  (a9 (iI Ŗ (aP bU) (a6 (cN (i:=2) rfl (aq ["moves","lot"] [0,1]) nd rfl rfl (aG (1)) (λ_ _ _ _ _ _=>dh (aP (ag (uH L) L.oS (a5 (bC (zI rfl) (by rfl) T.list eV (aC (BC (K:=K) rfl wf4 wd4 weZ vy (bS hu (1) (0) (λ_ _=>rfl))))) (aC (2)))))) (λ_ _ _ _ _ _=>(0)))
  (a6 (aT (ck (Es Lz) (2) (1)) (a9 (ao (1))) aB)
  (a9 (ai (i:=1) (2)))))))),?_}
 ac_rfl
 refine{1,d,1,hd,λl0 t=>?_}
 refine{λm σ H2=>∃(l:Addr) (ls:List Str) (v:Option V),m=ls.9/\σ=[ρ (.ref d),ρ (.ref l),v]/\a8 H H2/\H l=τ/\H2 l=ρ (.lst (ls.map V.str))/\ls.Sublist (Z.map (·.1)) /\
  ∀b:List Str,(∀k∈b,k∈Z.map (·.1)/\kc (o k) b=true)->∀k∈b,k∈ls,
  {_,l0,Z.map (·.1),τ,rfl,rfl,a8.upd t,t,by rw[a7,fM],wde _,λb h k hk=>(h k hk).1},?_}
 rintro m σ H2 ⟨l,ls,v,rfl,rfl,S,JO,U,f,c⟩;refine{true,rfl,dC ?_};have uF:ls.9<=1000:=by have:=f.length_le;rw[Z4]at this;lia
 let p:V->Bool:=λx=>match x with
  |.str k=>kc (o k) ls
  |_=>false
 let g:List Str:=ls.filter λk=>kc (o k) ls
 have u:(ls.map V.str).filter p=g.map V.str:=by
  rw[Ļ];rfl
 refine{λy r=>∃(B:Addr) (v:Option V),y=[ρ (.ref d),ρ (.ref B),v]/\a8 H r/\H B=τ/\r B=ρ (.lst (g.map V.str))/\g.9<ls.9,?_,?_}
 .rintro y r ⟨B,v,rfl,n,C4,C,zb⟩;refine{g.9,zb,B,g,v,rfl,rfl,n,C4,C,(Ι).trans f,λb h k hk=>?_};have VY:=c b h k hk;exact ZG.mpr {VY,zv (c b h) (h k hk).2}
 .refine{1,l,rfl,{_,aM.of U},λl2 D=>cV p (λx=>x) (aJ K l (ls.map V.str)) D (by rw[Z4];exact av ()) (λr n=>n.seq (aM.of U)) (λx G Q' hx s3 q=>?_) (λx G Q' hx _ s3 q=>{1,q G (a8.refl _)}) (λr n C=>?_)}
  .let{X,VZ,rfl}:=Ze.mp hx
   let{a,ha,I}:=fN (f.subset VZ)
   have J:a8 H G:=S.trans s3;have OB:=J _ _ hd;have j:=J _ _ (hm _ ha);refine{2,d,.ref a,rfl,?_,?_}
   .have:=dI.k (k:=(ZA X:Key)) OB;rw[I]at this;exact this
   refine{.inr (.inr (.inl {rfl,.inl {_,j}})),a,1,rfl,j,λvw M=>?_};refine{vw,a,1,a7,by rw[af (aa j M)];exact j,λl3 JE=>?_};have s4:a8 G (upd (upd G vw (ni vw a)) l3 (.lst ((o X).map (·.2)))):=(a8.upd M).trans (a8.upd JE);refine{1,l3,l,_,1,aM.of a7,aM.of (s4 _ _ (s3 _ _ U)),hf X,cR ls,by rw[Z4];exact VX X,λH5 s5=>{1,?_}};exact q H5 (s4.trans s5)
  .rw[Ń,u]at C;have O:=n _ _ U;refine{2,l2,l,_,1,rfl,aM.of C,aM.of O,cR _,cR _,1,?_};rw[pA];have R:H l2=τ:=S.free D
   by_cases e:g=ls
   .rw[decide_eq_true e];refine dC ?_;refine{1,k l ls r (S.trans n) JO O {f,λkk hk=>?_,c}};have:=e ▸ hk;exact(ZG.mp this).2
   .rw[decide_eq_false e];refine aU ?_;refine{1,l2,1,S.trans n,R,C,?_};rcases wef (ă (λk=>kc (o k) ls) ls) with z |z
    .exact z
    .exact absurd ((Ι (p:=λk=>kc (o k) ls)).eq_of_length z) e
theorem ui(L:Lk K mg):aW P w K mg base cY 1 L.m5 L.ml ["self"] (FJ L.aN):=by
 have T:=L.T;refine L.my.F.dP (N:=["self"]) (λa A outer s H j Q E nd m h=>?_)
 let{x,g,n,ss,ls,rfl,B,k}:=h
 let{{c,b,d,q,o,e,p,f,i,r,t},_,_,_}:=B
 refine{_,(a9 (ao (bC (mM rfl) (by rfl) T.list eV (aC (aZ (0) rfl))))),?_}
 ac_rfl
 refine{1,x,L.aN,c,_,1,e,L.aV.cl,L.aV.lJ,mQ g b d q,d,1,f,λl hl=>?_};rw[fM,i];exact k l _ (a8.upd hl) hl a7
theorem gG(L:Lk K mg):aW P w K mg base cY 1 L.qz L.qJ ["self"] (IB L.aN):=by
 have T:=L.T;refine L.gg.F.dP (N:=["self"]) (λa A outer s H i Q E nd j h=>?_)
 let{x,g,m,ss,ls,rfl,B,k}:=h
 let{{c,b,d,q,n,e,o,p,r,t,f},_,_,_}:=B
 refine{_,(a9 (ao (bC dg (by rfl) T.list eV (aC (aZ (0) rfl))))),?_}
 ac_rfl
 refine{1,x,L.aN,c,_,1,e,L.aV.cl,L.aV.pN,vL g b d q,q,1,.inl (aM.of f),λl hl=>?_};exact k l _ (a8.upd hl) hl a7
theorem gC(L:Lk K mg):aW P w K mg base cY 1 L.gU L.gY ["self","place"] (Qw L.aN):=by
 have T:=L.T;refine L.fj.F.dP (N:=["self","place"]) (λc A outer s H r Q E nd e h=>?_)
 let{x,p,g,t,ss,ls,rfl,B,f,k}:=h
 let{{i,b,d,q,mv,j,u,l,m,y,z},_,_,_}:=B
 let{a,ha,n}:=fN (mv:=mv) (k:=p) (by rw[m];exact f)
 have o:=eP e;refine{_,(a9 (aT (PW.pt (cp (bj (aP (ak bb (by rfl) T.ji di (a5 (1) (aC (cw (v:=.ty "str") (by rfl) T.str Ib rfl)))))) (cU (zB (vA o (1) (aZ (0) rfl)))))) gK aB)),?_}
 ac_rfl
 refine{1,_,_,_,true,rfl,dD.str p,rfl,true,rfl,aU ?_};refine{2,x,L.aN,i,_,1,j,L.aV.cl,L.aV.lJ,mQ g b d q,d,1,dI.k (k:=(ZA p:Key)) l,1,?_};rw[n];exact aU k
theorem qR(L:Lk K mg):aW P w K mg base cY 2 L.tO L.tV ["self","place","sign"] (Ny L.aN):=by
 refine L.mZ.F.dP (N:=["self","place","sign"]) (λn A outer s H z Q E nd o h=>?_)
 let{x,p,c,g,r,ss,ls,rfl,B,e,hc,k}:=h
 let{{f,b,d,q,mv,i,C,t,u,v,D},_,_,_}:=id B
 let{a,ha,y}:=fN (mv:=mv) (k:=p) (by rw[u];exact e)
 have j:=eP o
 refine{_,(a6 (bH (NK (0) L.aV.cl L.fj (gC L) (aC (1))))
  (a9 (ao (bS j (bS j (aZ (0) rfl) (1) (λ_ _=>rfl)) (2) (λ_ _=>rfl))))),?_}
 ac_rfl
 refine{1,x,f,1,i,Hd _ _ _ _ ∅ ∅ ∅ ∅,1,x,p,g,r,ss,ls,rfl,B,e,?_};have l:=dI.k (k:=(ZA p:Key)) t;rw[y]at l;have m:=dI.k (k:=(ZA ({#[c]}:Str):Key)) (v _ ha);rw[Iv hc]at m;exact{1,x,L.aN,f,_,1,i,L.aV.cl,L.aV.lJ,mQ g b d q,1,d,1,l,1,a,1,m,k}
theorem qS(L:Lk K mg):aW P w K mg base cY 1 L.tL L.tR ["thing"] Fi:=by
 have T:=L.T;refine L.mX.F.dP (N:=["thing"]) (λa A outer s H b Q E nd c h=>?_)
 let{i,rfl,k}:=h
 refine{_,(a9 (ao (j7 (ak bb (by rfl) T.ji di (a5 (0) (aC (cw (v:=.ty "int") (by rfl) T.int KI rfl)))) (j2 (wL (ak bb (by rfl) T.ji di (a5 (0) (aC (cw (v:=.ty "bool") (by rfl) T.bool Fh rfl))))))))),?_}
 ac_rfl
 refine{1,_,_,_,true,rfl,dD.int i,rfl,true,rfl,dC ?_};exact{1,_,_,_,false,rfl,dD.int i,rfl,false,rfl,k}
theorem yT(L:Lk K mg):aW P w K mg base cY 1 L.tM L.tS ["band","wide"] (D5 L.aN):=by
 have T:=L.T;refine L.tY.F.dP (N:=["band","wide","rows","step"]) (λf A outer s H r Q E nd t h=>?_)
 let{x,n,g,u,ss,ls,rfl,B,j,l,m,k}:=h
 refine{_,(a6 (ai (i:=2) ae)
  (a6 (forA (cy rfl T.range (aC (1))) (az (i:=3)) (a9 (wM (i:=2) nd rfl (ċ rfl) (FZ T.len (aZ (0) rfl)) EG)))
  (a9 (ao (2))))),?_}
 ac_rfl
 let{{o,b,d,q,v,p,y,z,C,D,G},_,_,_}:=id B
 refine{1,n,rfl,(),(),cT (lo:=0) (n:=n.toNat) (λi σ a=>a=H/\∃c,σ=[ρ (.ref x),ρ (.int n),ρ (.int ((g.9:Int)^i)),c]) ⟨rfl,τ,rfl⟩ ?_ ?_}
 .rintro i σ a hi ⟨e,c,rfl⟩;rw[e];refine{2,x,L.aN,o,_,1,p,L.aV.cl,L.aV.rL,mR g b d q,g,rfl,av (),_,1,rfl,.inr {(),()},rfl,ρ (.int (0+(i:Int))),?_};rw[ο];rfl
 .rintro σ a ⟨e,c,rfl⟩;rw[e];exact{_,rfl,k}
theorem AU(L:Lk K mg):aW P w K mg base cY 2 L.we L.wk ["band","many","wide"] (yr L.aN):=by
 refine L.wu.F.dP (N:=["band","many","wide"]) (λc A outer s H f Q E nd i h=>?_)
 let{x,many,wide,g,d,ss,ls,rfl,B,a,b,k}:=h
 refine{_,(a6 (aT (PW.pt (cp (bj (aP (ag (qS L) L.mX (aC (1))))) (cp (ck gO (1) ae) (cU (ck i5 (1) ae))))) (a9 (ao bU)) aB)
  (a6 (aT (PW.pt (cp (bj (aP (ag (qS L) L.mX (aC (2))))) (cp (ck gO (2) ae) (cU (ck i5 (2) ae))))) (a9 (ao bU)) aB)
  (a9 (ao (eY Bv (ag (yT L) L.tY (a5 (0) (aC (2)))) ae (ip _)))))),?_}
 ac_rfl
 let{ha,j,hc,hd,e}:=id b
 refine{_,rfl,many,rfl,true,rfl,aU ?_};refine{1,_,1,rfl,false,congrArg V.bl (decide_eq_false ()),aU ?_};refine{1,_,1,rfl,false,congrArg V.bl (decide_eq_false ()),aU ?_};refine{_,rfl,wide,rfl,true,rfl,aU ?_};refine{1,_,1,rfl,false,congrArg V.bl (decide_eq_false ()),aU ?_};refine{1,_,1,rfl,false,congrArg V.bl (decide_eq_false ()),aU ?_};refine{2,x,wide,g,d,ss,ls,rfl,B,a,(),(),_,1,rfl,?_};show Q (V.bl (decide ((g.9:Int)^wide.toNat<=64))) H;rw[decide_eq_true e];exact k
theorem g7(L:Lk K mg):aW P w K mg base cY 3 L.nT L.oi ["band","many","wide"] (yr L.aN):=by
 refine L.fF.F.dP (N:=["band","many","wide"]) (λc A outer s H e Q E nd f h=>?_)
 let{x,many,wide,g,d,ss,ls,rfl,B,a,b,k}:=h
 refine{_,(a6 (aT (bj (aP (ag (AU L) L.wu (a5 (0) (a5 (1) (aC (2))))))) gK aB)
  (a9 (ao bU))),?_}
 ac_rfl
 exact{_,rfl,2,x,many,wide,g,d,ss,ls,rfl,B,a,b,true,rfl,aU k}
theorem n8(L:Lk K mg):aW P w K mg base cY 1 L.ig L.ik ["self","place"] (Qx L.aN):=by
 have T:=L.T;refine L.il.F.dP (N:=["self","place"]) (λa A outer s H l Q E nd m h=>?_)
 let{x,p,g,n,ss,ls,rfl,B,c,k}:=h
 let{{f,b,d,q,o,i,r,t,u,y,j},_,_,_}:=B
 refine{_,(a9 (aT (PW.pt (cp (bj (aP (ak bb (by rfl) T.ji di (a5 (1) (aC (cw (v:=.ty "str") (by rfl) T.str Ib rfl)))))) (cU (eZ j3 (1) (aZ (0) rfl) rfl)))) gK aB)),?_}
 ac_rfl
 refine{1,_,_,_,true,rfl,dD.str p,rfl,true,rfl,aU ?_};refine{2,x,L.aN,f,_,1,i,L.aV.cl,L.aV.pN,vL g b d q,q,1,.inl (aM.of j),rfl,cR _,?_};have e:jY (.str p) (ls.map V.str)=true:=by rw[iG];exact decide_eq_true c
 refine{false,?_,aU k};show V.bl (!jY (.str p) (ls.map V.str))=V.bl false;rw[e];rfl
theorem ri(L:Lk K mg):aW P w K mg base cY 1 L.kr L.kG ["line"] (FP K):=by
 refine L.kT.F.dP (N:=["line"]) (λo A outer s H D Q E nd c h=>?_)
 let{v,p,rfl,t,hn,k}:=h
 refine{_,(a9 (ao (eG rfl (aq [] []) (aq [] []) ⋯ (aG (0)) (λ_ _ _ _ _ _=>b8) (λ_ _ _ _ _ _=>(cM (a5 (0) (aC (1)))))))),?_}
 ac_rfl
 let{a,u,rfl,j,b,x}:=mS t
 have d:=b;rw[Z4]at d;refine{1,a,rfl,{_,j},λl hl=>?_};refine lM (prs:=p.map ee) (λ_=>true) (λq=>.tup [.at q.1,.at q.2]) (aJ K a u) b (λi q e=>let ⟨r,y,B⟩:=x i q e;{r,y,g8.of B}) hl (av ()) (λm f=>f.seq j) (λq n C _ _ g=>g n (a8.refl _)) (λq n C e _ G g=>?_) (λm f r=>?_)
 .let{z,I,rfl}:=Ze.mp e
  exact{2,by show 2<=sizeLine;decide,λr c=>g _ _ (a8.upd c) (nM c z)}
 .rw[ù.mpr (λ_ _=>rfl),Zj]at r;exact k _ m f r
theorem jO(L:Lk K mg):aW P w K mg base cY 1 L.ku L.kH ["number","things"] (Ie K):=by
 have T:=L.T;refine L.hE.F.dP (N:=["number","things"]) (λd A outer s H g Q E nd j h=>?_)
 let{i,a,b,rfl,f,k}:=h
 refine{_,(a9 (ao (j7 (eY Ep (0) ae (ip _)) (j2 (eY gO (0) (za T.len (1)) (ip _)))))),?_}
 ac_rfl
 by_cases c:0<=i
 .have e:eA i b.9=decide (i<(b.9:Int)):=by unfold eA;rw[decide_eq_true c,ν]
  rw[e]at k;exact{1,_,1,rfl,true,congrArg V.bl (decide_eq_true c),dC {2,a,b,rfl,.inl f,_,1,rfl,k}}
 .have e:eA i b.9=false:=by unfold eA;rw[decide_eq_false c,Ŀ]
  rw[e]at k;exact{1,_,1,rfl,false,congrArg V.bl (decide_eq_false c),aU k}
theorem uJ(L:Lk K mg):aW P w K mg base cY 1 L.nZ L.ou ["line","desks"] (L5 K):=by
 refine L.oP.F.dP (N:=["line","desks"]) (λy A outer s H R Q E nd g h=>?_)
 let{v,b,f,j,rfl,B,C,hn,k}:=h
 refine{_,(a9 (ao (eG rfl (aq ["desks"] [1]) (aq ["desks"] [1]) ⋯ (aG (0)) (λ_ _ _ _ _ _=>dh (eZ (fg (K:=K) rfl) (1) (2) rfl)) (λ_ _ _ _ _ _=>(cM (a5 (0) (aC (1)))))))),?_}
 ac_rfl
 let{a,D,rfl,p,c,G}:=mS B
 have m:=c;rw[Z4]at m;refine{1,a,rfl,{_,p},λl hl=>?_}
 refine lM (prs:=j.map ee) (λq=>jY q.2 ((nI f).map V.int)) (λq=>.tup [.at q.1,.at q.2]) (aJ K a D) c (λi q d=>let ⟨r,I,J⟩:=G i q d;{r,I,g8.of J}) hl (av ()) (λt n=>n.seq p) (λq u M d x o=>by
  let{z,O,rfl}:=Ze.mp d
  exact{2,b,1,.inl (x.seq C),rfl,dF _,1,o u (a8.refl _)}) (λq u M d _ x o=>?_) (λt n r=>?_)
 .let{z,O,rfl}:=Ze.mp d
  exact{2,by show 2<=sizeLine;decide,λr g=>o _ _ (a8.upd g) (nM g z)}
 .have e:((j.map ee).filter λq=>jY q.2 ((nI f).map V.int))=(fA f j).map ee:=by
   unfold fA;rw[Ļ];refine congrArg _ (wdj λq _=>?_);exact Fb q.2 f
  rw[e,Zj]at r;exact k _ t n r
theorem xA(L:Lk K mg):aW P w K mg base cY 1 L.qu L.qG ["sheet"] (L6 K L.aA):=by
 have T:=L.T;refine L.qO.F.dP (N:=["sheet","heaviest","desk","line","number","step"]) (λfI A outer s H vs Q E nd hr h=>?_)
 let{x,hs,g,b,rfl,S,vU,he,ya,hex,k}:=h
 refine{_,(a6 (ai (i:=1) (ak (Cw rfl) (by rfl) T.max JL (aC (aZ (0) rfl))))
  (a6 (forA (nA (by rfl) T.enum (aC (aZ (0) rfl))) (dY rfl (aK (az (i:=2)) (aK (az (i:=3)) cI))) (a9 (forA (nA (by rfl) T.enum (aC (3))) (dY rfl (aK (az (i:=4)) (aK (az (i:=5)) cI))) (a9 (aT (PW.pt (Ew (ck ju (b4 bA (aZ (0) rfl) (2) (λ_ _=>rfl)) (1)) (Bu (ck gO (b4 bA (aZ (0) rfl) (b4 fb (5) ae (λ_ _=>rfl)) (λ_ _=>rfl)) (1))))) (a9 (ao (cM (a5 (2) (aC (4)))))) aB)))))
  (a9 (ao iq)))),?_}
 ac_rfl
 let{dx,ah,bw,cl,hx,rh,AV,rl}:=id S
 let{T6,eb,hb}:=fE AV
 cases eb
 let{OC,xs,ec,hc,R}:=id rl
 cases ec;have xl:xs.9=b.9:=by rw[R.len,Z4]
 refine{1,x,L.aA,dx,_,1,hx,L.au.cl,L.au.bY,bL ah bw cl,bw,g,rfl,hb,ya,λM hM hT=>?_};have U:∀n:Nat,n<g.9->lQ (g.map V.int) (n:Int)=ρ (.int (g.getD n 0)):=λn hn=>bz (by rw[Z9,Z5 hn,Z8,Z5 hn];rfl);refine{1,x,L.aA,dx,_,1,hx,L.au.cl,L.au.dj,bI ah bw cl,cl,xs,rfl,.inl hc,sq (K:=K) (a:=cl) (xs:=xs) (λi σ X=>a8 H X/\(∃v2 v3 v4 O,σ=[ρ (.ref x),ρ (.int M),v2,v3,v4,O])/\∀d f c q,Down g b M d f c q->i<=d) {a8.refl _,⟨τ,τ,τ,τ,rfl⟩,λ_ _ _ _ _=>ZE _} (λi σ X _ p=>p.1.seq (.inl hc)) ?_ (λσ X p=>?_)}
 .rintro d y σ X T hy ⟨s2,⟨v2,v3,v4,O,rfl⟩,B⟩ W2;have hd:d<xs.9:=(Za.mp hy).1;have DY:d<b.9:=();have Y:b[d]?=ρ (b.getD d []):=by rw[Z8,Z5 DY];rfl
  let{v,Z,rd}:=R.at (i:=d) (d:=bx (b.getD d [])) (by rw[Z9,Y];rfl)
  rw[hy]at Z;cases Z
  let{a,C,rfl,hS,NN}:=eM rd
  have T7:C.9=(b.getD d []).9:=by rw[NN.1,Z4,Z4]
  have QL:∀q∈b.getD d [],q.2<g.9:=he _ (Zv Y);have s3:=s2.trans (a8.upd (o:=.tup [.int (d:Nat),.ref a]) W2);refine{T,1,g8.of a7,rfl,_,1,_,1,rfl,?_};generalize upd X T _=H3 at s3;refine{1,a,1,s3.seq hS,sq (K:=K) (a:=a) (xs:=C.map V.ref) (λi σ H4=>a8 H H4/\(∃v4 O,σ=[ρ (.ref x),ρ (.int M),ρ (.int (d:Int)),ρ (.ref a),v4,O])/\∀f c q,Down g b M d f c q->i<=f) {s3,{_,1},λ_ _ _ _=>ZE _} (λi σ H4 _ p=>p.1.seq hS) ?_ (λσ H4 p=>?_)}
  .rintro i y σ H4 T2 G ⟨s4,⟨v4,O,rfl⟩,j⟩ W3;have hi:i<C.9:=by have:=(Za.mp G).1;rwa[Z4]at this
   have I:i<(b.getD d []).9:=();rw[Z9,Z5 hi]at G;cases G;have JP:H C[i]=ρ (.tup [.str (b.getD d [])[i].1,.int ((b.getD d [])[i].2:Int)]):=NN.2 i C[i] (lR (ee (b.getD d [])[i])) (Z5 hi) (by rw[Z9,Z9,Z5 I];rfl);have J:(b.getD d [])[i]?=ρ (b.getD d [])[i]:=Z5 I;have Je:=QL _ (ZQ I);generalize (b.getD d [])[i]=q at JP J Je;have m:=s4.trans (a8.upd (o:=.tup [.int (i:Nat),.ref C[i]]) W3);refine{T2,1,g8.of a7,rfl,_,1,_,1,rfl,?_};generalize upd H4 T2 _=H5 at m
   have Em:(¬∃c q,Down g b M d i c q)->∀f c q,Down g b M d f c q->i+1<=f:=λhn f c q hD=>by
    have:=j f c q hD
    by_cases e:f=i
    .subst e;exact absurd ⟨c,q,hD⟩ hn
    .lia
   refine{1,x,L.aA,dx,_,1,m _ _ hx,L.au.cl,L.au.bY,bL ah bw cl,1,bw,_,_,1,rfl,m.seq hb,U d (),1,?_}
   by_cases r:g.getD d 0=M
   .refine{rfl,true,congrArg V.bl (decide_eq_true (by rw[r])),dC ?_};refine{1,x,L.aA,dx,_,1,m _ _ hx,L.au.cl,L.au.bY,bL ah bw cl,1,C[i],_,_,1,rfl,g8.of (m _ _ JP),rfl,bw,_,_,1,rfl,m.seq hb,U q.2 Je,1,_,1,rfl,?_}
    by_cases u:g.getD q.2 0<M
    .refine{true,congrArg V.bl (decide_eq_true u),dC ?_};refine{2,by show 2<=sizeLine;decide,λt ht=>?_};exact k t M d i _ q _ (m.trans (a8.upd ht)) a7 ⟨hM,hT,Y,J,r,u⟩
    .refine{false,congrArg V.bl (decide_eq_false u),aU ?_};refine{m,{_,1},Em ?_};rintro⟨c,q',D⟩;have e1:=D.l;rw[Y]at e1;cases e1;have e2:=D.s;rw[J]at e2;cases e2;exact u D.lt
   .refine{rfl,false,congrArg V.bl (decide_eq_false λz=>r (V.int.inj z)),aU ?_};refine aU {m,{_,1},Em ?_};rintro⟨c,q',D⟩;exact r D.e
  .let{s4,{v4,O,rfl},j}:=p
   refine{s4,{_,_,_,1},λd' f c q D=>?_};have:=B d' f c q D
   by_cases e:d'=d
   .subst e;have:=j f c q D;have e1:=D.l;rw[Y]at e1;cases e1;have:=(Za.mp D.s).1;rw[Z4]at *
    lia
   .lia
 .let{s2,_,B}:=p
  let{d,i,c,q,D}:=hex M hM hT
  have:=B d i c q D;have:=(Za.mp D.l).1
  lia
theorem cP(L:Lk K mg):aW P w K mg base cY 1 L.o9 L.oG ["_law_thing","_law_low","_law_high"] Qs:=by
 have T:=L.T;refine L.cK.F.dP (N:=["_law_thing","_law_low","_law_high"]) (λa A outer s H e Q E nd f h=>?_)
 let{i,lo,hi,rfl,b,c,k}:=h
 refine{_,(a9 (ao (j7 (ak bb (by rfl) T.ji di (a5 (0) (aC (cw (v:=.ty "int") (by rfl) T.int KI rfl)))) (j7 (wL (ak bb (by rfl) T.ji di (a5 (0) (aC (cw (v:=.ty "bool") (by rfl) T.bool Fh rfl))))) (j2 (y8 Bv Bv (1) (0) (2))))))),?_}
 ac_rfl
 have d:Q (.bl (decide (i<=hi))) H:=by rw[decide_eq_true c];exact k
 exact{1,_,_,_,true,rfl,dD.int i,rfl,true,rfl,dC {1,_,_,_,false,rfl,dD.int i,rfl,false,rfl,true,rfl,dC {2,_,1,rfl,true,congrArg V.bl (decide_eq_true b),dC {1,_,1,rfl,d}}}}
theorem aX(L:Lk K mg):aW P w K mg base cY 1 L.o7 L.oC ["_law_cell","_law_turn","_law_many"] KH:=by
 have T:=L.T;refine L.b0.F.dP (N:=["_law_cell","_law_turn","_law_many","_law_digits","_law_step","_law_low","_law_high","_law_number"]) (λe A outer s H v Q E nd x h=>?_)
 let{c,t,m,rfl,f,g,a,k}:=h
 refine{_,(a6 (aT (ck ju (aF gp (0) ae) ae) (a6 (ai (i:=3) (aF lD (ak EB (by rfl) T.abs Pt (aC (0))) ae))
  (a6 (forA (cy rfl T.range (aC (1))) (az (i:=4)) (a9 (ai (i:=3) (aF lD (3) ae))))
  (a9 (ao (aF gp (aF gp (3) ae) (2)))))) aB)
  (a6 (ai (i:=5) (aF gp (0) ae))
  (a6 (ai (i:=6) (aF gp (aF lD (0) ae) ae))
  (a6 (ai (i:=7) (aF dJ (aF dW (5) (aF dJ ae (aF dW (1) ae))) (aF dW (6) (aF dJ (1) ae))))
  (a6 (ai (i:=7) (aF gp (aF dJ (aF dJ (7) (aF dW (aF dW (1) (1)) ae)) ae) ae))
  (a9 (ao (aF gp (aF gp (aF dW (7) (7)) ae) (2))))))))),?_}
 ac_rfl
 refine{1,_,1,rfl,(by show (0:Int)<2;decide),rfl,1,?_};refine rT (λ_=>?_) (λ_=>?_)
 .refine{1,c,rfl,_,1,rfl,{⋯,⋯},?_};refine{2,1.0,1.0,cT (lo:=0) (n:=t.toNat) (λi σ b=>b=H/\∃d v4,σ=[ρ (.int c),ρ (.int t),ρ (.int m),ρ (.int d),v4,τ,τ,τ]) {rfl,_,τ,rfl} ?_ ?_}
  .rintro i σ b hi ⟨rfl,d,v4,rfl⟩;exact{1,_,1,rfl,{⋯,⋯},rfl,_,1}
  .rintro σ b ⟨rfl,d,v4,rfl⟩;exact{1,_,1,rfl,(by show (0:Int)<1000003;decide),1,_,1,rfl,a,k _ (ģ _ 1.0) (ţ _ a)}
 .refine{1,_,1,rfl,(by show (0:Int)<998244353;decide),?_};have j:=ģ c (show (998244353:Int)≠0 by decide);have l:=ţ c (show (0:Int)<998244353 by decide);generalize c%998244353=o at j l ⊢;refine{1,_,1,rfl,{⋯,⋯},_,1,rfl,(by show (0:Int)<1000000007;decide),?_};have p:=ģ (c/998244353) (show (1000000007:Int)≠0 by decide);have g1:=ţ (c/998244353) (show (0:Int)<1000000007 by decide);generalize c/998244353%1000000007=q at p g1 ⊢;refine{2,_,1,rfl,.inr {⋯,⋯},_,1,rfl,_,1,rfl,.inl {1.0,1.0},2,_,1,rfl,_,1,rfl,.inl {1.0,1.0},_,1,rfl,?_};generalize o*(4099+t*30)+q*(t+2)=nn;refine{3,_,1,rfl,.inl {1.0,1.0},_,1,rfl,.inr {⋯,⋯},_,1,rfl,_,1,rfl,_,1,rfl,(by show (0:Int)<1000000007;decide),?_};have r:=ģ (nn+t*t*104729+31) (show (1000000007:Int)≠0 by decide);have u:=ţ (nn+t*t*104729+31) (show (0:Int)<1000000007 by decide);generalize (nn+t*t*104729+31)%1000000007=y at r u ⊢;exact{2,_,1,rfl,.inl {1.0,1.0},_,1,rfl,(by show (0:Int)<1000000007;decide),1,_,1,rfl,a,k _ (ģ _ 1.0) (ţ _ a)}
theorem uK(L:Lk K mg):aW P w K mg base cY 2 L.o8 L.oE ["_law_cell"] IA:=by
 have T:=L.T;refine L.oV.F.dP (N:=["_law_cell","_law_letters","_law_many","_law_start","_law_step"]) (λG A outer s H vs Q E nd hr h=>?_)
 let{c,rfl,k}:=h
 refine{_,(a6 (ai (i:=1) fh)
  (a6 (ai (i:=2) (b4 bA (bB (a5 ae (a5 ae (a5 ae (aC ae))))) (ag (aX L) L.b0 (a5 (0) (a5 ae (aC ae)))) (λ_ _=>rfl)))
  (a6 (ai (i:=3) (ag (aX L) L.b0 (a5 (0) (a5 ae (aC ae)))))
  (a6 (ai (i:=4) (b4 bA (bB (a5 ae (a5 ae (a5 ae (a5 ae (a5 ae (aC ae))))))) (ag (aX L) L.b0 (a5 (0) (a5 ae (aC ae)))) (λ_ _=>rfl)))
  (a9 (ao (fJ wdp wdD wdE wO fh (aC (bR rfl (aq ["_law_letters","_law_start","_law_step"] [1,3,4]) (cy rfl T.range (aC (2))) (λ_ _ _ _ _ _=>b8) (λ_ _ _ _ _ _=>(b4 sC (1) (aF gp (aF dJ (2) (aF dW (0) (3))) ae) (λ_ _=>rfl)))))))))))),?_}
 ac_rfl
 refine{⋯,λp I=>?_};refine⟨_,rfl,c,1,4,rfl,⋯,⋯,⋯,λd J M=>?_⟩
 let{n,hn,z}:=Nq d J M
 refine{p,_,d,1,rfl,aM.of a7,hn,?_};refine⟨_,rfl,c,2,36,rfl,⋯,⋯,⋯,λb q0 q1=>?_⟩;obtain⟨st,rfl⟩:∃st:Nat,b=(st:Int):={b.toNat,1.0};have m:st<36:=1.0;refine{⋯,λO o=>?_};refine⟨_,rfl,c,3,6,rfl,⋯,⋯,⋯,λB R S=>?_⟩
 let{sp,r,e}:=Nr B R S
 refine{O,_,B,1,rfl,aM.of a7,r,?_}
 have t:sp<=17:=by
  simp only[ZD,þ,or_false]at e;omega
 have U:n<=4:=by
  simp only[ZD,þ,or_false]at z;omega
 refine{rfl,1,(n:Int),rfl,1.0,1.0,λl hl=>?_};rw[Zy];refine comp_map (Ik st sp) (f9 0 n) hl (by rw[Z4,ZJ];exact av 1.0) (λ_ _=>trivial) (λx X Q' Y s3 q=>?_) (λZ s' f=>?_)
 .let{i,hi,rfl}:=Ze.mp Y
  have M9:i<n:=Í.mp hi;have hd:(st+i*sp)%36<(ch fK).9:=by rw[b7,yi];exact whr _ ⋯
  have e1:(ch fK)[(st+i*sp)%36]?=ρ ((ch fK).getD ((st+i*sp)%36) 0):=by rw[Z8,Z5 hd];rfl
  have C:=bz e1;have e3:(((st+i*sp)%36:Nat):Int)=((st:Int)+(0+(i:Int))*(sp:Int))%36:=by rw[Ą];rfl
  rw[e3]at C
  have e4:Ik st sp (.int (0+(i:Int)))=.str {#[(ch fK).getD ((st+i*sp)%36) 0]}:=by
   rw[Ą];rfl
  have D:=q X (a8.refl _);rw[e4]at D;exact{4,_,1,rfl,.inl {1.0,1.0},_,1,rfl,_,1,rfl,(by show (0:Int)<36;decide),fK,_,1,rfl,av (by rw[yi];decide),C,D}
 .have u:((ZF n).map λ(i:Nat)=>V.int (0+(i:Int))).map (Ik st sp)=((qi st sp n).map λc=>({#[c]}:Str)).map V.str:=by
   delta qi;rw[Zj,Zj,Zj];refine ú λi _=>?_;show Ik st sp (.int (0+(i:Int)))=_;rw[Ą];rfl
  have g:(qi st sp n).9=n:=by delta qi;rw[Z4,ZJ]
  rw[u]at f;refine{_,l,1,rfl,aM.of f,?_,?_}
  .have j:∀a:List Nat,((a.map λc=>({#[c]}:Str)).map (·.9)).sum=a.9:=by
    intro a
    induction a with
    |nil=>rfl
    |cons c a v=>rw[Zw,Zw,Î,v,ZP];show 1+a.9=_;omega
   rw[j,Z4,g];show n+n*0<=16777216;omega
  .have y:∀a:List Nat,((a.map λc=>({#[c]}:Str)).map ch).flatten=a:=by
    intro a
    induction a with
    |nil=>rfl
    |cons c a v=>rw[Zw,Zw,wdh,v];rfl
   refine k _ Z (yj m e z ?_) (((a8.upd I).trans (a8.upd o)).trans s');rw[pI ∅,y]
theorem p6(L:Lk K mg):aW P w K mg base cY 2 L.qA L.qK ["_law_cell","_law_signs_here"] KL:=by
 have T:=L.T;refine L.kY.F.dP (N:=["_law_cell","_law_signs_here","_law_wide","_law_rows","_law_step","_law_many"]) (λG A outer s H Z Q E nd hr h=>?_)
 let{c,g,rfl,f,j,k}:=h
 refine{_,(a6 (ai (i:=2) (aF dJ ae (ag (aX L) L.b0 (a5 (0) (a5 ae (aC (b4 bA (bB (a5 ae (a5 ae (aC ae)))) (aF gn (FZ T.len (1)) ae) (λ_ _=>rfl))))))))
  (a6 (ai (i:=3) ae)
  (a6 (forA (cy rfl T.range (aC (2))) (az (i:=4)) (a9 (ai (i:=3) (aF dW (3) (FZ T.len (1))))))
  (a6 (ai (i:=5) (aF dJ ae (ag (aX L) L.b0 (a5 (0) (a5 ae (aC ae))))))
  (Bz (aT (ck i5 (ag (aX L) L.b0 (a5 (0) (a5 ae (aC ae)))) ae) (a9 (ai (i:=5) (aF dJ ae (ag (aX L) L.b0 (a5 (0) (a5 ae (aC (ak (Ct rfl) (by rfl) T.max JL (a5 ae (aC (ak (iK rfl) (by rfl) T.min CH (a5 ae (aC (aF gn (aF lD (3) ae) ae)))))))))))))) aB)
  (a9 (ao (cM (a5 (5) (aC (2))))))))))),?_}
 ac_rfl
 let{b,I,b1,b6,l}:=Nv f j
 refine{1,⋯,λp J=>?_};refine{1,g,rfl,av (),_,1,rfl,p,_,_,1,rfl,aM.of a7,I,?_};refine⟨c,14,b,rfl,⋯,⋯,(),λd h0 h1=>{_,1,rfl,?_}⟩;obtain⟨a,t,u,M⟩:∃w:Int,1+d=w/\1<=w/\w<=b:={1+d,rfl,(),()};show dA 2 (V.int (1+d)) _ _ _;rw[t];have sp:=a8.upd (o:=.lst [.int 6,.int 3,.int 3]) J;have O:=l a.toNat () ();refine{1,a,rfl,(),(),cT (lo:=0) (n:=a.toNat) (λi σ v=>a8 H v/\∃r v4,σ=[ρ (.int c),ρ (.str g),ρ (.int a),ρ (.int r),v4,τ]) ⟨sp,1,τ,rfl⟩ ?_ ?_}
 .rintro i σ v hi ⟨e,r,v4,rfl⟩;exact{2,g,rfl,av (),_,1,rfl,.inr {(),()},e,_,1}
 rintro σ v ⟨e,r,v4,rfl⟩;refine⟨_,rfl,c,15,7,rfl,⋯,⋯,⋯,λR g0 g1=>{_,1,rfl,?_}⟩;refine{λσ x=>a8 H x/\∃r v4 m,σ=[ρ (.int c),ρ (.str g),ρ (.int a),ρ (.int r),v4,ρ (.int m)]/\2<=m/\m<=8,?_,?_}
 .refine⟨_,rfl,c,16,3,rfl,⋯,⋯,⋯,λd3 _ _=>{_,1,rfl,1,?_}⟩;refine rT (λ_=>?_) (λ_=>{e,r,v4,2+R,rfl,(),()});refine{2,_,1,rfl,{⋯,⋯},_,1,rfl,_,1,_,1,?_}
  obtain⟨z,S,z1,z7⟩:∃z:Int,(if (if r/2-1<7 then r/2-1 else 7)>1 then(if r/2-1<7 then r/2-1 else 7) else 1)=z/\1<=z/\z<=7:=by
   generalize r/2-1=y
   by_cases q:y<7
   .rw[if_pos q]
    by_cases B:y>1
    .exact{y,if_pos B,(),()}
    .exact⟨1,if_neg B,(),()⟩
   .rw[if_neg q];exact⟨7,rfl,⋯,⋯⟩
  rw[S];exact⟨c,17,z,rfl,⋯,⋯,(),λU e0 e1=>{_,1,rfl,e,r,v4,2+U,rfl,(),()}⟩
 .rintro σ x ⟨C,r,v4,m,rfl,X,Y⟩;refine{2,by show 2<=sizeLine;decide,λq D=>?_};exact k q m a _ (C.trans (a8.upd D)) (none_of C D) a7 {X,Y,u,(),O}
end
end K34
namespace _L
open PySem.Spec PyProof.Rows
section
variable{prog:ZC}{w:World}{A:Around}{E:Value->Shared->Prop}{s:Shared}
theorem yU{g:Bool->Sem Unit}(hg:∀(b:Bool) (C:Shared) (U:Unit->Shared->Prop),U .unit C->wpAny (model prog w) A (g b) U E C)
 {a:Addr} {o:Obj} {es:Array (Int×Value)} {ep:Nat} {t:Ã} (ho:s.heap.get? a=ρ o) (hex:o.ExactSet) (hd:o.data=.set es ep t)
 {j:Array (Int×Value)} {t2:Ã} {S':Int->Bool} {led:Bool} (I:ElemsOf (Ò prog w) j.toList) (p:∀J,S' J=true↔∃e∈j.toList,(Ò prog w).is J e.2=true)
 (r:j.size<É) (T:t2.fits j.size=true) (T2:jw t2 j.size) (l2:t2.led=led) {l:Bool} {R:Option Bool->Shared->Prop}
 (h:∀h',ć a s.heap h'->jU (prog:=prog) (w:=w) h' a S' j.size led->R (ρ true) {s with heap:=h'}) :
 wpAny (model prog w) A (do
  storeSet a j t2
  if (!l&&t2.tooFull)=true then do
   g (relayAll t2 j (Ĵ j.size)).2.2
   storeSet a (relayAll t2 j (Ĵ j.size)).1 (relayAll t2 j (Ĵ j.size)).2.1
   pure (ρ true)
   else pure (ρ true)) R E s:=by
 refine Z7 (wpAny_storeSet_of ho hd ?_ (Χ r))
 let{k,n}:=sA ho hex hd I p r T T2 l2
 have c:=ŭ s.heap a (whl j t2);split
 .have i:=relayAll_perm t2 j (Ĵ j.size);have d:=relayAll_fits t2 j (Ĵ j.size)
  let{u,hl}:=Df t2 j (Ĵ j.size)
  generalize relayAll t2 j (Ĵ j.size)=z at i d u hl ⊢
  let{v,B,x}:=z
  dsimp only at i d u hl ⊢;have f:v.size=j.size:=by rw[<-ZR,i.length_eq,ZR]
  refine Z7 (hg _ _ _ ?_);refine Z7 (wpAny_storeSet_of k rfl ?_ (Χ (f ▸ r)))
  let{_,m}:=sA (prog:=prog) (w:=w) k hex rfl (I.perm i) (λJ=>(p J).trans {λ⟨e,y,q⟩=>{e,i.mem_iff.mpr y,q},λ⟨e,y,q⟩=>{e,i.mem_iff.mp y,q}}) (f ▸ r) d u (hl.trans l2)
  rw[f]at m;exact Zc (h _ (c.trans (ŭ _ a _)) m)
 .exact Zc (h _ c n)
theorem Jf{a:Addr}{S:Int->Bool}{n:Nat}{led:Bool}{k:Int}{x:Value}{Q:Bool->Shared->Prop}(l:(Ò prog w).is k x=true)(I:x.scannable=true)(hS:jU (prog:=prog) (w:=w) s.heap a S n led)(p:n+1<É)
 (h:∀h',ć a s.heap h'->jU (prog:=prog) (w:=w) h' a (λr=>S r ||decide (r=k)) (if S k then n else n+1) led->Q (!S k) {s with heap:=h'}) :
 wpAny (model prog w) A (setAddHashed a x ((Ò prog w).hash k)) Q E s:=by
 let{o,J,ep,t,N,hex,hd,y,hmem,X,R,hn,T,hl}:=hS
 have Yy:J.size+1<É:=by rw[hn];exact p
 unfold setAddHashed setAddHashedIn;refine ZX (Z7 (Ł N hd R ?_));dsimp only;rw[byScan_of I X y];simp only[↓reduceIte];unfold setAddByScan;refine Z7 (Z7 (ŷ (Z7 (wpAny_setScan_of l N hd R y ?_))))
 cases Y:List.findIdx? (λe=>(Ò prog w).is k e.2) J.toList with
 |some j=>
  dsimp only
  let{hj,U,_}:=List.findIdx?_eq_some_iff_getElem.mp Y
  have m:S k=true:=(hmem k).mpr {J.toList[j],ZQ hj,U};refine Zc (Zc ?_)
  have:=h s.heap (Heap.SameBut.refl a s.heap) {o,J,ep,t,N,hex,hd,y,λr=>by
   rw[whi,decide_eq_true_eq,<-hmem r]
   exact{λhk=>hk.elim id (λe=>e ▸ m),.inl},X,R,by rw[m];exact hn,T,hl}
  rw[m]at this;exact this
 |none=>
  dsimp only
  have m:S k=false:=by
   cases hk:S k with
   |false=>rfl
   |true=>
    let{e,he,hp}:=(hmem k).mp hk
    have:=List.findIdx?_eq_none_iff.mp Y e he;rw[hp]at this;cases this
  have c:=layNew_perm t J ((Ò prog w).hash k) x;have d:=layNew_fits t J ((Ò prog w).hash k) x
  let{g,z}:=Az T ((Ò prog w).hash k) x
  generalize layNew t J ((Ò prog w).hash k) x=L at c d g z ⊢
  let{q,Z,M,W4}:=L
  dsimp only at c d g z ⊢;rw[wgX]at c;have B:ElemsOf (Ò prog w) q.toList:=(y.push l I).perm c;have u:∀r,(S r ||decide (r=k))=true↔∃e∈q.toList,(Ò prog w).is r e.2=true:=mem_push_iff l hmem c;have C:q.size=n+1:=by rw[<-ZR,c.length_eq,Zd,ZR,hn];rfl
  have D:q.size<É:=by rw[C];exact p
  have V:∀(b:Bool) (f:Shared) (O:Unit->Shared->Prop),O .unit f->wpAny (model prog w) A (match b with |true=>rule "set.scan.the-table-gave-way" |false=>pure .unit) O E f:=
   λb f O G=>by cases b<;>first |exact Zc G |exact ŷ G
  refine Z7 (V _ _ _ ?_)
  have H:∀h',ć a s.heap h'->jU (prog:=prog) (w:=w) h' a (λr=>S r ||decide (r=k)) q.size led->Q true {s with heap:=h'}:=by
   intro h' v i;have:=h h' v;rw[m]at this;rw[C]at i;exact this i
  split
  .refine Z7 ?_;rw[hashByValue_scannable 8 I];refine Zc ?_;refine yU (λb f O G=>by cases b<;>first |exact Zc G |exact ŷ G) N hex hd B u D (t2:=if plainKind x=true then Z else{Z with plain:=false}) (by split;exact d;exact SetTable.fits_plain_off d) (by split;exact g;exact⟨g.sz,g.up,g.du⟩) (led:=led) (by split<;>exact z.trans hl) (λh' v i=>by dsimp only;exact Zc (H h' v i))
  .refine Z7 (Zc ?_);simp only[↓reduceIte];refine yU (λb f O G=>by cases b<;>first |exact Zc G |exact ŷ G) N hex hd B u D d g (z.trans hl) (λh' v i=>by dsimp only;exact Zc (H h' v i))
theorem Gx{R:à->Shared->Prop}{I:Addr}{T l:List Addr}{G:Array õ->Array õ->Prop}{n:Nat}{P:Nat->Value->Prop}{St:Nat->Shared->Prop}(p:WalksS prog w A.in1 I T l G n P St)(S:Addr)(r:S∉T)(led:Bool)
 (val:Nat->Int) (C:∀i v,P i v->∃t,v=.int (val i) t) (g:n+1<É) (k:Nat):∀(i:Nat) (s:Shared),i+k=n->St i s ->
   jU (prog:=prog) (w:=w) s.heap S (λj=>(firstMet val i).any (· == j)) (firstMet val i).length led ->
   (∀s',Moved (S::l) G s s'->jU (prog:=prog) (w:=w) s'.heap S (λj=>(firstMet val n).any (· == j)) (firstMet val n).length led->R (.ok (.ret .none)) s') ->
   codeAny (model prog w) A (.builtin "set.update.loop" {[.ref S,.ref I],[]}) R s:=by
 have f:S∉l:=λh=>r (p.sub _ h);have a:∀b∈l,b∈S::l:=λb g=>Zh _ g
 induction k with
 |zero=>
  intro i s hi c z B;obtain rfl:i=n:=1.0;refine ä wbK ?_;rw[ą ŧ _];refine Z7 (p.done s _ _ c λs' m=>?_);exact Zc (B s' (m.mono a) (z.at λo e=>m.heap S o f e))
 |succ k L=>
  intro i s hi c z B;refine ä wbK ?_;rw[ą ŧ _];refine Z7 (p.item i s _ _ 1.0 c λv s' M q m=>?_)
  let{t,rfl}:=C i v M
  have D:=z.at λo e=>m.heap S o f e;have d:(firstMet val i).9+1<É:=by have:=firstMet_length_le val i;omega
  show wpAny _ A.in1 (holding [ĳ (val i) t] (setAdd S (.int (val i) t)) >>= _) _ _ s';refine Z7 (ZX ?_);unfold setAdd;refine ZX (Z7 ((Ò prog w).pyHash (k:=val i) (intKind_is _ _ _ _) ?_));refine Jf (s:={s' with toks:=s'.toks+1}) (intKind_is _ _ _ _) rfl D d λN u E=>?_;have H:=E.as (S':=λj=>(firstMet val (i+1)).any (· == j)) (n':=(firstMet val (i+1)).9) (funext λj=>by rw[wgd,step_any]) (by rw[wgd,step_length]);refine Zc {ĉ ŧ _,L (i+1) _ 1.0 (p.frame _ s' _ _ q (í _) λb g o e=>?_) H λJ x y=>?_}
  .rw[u.2 b (λh:b=S=>r (by rw[<-h];exact g))];exact e
  .refine B J (Moved.trans p.gtrans ((m.mono a).then_heap (í _) λb o g e=>?_) x) y;rw[u.2 b (λh:b=S=>g (by rw[h];exact Zm))];exact e
theorem mz{a:Addr}{slot i ep:Nat}{o:Obj}{g:Array (Int×Value)}{t:Ã}{l:Option (Value×Nat)->Shared->Prop}
 (p:s.heap.get? a=ρ o) (hd:o.data=.set g ep t) (r:t.fits g.size=true) (C:w.params.followText "set-order"=false) (hl:t.led=true) (I:(!t.plain&&decide (g.size>1))=false)
 (h:l (match g[æ t.place slot]?,t.place[æ t.place slot]? with |some (_,x),ρ j=>ρ (x,j+1) |_,_=>τ) s):wpAny (model prog w) A (setNext a slot i ep) l E s:=by
 unfold setNext;refine Z7 (Ł p hd r ?_);unfold ź;refine Z7 (Z7 (ĸ (Zc ?_)));dsimp only;rw[if_neg (by show ¬(w.params.followText "set-order"=true);rw[C];exact Zu)];rw[if_neg (by show ¬((!t.plain&&decide (g.size>1))=true);rw[I];exact Zu)];refine Z7 ?_;refine Ż (a:=.unit) ?_ (Zc h);show (if (!t.led && !g.isEmpty)=true then _ else _)=_;rw[hl];rfl
theorem p7{a:Addr}{slot i ep:Nat}{o:Obj}{g:Array (Int×Value)}{t:Ã}{j:Option (Value×Nat)->Shared->Prop}
 (l:s.heap.get? a=ρ o) (hd:o.data=.set g ep t) (p:t.fits g.size=true) (r:w.params.followText "set-order"=true)
 (h:j (((Ū (w.params.setOrder a ep) g)[i]?).map λe=>(e.2,slot)) s):wpAny (model prog w) A (setNext a slot i ep) j E s:=by
 unfold setNext;refine Z7 (Ł l hd p ?_);unfold ź;refine Z7 (Z7 (ĸ (Zc ?_)));dsimp only;rw[if_pos (by show w.params.followText "set-order"=true;exact r)];rw[if_neg (by simp)];refine Z7 ?_;unfold setWalk;refine Z7 (Ł l hd p ?_);unfold ź;refine Z7 (Z7 (ĸ (Zc ?_)));dsimp only;rw[if_pos (by show w.params.followText "set-order"=true;exact r)];refine Z7 (ĸ (Zc ?_));exact Zc h
theorem yV{r:Addr}{Q:Bool->Shared->Prop}(hT:s.TypeIs (.ref r) "set")(h:Q false s):wpAny (model prog w) A (weg (.ref r)) Q E s:=by
 unfold weg;refine Z7 (wpAny_specialOf hT PySem.F.slot_set_len.lookup ?_);generalize T8:("set.__len__":String)=W5
 wp_delta
 rw[show splitId W5=ρ ("set","__len__") from by subst T8;decide+kernel];subst T8;refine Z7 (wpAny_isInstance (T:="set") (b:=true) hT (by rw[θ];kernel_rfl) ?_);refine wfl (λQM=>absurd QM ⋯) (λ_=>?_);refine wfl (λ_=>?_) (λQM=>absurd ∅ QM);refine Z7 (wpAny_typeOf hT ?_);exact Zc h
theorem DC{g:Source}{n:Nat}{Q:Nat->Shared->Prop}(hn:n≠0)(h:∀i d,i<n->Q i {s with drawn:=d}):wpAny (model prog w) A (choose g n) Q E s:=
 λ_ _ _=>{hn,h _ _ (whr _ (wgA hn))}
theorem C5{α:Type}:∀(n:Nat) (xs:List α) (s:Shared) (Q:List α->Shared->Prop),xs.9=n->(∀ys d,ys.Perm xs->Q ys {s with drawn:=d})->wpAny (model prog w) A (drawOrder n xs) Q E s
 |0,xs,s,Q,h,k=>by
  rw[ĵ.mp h]at k ⊢;unfold drawOrder;exact Zc (k [] s.drawn (whv _))
 |n+1,[],s,Q,h,k=>nomatch h
 |n+1,x::xs,s,Q,h,k=>by
  unfold drawOrder;refine Z7 (DC (by simp) λi d hi=>?_);rw[Z5 hi];dsimp only;refine Z7 (C5 n _ _ _ (by rw[wep hi];omega) λys a b=>Zc ?_);exact k _ a ((List.Perm.cons _ b).trans (sf hi))
end
section
variable{X:Cx}
theorem DE{K:Z6}(t:X.K=K)(hc:X.calm=true):cu X (.type "set") (λxs H Q=>∃l g,xs=[.ref l]/\aM K H l (Ú V.int g)/\g.9<=1000/\∀p,H p=τ->Q (.ref p) (upd H p (Ed X.prog X.w p (firstMet (λi=>g.getD i 0) g.9).9))):=by
 subst t;intro j s σ H xs C Q I r h
 let{l,g,rfl,n,D,q}:=h
 let{u,rfl,v}:=vals1 r
 cases v
 let{c,m,pl,_}:=I.list n
 have a:=m.9;rw[Z4]at a;refine call_set_list (I.ok.hd hc) pl.isList (ns:=g) (by simpa using rY m) (by simp;unfold É;omega) λx y d kp=>?_;have f:∀b o,s.heap.get? b=ρ o->x.get? b=ρ o:=λb o e=>kp b o (Zg e) e;rw[show c.toArray.size=g.length by simp[a]]at d;refine{.ref s.8,_,I.laid (t':=y) (o:=Ed X.prog X.w s.heap.objs.size (firstMet (λi=>g.getD i 0) g.9).9) f (Zf _) {{_,d},?_,?_},rfl,q _ (I.bc.fresh (Zf _))}
 .let{o,_,_,_,e,_}:=d
  exact⟨o,e⟩
 .rintro E G ⟨S,o,z,A,B,e,rest⟩ k;exact{S,o,z,A,B,k o e,rest}
theorem xB:cu X (.builtin "len") (λxs H Q=>∃p n,xs=[.ref p]/\H p=ρ (Ed X.prog X.w p n)/\Q (.int n) H):=by
 intro b s σ H xs g Q I r h
 let{p,n,rfl,c,q}:=h
 let{u,rfl,d}:=vals1 r
 cases d
 let{{S,o,i,j,k,e,hex,hd,_,_,f,a,hn},_}:=(show bT X.prog X.w H s.heap p (Ed X.prog X.w p n) from I.bc p _ c)
 refine call_len_set e hex hd a (by grind [É]) {.int n,H,I.tok _,{s.toks+1,?_},q};rw[hn]
theorem AW(g:X.A.units<À):jZ X (Æ .Eq) (Pw X.K):=by
 intro c s σ H x y v u Q I e f h
 let{a,b,i,rfl,rfl,ha,j,hn,q}:=h
 cases e;cases f
 let{k,l,m,_}:=I.list ha
 let{d,n,o,_}:=I.list j
 have r:=l.9;have p:=n.9;have hl:i.length≠0:=λz=>hn (Đ z);exact wf3 m.isList o.isList (by simp only[ZB,bne_iff_ne];simp at p;omega) g {.bl false,H,I,rfl,q}
end
end _L
namespace _S
open PySem.Spec PyProof.Rows
section
variable{K:Z6}{C CB D:Addr}{nm BV J5:Str}
theorem gR.ne(U:cg K C CB nm)(V:gR K D CB BV)(h:¬nm=BV):C≠D:=λe=>by
 subst e
 let{q,N,bs,n,sub,ab,d,p,r,s,t,u,v,f}:=U.lk
 let{w,x,g,i,b,j,c,k,y,l,z,A,B,a}:=V.lk
 rw[f]at a;have:=congrArg (λo=>match o with |some (⟨_,_,.cls m,_⟩:Obj)=>m.name |_=>nm) a;exact h this
theorem gR.neT(V:gR K D CB BV)(T:AA K CB J5)(h:¬BV=J5):D≠CB:=λe=>by
 subst e
 let{q,N,bs,p,sub,ab,d,r,s,t,u,v,w,f}:=V.lk
 let{x,y,g,i,j,b,k,c,l,z,m,A,B,C,a}:=T.lk
 rw[f]at a;have:=congrArg (λo=>match o with |some (⟨_,_,.cls n,_⟩:Obj)=>n.name |_=>BV) a;exact h this
theorem gR.cls(V:gR K D CB BV):(clsIn K D).isSome=true/\typeIn K (.ref D)=ρ (.type "type"):=by
 let{h,i,d,e,b,f,c,g,j,k,l,m,n,a}:=V.lk
 refine{by unfold clsIn;rw[a];rfl,?_};show Option.map (λx=>x.cls) (K.lookup D)=ρ (.type "type");rw[a];rfl
theorem DF(U:cg K C CB nm)(V:gR K D CB BV)(T:AA K CB J5)(g:¬BV=J5)(e:¬nm=BV):kitOne K (.ref C) (.ref D)=ρ false:=by
 unfold kitOne;have ne:=gR.ne U V e;rw[if_neg (by simpa using ne)]
 let{q,N,bs,h,sub,ab,a,i,j,k,l,m,n,lk}:=U.lk
 let{b,c}:=V.cls
 unfold kitCls;dsimp only;rw[b,c,if_pos (by rfl)];unfold subIn mroIn clsIn;dsimp only;rw[lk];show ρ ((Zo C::pQ CB).contains (.ref D))=ρ false;have d:(Zo D==Zo C)=false:=by simpa using Á ne
 have f:(Zo D==Zo CB)=false:=by simpa using V.neT T g
 simp only[wee,d,f,Ŋ];rfl
end
end _S
namespace _L
open PySem.Spec PyProof.Rows
section
variable{X:Cx}{prog:ZC}{w:World}{A:Around}{os:Ì}{nm q:Str}{CB N:Addr}{bs:List Value}{hdct:Bool}{sn:List Str}{ab:Bool}{col:Option Bool}{dd:Option Addr}{k0 k1 k2 k3 k5:Option Value}{pos:Pos}{name:Str}{ta tv:TE}{E:Value->Shared->Prop}{gN:Pos}{es:List Expr}{s:Shared}
theorem wA{K:Z6}(J:X.K=K):Kj X "list.index" (λx xs H Q=>∃l g k i,x=.ref l/\xs=[.str k]/\aM K H l (Ú V.str g)/\g.9<=1000/\g[i]?=ρ k/\(∀j:Nat,j<i->g[j]?≠ρ k)/\Q (.int (i:Nat)) H):=by
 subst J;intro A s σ H x xs v Y Q I E G h
 let{l,g,k,i,rfl,rfl,L,M,hi,f,q}:=h
 cases E
 let{u,rfl,N,rfl}:=G.one
 let{a,B,pl,Z}:=I.list L
 let{{cls,O,data,sl},C,hc,n,hd}:=pl.isList
 simp only at hc hd;subst hc hd;have c:=B.9;rw[Z4]at c;have R:i<g.9:=(Za.mp hi).1
 have at_:∀m (b:m<a.9),∃t,a[m]=.str (g[m]'1.0) t:=λm b=>by
  let{w,D,S}:=B.get (i:=m) (x:=.str (g[m]'1.0)) (by rw[Z9,Z5 1.0];rfl)
  rw[Z5 b]at D
  let{t,rfl}:=S
  exact{t,Zi D}
 refine call_meets wdc {_,C,rfl} PySem.F.entry_list_index (PySem.F.args_list_index_2 _ _)
  (PySem.SeqAt.list_indexAt l a.toArray n O sl (.str k N) (λw=>match w with |.str z _=>z==k |_=>false) i (by simp;omega) 1.0 ?_ ?_) {C,λy T=>?_,?_}
 .let{t,e}:=at_ i 1.0
  have U:g[i]=k:=(Za.mp hi).2;simp only[wg4];rw[e,U];simp
 .intro m b o;have p:m<a.9:=by simpa using b
  let{t,e}:=at_ m p
  simp only[wg4];rw[e];have d:=f m o;rw[Z5 1.0]at d;simp only[beq_eq_false_iff_ne,ne_eq];exact λz=>d (by rw[z])
 .have r:y∈a:=by simpa using T
  let{m,b,rfl}:=ĥ r
  let{t,e}:=at_ m b
  rw[e];exact wfC _ _ _ _
 .exact{.int (i:Nat),H,I.tok _,{_,rfl},q}
noncomputable abbrev uj(w:World):Obj:={cls:=.type "set",dict:=τ,data:=.set #[] 0 (.fresh 0 0 (q9 w))}
theorem Gy(a:Value){Q₁:Value->Shared->Prop}(h:Q₁ (.ref s.8) {s with heap:=s.heap.push (uj w)}) :
 codeAny (model prog w) A (.call (.builtin "set.__new__") {[.type "set",a],[]}) (wants Q₁ E) s:=by
 refine μ ?_;show wpAny _ A.in1 (do ū "set.__new__" {[.type "set",a],[]};again (.builtin "set.__new__" {[.type "set",a],[]})) _ _ s;refine Z7 (Ż (PySem.F.newCall_set_1 a) (Zc {ĉ wfQ _,ä PySem.F.entry_set_new ?_}));rw[ą wfQ _];unfold È.«set.__new__» why;have b:=sub_set_self
 let{c,g,d,e,os}:=s
 dsimp only
 wp_walk
 refine ĸ (Zc ?_);dsimp only;simp only[newObj];exact Z7 (wpAny_alloc (Zc (Zc h)))
theorem AX(g:Heap)(a:Addr)(l:g.get? a=ρ (uj w))(val:Nat->Int):jU (prog:=prog) (w:=w) g a (λo=>(firstMet val 0).any (· == o)) (firstMet val 0).length (q9 w):=
 ⟨_,#[],0,_,l,⟨rfl,rfl,rfl⟩,rfl,λe c=>(by simp at c),λk=>(by rw[firstMet_zero];simp),⋯,rfl,rfl,{rfl,λi j a b _ e=>(by simp[SetTable.fresh]at e),rfl},rfl⟩
theorem DG{l:Addr}{items:Array Value}{ns:List Int}{Q:Value->Shared->Prop}(hh:A.handled=τ)(hl:s.heap.IsList l items)(hi:IntsAre items.toList ns)(I:items.size+1<É)
 (h:∀(h':Heap) (tk:Nat),jU (prog:=prog) (w:=w) h' s.heap.objs.size (λJ=>(firstMet (λi=>ns.getD i 0) items.size).any (· == J)) (firstMet (λi=>ns.getD i 0) items.size).length (q9 w) ->
   (∀b o,b<s.8->s.heap.get? b=ρ o->h'.get? b=ρ o)->Q (.ref s.8) {s with heap:=h',toks:=tk}) :
 wpAny (model prog w) A (call (.type "set") [.ref l]) Q E s:=by
 let{c,tl,X}:=Ù.mro
 have H:=Ù.made;have Y:=Ù.sub;refine â (μ ?_);show wpAny _ _ (callAny (.type "set") _) _ _ _;refine Zc {Ų _ ∅,ä wdB ?_};rw[we9 (wdC "set" [.ref l] []) rfl];have h1:=Ù.notType;have h2:=Ù.canCreate;have Ma:=wfu (.ref l)
 repeat (any_goals (first |assumption |wp_step))
 refine Þ (Gy (.ref l) (E:=E) (Q₁:=λobj f=>obj=.ref s.8/\f={s with heap:=s.heap.push (uj w)}) ⟨rfl,rfl⟩) λr f L=>?_
 cases r with
 |error e=>exact L
 |ok fl=>
  cases fl with
  |ret obj=>
   let{rfl,rfl}:=L
   have Z:(s.heap.push (uj w)).get? s.8=ρ (uj w):=Zr _ rfl;have hT:wgb {s with heap:=s.heap.push (uj w)} (.ref s.8) "set":={_,Z,rfl};have Vq:=Ù.init.lookup;have Vr:=Ù.init.bind (.ref s.8)
   repeat (any_goals (first |assumption |wp_step))
   refine Þ (ĩ (R:=wants (λr g=>r=.none/\∃h' tk,g={s with heap:=h',toks:=tk} /\
    jU (prog:=prog) (w:=w) h' s.heap.objs.size (λJ=>(firstMet (λi=>ns.getD i 0) items.size).any (· == J)) (firstMet (λi=>ns.getD i 0) items.size).length (q9 w) /\
    (∀b o,b<s.8->s.heap.get? b=ρ o->h'.get? b=ρ o)) E) Ù.init.plain wfv (check_set_init_1 hT ?_)) λp g a=>?_
   .let{ol,q,u,nl,x}:=hl
    let{W6,j,M,d}:=ol
    simp only at u x;subst u;subst x;have y:(s.heap.push (uj w)).get? l=ρ {cls:=.type "list",dict:=j,data:=.seq items nl,slots:=d}:=Zb _ q;have W8:=PySem.F.sub_list_set;have Wa:=PySem.F.sub_list_frozenset;have ya:(ï "list" == ï "dict")=false:=⋯;have z:(s.heap.push (uj w)).IsList l items:={_,y,rfl,nl,rfl};unfold È.«set.__init__» noKeywords we4;generalize N:pyIter=PI
    wp_walk
    subst N;refine ļ z ?_;refine Z7 (wfH ?_);have B:l<s.8:=Zg q;have O:A.in1.in1.in1.handled=τ:=by simp[hh]
    have k:(s.heap.push (uj w)).7=s.8+1:=ã ..;have C:l≠(s.heap.push (uj w)).7:=by rw[k];exact Zt (Ă B)
    have S:s.heap.objs.size∉[(s.heap.push (uj w)).7,l]:=by
     rw[k];simp only[ZD,þ,or_false,not_or];exact{Zt (Ď _),ö B}
    have D:∀(i:Nat) (v:Value),items[i]?=ρ v->∃t,v=.int ((λi=>ns.getD i 0) i) t:=λi v hv=>IntsAre.int_at hi i v (by rw[á];exact hv);refine Gx ((Ŭ O _ l C items).toS) s.heap.objs.size S (q9 w) (λi=>ns.getD i 0) D I items.size 0 _ 1.0 {{_,Zr _ rfl,rfl,rfl},(z.push _)} (AX _ _ (Zb _ Z) _) λs' G m=>?_
    let{h',g',d',T,U}:=s'
    have eg:g'=s.gens:=G.gens;have ed:d'=s.drawn:=G.drawn;have eo:U=s.os:=G.os;subst eg ed eo;refine Zc (Zc {rfl,h',T,rfl,m,λb o I e=>?_});exact G.heap b o (by simp only[ZD,þ,or_false,not_or];exact{Zt I,by rw[k];exact Zt (Ă I)}) (Zb _ (Zb _ e))
   .cases p with
    |error e=>exact a
    |ok n=>
     cases n with
     |ret r=>
      let{rfl,h',tk,rfl,m,V}:=a
      repeat (any_goals (first |assumption |wp_step))
      exact h _ _ m V
     |_=>exact a.elim
  |_=>exact L.elim
def cH(h:Heap)(it a:Addr)(first:Value)(i n ep:Nat):Prop:=h.get? it=ρ {cls:=.type "set_iterator",data:=.fields #[first,.int i 0,.ref a,.int n 0,.int ep 0]}
theorem next_item{it a:Addr}{slot i n ep Em:Nat}{x:Value}{o:Obj}{g:Array (Int×Value)}{t:Ã}{Q:Option Value->Shared->Prop}(hit:cH s.heap it a (.int slot 0) i n ep)
 (l:s.heap.get? a=ρ o) (hd:o.data=.set g ep t) (p:t.fits g.size=true) (hn:g.size=n)
 (r:∀(C:Around) (I:Value->Shared->Prop) (j:Option (Value×Nat)->Shared->Prop),j (ρ (x,Em)) s->wpAny (model prog w) C (setNext a slot i ep) j I s)
 (J:∀h',cH h' it a (.int Em 0) (i+1) n ep->ć it s.heap h'->Q (ρ x) {s with heap:=h'}):wpAny (model prog w) A (pyNext (.ref it)) Q E s:=by
 have b:s.TypeIs (.ref it) "set_iterator":={_,hit,rfl};unfold pyNext;refine Z7 (ŉ (wcg (name:=Ĩ "__next__") b bW (Č bW b fX ?_ (gD _))));unfold È.«set_iterator.__next__»;refine Z7 (m:=slotArgs "__next__" 0 _) (Zc ?_);refine Z7 (we5 hit rfl ?_);dsimp only;refine Z7 (Ş l hd p ?_);rw[if_neg (by rw[hn];simp)];simp only[Zy];refine Z7 (r _ _ _ ?_);dsimp only;refine Z7 (ŝ hit (show 0<5 by decide) λk c d=>?_);refine Z7 (ŝ c (show 1<5 by decide) λe f h=>?_);exact Zc {1,Zc (J e f (d.trans h))}
theorem AY{a:Addr}{o:Obj}{g:Array (Int×Value)}{ep:Nat}{t:Ã}{Q:Value->Shared->Prop}(j:s.heap.get? a=ρ o)(hex:o.ExactSet)(hd:o.data=.set g ep t)(l:t.fits g.size=true)
 (p:(!w.params.followText "set-order" && (!t.plain&&decide (g.size>1)))=false)
 (r:Q (.ref s.8) {s with heap:=s.heap.push {cls:=.type "set_iterator",data:=.fields #[.int 0 0,.int 0 0,.ref a,.int g.size 0,.int ep 0]}}):wpAny (model prog w) A (pyIter (.ref a)) Q E s:=by
 have b:s.TypeIs (.ref a) "set":=⟨o,j,hex.1⟩;refine weB b Φ (Č Φ b jv ?_ (wf5 _));unfold È.«frozenset.__iter__»;refine Z7 (m:=wf6 "__iter__" _) (Zc ?_);unfold wf0;refine Z7 (Z7 (Ş j hd l (Zc ?_)));unfold setDrawn;refine Z7 (Z7 (Ł j hd l ?_));unfold ź;refine Z7 (Z7 (ĸ (Zc (Zc ?_))));dsimp only;rw[if_neg (by show ¬((!w.params.followText "set-order" && (!t.plain&&decide (g.size>1)))=true);rw[p];exact Zu)];refine Z7 (Zc ?_);refine Z7 (wpAny_setEpoch_of j hd l ?_);refine Z7 (Ģ (Zc {1,"set_iterator",_,{_,Zr _ rfl,rfl},bW.lookup,r}))
theorem C6{it a:Addr}{f:Value}{i n ep:Nat}{Q:Value->Shared->Prop}(hit:cH s.heap it a f i n ep)(h:Q (.ref it) s):wpAny (model prog w) A (pyIter (.ref it)) Q E s:=by
 have b:s.TypeIs (.ref it) "set_iterator":={_,hit,rfl};refine weB b nR (Č nR b uA ?_ (wI _));show wpAny _ _ (ret (.ref it)) _ _ s;exact Zc {1,"set_iterator",_,b,bW.lookup,h}
theorem AZ{a:Addr}{o:Obj}{g:Array (Int×Value)}{ep:Nat}{t:Ã}{Q:Value->Shared->Prop}(j:s.heap.get? a=ρ o)(hex:o.ExactSet)(hd:o.data=.set g ep t)(l:t.fits g.size=true)(p:g.size<É)
 (r:(!w.params.followText "set-order" && (!t.plain&&decide (g.size>1)))=true)
 (C:∀(ys:List Nat) d,ys.Perm (ZF g.size)->Q (.ref (s.8+1)) {s with drawn:=d,heap:=(s.heap.push {cls:=.type "tuple",data:=.seq (ys.map λi:Nat=>rawInt i).6}).push {cls:=.type "set_iterator",data:=.fields #[.ref s.8,.int 0 0,.ref a,.int g.size 0,.int ep 0]}}):wpAny (model prog w) A (pyIter (.ref a)) Q E s:=by
 have e:s.TypeIs (.ref a) "set":=⟨o,j,hex.1⟩;refine weB e Φ (Č Φ e jv ?_ (wf5 _));unfold È.«frozenset.__iter__»;refine Z7 (m:=wf6 "__iter__" _) (Zc ?_);unfold wf0;refine Z7 (Z7 (Ş j hd l (Zc ?_)));unfold setDrawn;refine Z7 (Z7 (Ł j hd l ?_));unfold ź;refine Z7 (Z7 (ĸ (Zc (Zc ?_))));dsimp only;rw[if_pos (by show (!w.params.followText "set-order" && (!t.plain&&decide (g.size>1)))=true;exact r)];refine Z7 (C5 _ _ _ _ (by simp) λys d b=>?_);have c:ys.9=g.size:=by rw[b.length_eq,ZJ]
 simp only[newTuple];refine Z7 (Ģ ?_ (by show (Ú (λi:Nat=>rawInt i) ys).toArray.size<=_;rw[ZB,Z4,c];exact Χ p));refine Z7 (wpAny_setEpoch_of (Zb _ j) hd l ?_);refine Z7 (Ģ (Zc {1,"set_iterator",_,{_,Zr _ rfl,rfl},bW.lookup,?_}));have:=C ys d b;rw[<-ã]at this;exact this
theorem B1{it a T:Addr}{i n ep:Nat}{c:Int×Value}{p:Nat}{o r:Obj}{ps:Array Value}{m:Nat}{g:Array (Int×Value)}{t:Ã}{Q:Option Value->Shared->Prop}(hit:cH s.heap it a (.ref T) i n ep)
 (C:s.heap.get? a=ρ o) (hd:o.data=.set g ep t) (I:t.fits g.size=true) (hn:g.size=n) (j:s.heap.get? T=ρ r) (l:r.data=.seq ps m) (J:ps[i]?=ρ (.int p 0)) (hc:g[p]?=ρ c)
 (U:∀h',cH h' it a (.ref T) (i+1) n ep->ć it s.heap h'->Q (ρ c.2) {s with heap:=h'}):wpAny (model prog w) A (pyNext (.ref it)) Q E s:=by
 have b:s.TypeIs (.ref it) "set_iterator":={_,hit,rfl};unfold pyNext;refine Z7 (ŉ (wcg (name:=Ĩ "__next__") b bW (Č bW b fX ?_ (gD _))));unfold È.«set_iterator.__next__»;refine Z7 (m:=slotArgs "__next__" 0 _) (Zc ?_);refine Z7 (we5 hit rfl ?_);dsimp only;refine Z7 (Ş C hd I ?_);rw[if_neg (by rw[hn];simp)];refine Z7 ?_;unfold ι;refine Z7 (ż j ?_);rw[l];refine Zc ?_;dsimp only;simp only[Zy];rw[J];dsimp only;unfold setNextDrawn;refine Z7 (Z7 (Ł C hd I ?_));dsimp only;rw[if_neg (by simp)];simp only[Zy];rw[hc];refine Zc ?_;refine Z7 (ŝ hit (show 1<5 by decide) λd e f=>?_);exact Zc {1,Zc (U d e f)}
def TupAt(h:Heap)(T:Addr)(ys:List Nat):Prop:=h.get? T=ρ {cls:=.type "tuple",data:=.seq (ys.map λi:Nat=>rawInt i).6}
theorem qU:∀{j g:List Int},j.Nodup->(∀z∈j,z∈g)->g.9<=j.9->g.Perm j
 |[],g,_,_,hl=>by
  have:g=[]:=ĵ.mp (by simpa using hl);subst this;exact .nil
 |z::j,g,hn,a,hl=>by
  let{d,f}:=Ü.mp hn
  have b:=a z (by simp);refine(List.perm_cons_erase b).trans (.cons z (qU f (λy c=>?_) ?_))
  .have ne:y≠z:=λe=>d (by rw[<-e];exact c);exact(wg2 ne).mpr (a y (by simp[c]))
  .rw[weX b];simp at hl;omega
end
section
variable{X:Cx}
theorem DH{K:Z6}(t:X.K=K)(hc:X.calm=true):cu X (.type "set") (λxs H Q=>∃l g,xs=[.ref l]/\aM K H l (Ú V.int g)/\g.9<=1000/\∀p,H p=τ->Q (.ref p) (upd H p (Ey X.prog X.w p (firstMet (λi=>g.getD i 0) g.9)))):=by
 subst t;intro j s σ H xs C Q I r h
 let{l,g,rfl,n,D,q}:=h
 let{u,rfl,v}:=vals1 r
 cases v
 let{c,m,pl,_}:=I.list n
 have a:=m.9;rw[Z4]at a;refine DG (I.ok.hd hc) pl.isList (ns:=g) (by simpa using rY m) (by simp;unfold É;omega) λx y d kp=>?_;have f:∀b o,s.heap.get? b=ρ o->x.get? b=ρ o:=λb o e=>kp b o (Zg e) e;rw[show c.toArray.size=g.length by simp[a]]at d;refine{.ref s.8,_,I.laid (t':=y) (o:=Ey X.prog X.w s.heap.objs.size (firstMet (λi=>g.getD i 0) g.9)) f (Zf _) {d,?_,?_},rfl,q _ (I.bc.fresh (Zf _))}
 .let{o,_,_,_,e,_}:=d
  exact⟨o,e⟩
 .rintro E G ⟨o,z,A,B,e,rest⟩ k;exact{o,z,A,B,k o e,rest}
end
end _L
namespace _L
open PySem.Spec PyProof.Rows PySem.Calls
section
variable{X:Cx}
theorem DI(hc:X.calm=true):cu X (.builtin "sum") (λxs H Q=>∃v d kvs ns,xs=[.ref v]/\H v=ρ (ni v d)/\H d=ρ (.dK kvs)/\kvs.map (·.2)=Ú V.int ns/\Q (.int ns.sum) H):=by
 intro m s σ H xs U Q I r h
 let{v,d,kvs,ns,rfl,D,hd,hn,q}:=h
 let{u,rfl,E}:=vals1 r
 cases E
 let{Y,lo,c,rel,G}:=sr I.bc hd
 let{ep,f}:=G.dictAt
 let{a,_}:=(show bT X.prog X.w H s.heap v (ni v d) from I.bc v _ D)
 have J:=I.ok.hd hc
 have g:c.9=ns.9:=by
  have:=congrArg ð hn;rw[Z4,Z4]at this;rw[<-rel.9];exact this
 have L:∀{kvs:List (Key×V)} {c:List (Key×Value)} {ns:List Int},KV kvs c->kvs.map (·.2)=ns.map V.int->∀(i:Nat) (k:Key) (x:Value),c[i]?=ρ (k,x)->∃t,x=.int (ns.getD i 0) t:=by
  intro kvs c ns r
  induction r generalizing ns with
  |nil=>intro _ i k x e;simp at e
  |@cons p q ps Z h t M=>
   intro e i k x j
   cases ns with
   |nil=>cases e
   |cons n ns=>
    rw[Zw,Zw]at e;injection e with N O
    cases i with
    |zero=>
     simp at j;have y:=h.2;rw[N,j]at y;exact y
    |succ i=>exact M O i k x (by simpa using j)
 have z:=wgz (prog:=X.prog) (w:=X.w) (r:=v) (d:=d) (knd:=bG X.prog X.w) (kvs:=c) (ep:=ep);refine call_sum_walkAnyS ?_
 let{R,St,hit,S,st}:=z.iter X.A.in1 s J ⟨a,f⟩
 refine hit _ _ {s.8,_,_,_,c.9,_,_,λi=>ns.getD i 0,rfl,S.toS,st,λb l=>?_,λi x ⟨k,e⟩=>L rel hn i k x e,λB t' C=>?_}
 .show b<(s.heap.push R).objs.size;rw[ω];rcases ZD.mp l with e |l
  .rw[e];exact Ď _
  .rw[Zz.mp l];exact Ă (z.there _ ⟨a,f⟩).2
 .have hk:∀b o,s.heap.get? b=ρ o->B.heap.get? b=ρ o:=λb o e=>
   C.heap b o (λT=>absurd (Zg e) (by rw[Zz.mp T];exact Ø _)) (Zb _ e)
  rw[whz C];refine{.int ns.sum,H,I.kept (t':=B.toks) hk,{t',?_},q};rw[g,qk]
theorem DJ(l:Addr)(items:Array Value)(n:Nat)(j:Option Addr)(sl:Array (Option Value))(t:Tok) :
 Meets (È.«enumerate.__new__» {[.type "enumerate",.ref l],JN t}) (λ_ R s=>s.heap.get? l=ρ {cls:=.type "list",dict:=j,data:=.seq items n,slots:=sl} /\
  R (.ok (.ret (.ref (s.8+1)))) {s with heap:=(s.heap.push {cls:=.type "list_iterator",data:=.fields #[.ref l,.int 0 0]}).push {cls:=.type "enumerate",data:=.fields #[.none,.bool false,.ref s.8,rawInt 1,.none,.none]}}):=
 .of_wp λprog w A R s h=>by
  let{a,g,d,i,os}:=s
  let{hl,h}:=h
  have b:(a.push {cls:=.type "list_iterator",data:=.fields #[.ref l,.int 0 0]}).7=a.7+1:=ã ..;have e:=sub_enumerate;have f:Heap.IsList (Shared.heap ⟨a,g,d,i,os⟩) l items:={_,hl,rfl,n,rfl}
  wp_walk using wfm hl
  refine wpAny_stack_any λst=>Zc ?_;split
  .rename_i c _ _ _ _ _;cases(c==ï "enumerate")<;>(wp_walk using wfm hl,ļ f;exact{1,by rw[b];exact h})
  .wp_walk using wfm hl,ļ f
   exact{1,by rw[b];exact h}
theorem B5{P:ZC}{w:World}{K:Z6}{r:List Expr}{k:Nat}{pos:Pos}(a e it:Addr)(g:e≠it)(J:a≠it):Turn P w K (.Tuple r k pos) (G7 K a) [e,it] e (λi h=>(∃old,IsEnum h e it ((i+1:Nat):Int) old)/\h.IsListIter it a i) where
 mem:=by simp
 obj:=λi h st b n=>by
  let{{old,c},o,l,hc,hd}:=st
  rcases ZD.mp n with z |n
  .exact{_,z ▸ c,λv q=>by
    have q':wh2 _=whw v:=q
    cases q'}
  .exact{o,Zz.mp n ▸ l,λv q=>by rw[hd]at q;cases q}
 keep:=λi h V st k=>{st.1.imp λold c=>k e (by simp) _ c,st.2.at λo q=>k it (by simp) o q}
 item:=by
  intro X G hw L hc i t s σ H E I M st N;subst G hw L
  let{xs,x,D,O}:=N
  let{d,Q,p,hz}:=I.list D
  let{u,Y,ru}:=Q.get O
  let{{old,c},hit}:=st
  have R:e≠a:=λz=>by
   let{o,l,S,_}:=p.isList
   have f:=c;rw[z]at f;rw[f]at l;cases l;have q:ï "enumerate"=.type "list":=S;injection q with q
   exact absurd q ⋯
  have Yz:i<d.9:=(Za.mp Y).1;refine wpAny_pyNext_enum_itemD (i:=i+1) (Av (Draws.list (A:=X.A.in1) (I.ok.hd hc) it a J d.6)) c ⟨i,rfl,hit,p.isList⟩ (by rw[ZB];lia) g (by simp[g,R]) λy V tk m l T hT hsz hk=>?_
  let{Z,e1,m}:=m
  let{i2,e2,B,Wb}:=T
  have e1:Z=i:=();have e2:i2=i+1:=();subst e1 e2
  have ey:y=u:=by
   rw[wcD,Y]at m;exact(Zi m).symm
  subst ey;refine{1,wem l λVj f j=>?_}
  let{_,U,_}:=id hit
  have C:e<s.8:=Zg c
  let{fr,I1,hn}:=xZ (y:=.int ((Z+1:Nat):Int)) (tk+1) I M (λb o h q=>(j.2 b (Cg h).1).trans (hk b o (Cg h).1 (Cg h).2 q)) ((j.2 _ (ö C)).trans hT) {_,rfl} ru (MG C (Zg U))
  exact{.ref s.8,_,I1,rfl,{s.8,x,fr,rfl,rfl,λys m=>by rw[I.sv m D];exact O},{{y,by simpa using f},B.at λo q=>(j.2 it (Á g)).trans q},hn}
 done:=by
   intro X G hw L hc i t s σ H E I M st N;subst G hw L
   let{xs,D,O}:=N
   let{d,Q,p,hz}:=I.list D
   have hl:=Q.9
   let{{old,c},hit}:=st
   let{g0,g1,g2,g3,g4,g5}:=M it (by simp)
   exact wpAny_pyNext_enum_endD (Dk (A:=X.A.in1) (I.ok.hd hc) it a d.toArray i (Ķ (by simp;lia))) c ⟨rfl,hit,p.isList⟩ λV eb=>{rfl,I.turned (t':=s.toks) (λb o n e=>eb b o n e) g0 g1 g3 g4 g5}
 self:=λ_ _ _ _ _ st h=>let ⟨⟨_,c⟩,_⟩:=st;Ψ c h
end
section
variable{prog:ZC}{w:World}{A:Around}{E:Value->Shared->Prop}{s:Shared}{X:Cx}
theorem B6{Q:Value->Shared->Prop}(C:s.heap.IsList l items)
 (h:∀h',IsEnum h' (s.8+1) s.heap.objs.size 1 .none->h'.IsListIter s.heap.objs.size l 0->(∀b o,s.heap.get? b=ρ o->h'.get? b=ρ o)->Q (.ref (s.8+1)) {s with heap:=h'}) :
 wpAny (model prog w) A (call (.type "enumerate") [.ref l] (JN t)) Q E s:=by
 let{{c,f,x,sl},hl,hc,n,hd}:=C
 have y:c=.type "list":=hc;have z:x=.seq items n:=hd;subst y z;have B:(s.heap.push {cls:=.type "list_iterator",data:=.fields #[.ref l,.int 0 0]}).7=s.8+1:=ã ..;have a:=wec
 let{c,J,k}:=a.mro
 have g:=a.made;have m:=a.sub;have L:=a.notType;have M:=a.canCreate;have D:=G5 l t;refine â (μ (show wpAny _ _ (callAny (.type "enumerate") _) _ _ _ from Zc {Ų _ ∅,ä wdB ?_}));rw[we9 (wdC "enumerate" [.ref l] (JN t)) (units_type_call_type "enumerate" [.ref l] (JN t))]
 repeat (any_goals (first |assumption |wp_step))
 have p:((s.heap.push {cls:=.type "list_iterator",data:=.fields #[.ref l,.int 0 0]}).push {cls:=.type "enumerate",data:=.fields #[.none,.bool false,.ref s.8,rawInt 1,.none,.none]}).get? (s.8+1)=ρ {cls:=.type "enumerate",data:=.fields #[.none,.bool false,.ref s.8,rawInt 1,.none,.none]}:=by
  rw[<-B];exact Zr _ rfl
 refine Þ (ĩ a.plain F.entry_enumerate_new (Ż (G6 l t) ((DJ l items n f sl t) prog w A.in1 (wants (λv i=>v=.ref (s.8+1)/\i={s with heap:=(s.heap.push {cls:=.type "list_iterator",data:=.fields #[.ref l,.int 0 0]}).push {cls:=.type "enumerate",data:=.fields #[.none,.bool false,.ref s.8,rawInt 1,.none,.none]}}) E) s ⟨hl,rfl,rfl⟩))) λr q j=>?_
 cases r with
 |error e=>exact j
 |ok fl=>
  cases fl with
  |ret obj=>
   let{rfl,rfl}:=j
   have u:wgb {s with heap:=(s.heap.push {cls:=.type "list_iterator",data:=.fields #[.ref l,.int 0 0]}).push {cls:=.type "enumerate",data:=.fields #[.none,.bool false,.ref s.8,rawInt 1,.none,.none]}} (.ref (s.8+1)) "enumerate":={_,p,rfl};have G:=a.init.lookup;have H:=a.init.bind (.ref (s.8+1));have N:=h _ p {_,Zb _ (Zr _ rfl),rfl,rfl} λb o e=>Zb _ (Zb _ e)
   repeat (any_goals (first |assumption |wp_step))
   refine Þ (ĩ a.init.plain F.entry_object_init (a.init.check _ _ _ _ _ _ _ _ u (As _ l t) ((Au (s.8+1) l t) prog w A.in1 (wants (λv i=>v=.none/\i={s with heap:=(s.heap.push {cls:=.type "list_iterator",data:=.fields #[.ref l,.int 0 0]}).push {cls:=.type "enumerate",data:=.fields #[.none,.bool false,.ref s.8,rawInt 1,.none,.none]}}) E) _ ⟨u,rfl,rfl⟩))) λI O d=>?_
   cases I with
   |error e=>exact d
   |ok M6=>
    cases M6 with
    |ret r=>
     let{rfl,rfl}:=d
     repeat (any_goals (first |assumption |wp_step))
    |_=>exact d.elim
  |_=>exact j.elim
theorem Gz{g:List Expr}{k j:Nat}{o:Pos}{l:Expr}{C:TA}{p J kp pos:Pos}(T:Gl X "enumerate")(U:X.mg "enumerate"=τ)(ha:PA X [l] C)(hs:starEach [l] X.5=[(false,eval l X.5)]:=by rfl) :
 PI X (.Tuple g k o) (.Call (.Name "enumerate" p) [l] [{ρ "start",.Constant (.int 1) j J,kp}] pos) (Lf X.K C):=by
 refine{?_};intro c s σ H R I h;refine ę (j4 I T U js ?_ ⋯ ⋯);refine xk (by rw[hs];rfl) rfl ?_
 have w:backTo pos (starEach [l] X.5)=(false,(backTo pos (starEach [l] X.5)).head (by rw[hs];exact λz=>nomatch z) |>.2)::[]:=by
  simp only[hs];rfl
 rw[w];refine evalArgs_kwB rfl ?_;rw[<-w];refine cj (ha pos c s σ H _ I h) λus E ⟨vs,A,G,L,M⟩=>?_;refine wfR (cj (ae (X:=X) (i:=1) c E σ A (λx m=>x=.int 1/\m=A) G ⟨rfl,rfl⟩) λv d ⟨y,m,n,N,O,Q⟩=>wg5 ?_);subst O Q
 let{t,rfl}:=N
 let{a,xs,e,S,q}:=M
 subst e
 let{u,rfl,V}:=vals1 L
 cases V
 let{Y,rv,pl,hz}:=n.list S
 refine B6 pl.isList λZ B hit kp=>Ψ B ?_;have I3:Inv X c σ m {d with heap:=Z}:=n.kept (t':=d.toks) kp;have r:a<d.8:=let ⟨_,ho,_⟩:=pl.isList;Zg ho
 refine{d.8+1,[d.8+1,d.8],_,_,m,rfl,I3,B5 a _ _ (ö (Ď _)) (Zt r),{{_,B},hit},λb D=>?_,q}
 have f:d.8<=b:=by
  rcases ZD.mp D with rfl |D
  .grind
  .grind
 exact n.Cr f (n.bc.fresh f)
end
section
variable{prog:ZC}{w:World}{A:Around}{E:Value->Shared->Prop}{s:Shared}{l:Addr}{vs:List Value}{Q:Value->Shared->Prop}
theorem Jg(kf:Nat->Int)(hh:A.handled=τ)(hl:s.heap.IsList l vs.6)(ya:0<vs.9)
 (turn:∀(i:Nat) (v:Value),vs[i]?=ρ v->∃p items,v=.ref p/\s.heap.IsList p items/\(items.size:Int)=kf i/\(items.size:Int)<2^63)
 (hQ:∀(v:Value) (h':Heap) (Aw:Nat),v∈vs->(∀b o,s.heap.get? b=ρ o->h'.get? b=ρ o)->Q v {s with heap:=h',toks:=Aw}) :
 wpAny (model prog w) A (call (.builtin "min") [.ref l] [(Ĩ "key",.builtin "len")]) Q E s:=by
 have yF:(toString "min"++toString ".loop":String)="min.loop":=⋯;have uF:l<s.8:=let ⟨o,ho,_⟩:=hl;Zg ho
 refine kmk_tree PySem.F.kind_min PySem.F.plain_min PySem.F.entry_min (kmk_min_key _ _) ?_;show wpAny _ A.in1 (weh "min" ["key","default"] 0 {[],[(Ĩ "key",.builtin "len")]} >>= _) _ _ s;refine Z7 (Ż (show weh "min" ["key","default"] 0 {[],[(Ĩ "key",.builtin "len")]}=pure [ρ (.builtin "len"),τ] from rfl) ?_);refine Z7 (Zc ?_);refine Z7 (ļ hl ?_);refine Z7 (Ξ ?_ (ZE _));rw[yF];have hS:(s.heap.push {cls:=.type "list_iterator",data:=.fields #[.ref l,.int 0 0]}).7=s.8+1:=ω ..;have Qz:l≠s.8:=Zt uF;have Lg:(s.heap.push {cls:=.type "list_iterator",data:=.fields #[.ref l,.int 0 0]}).objs.size≠s.8:=by rw[hS];exact ö (Ď _)
 refine Zc {ĉ Ņ _,?_}
 have gI:((s.heap.push {cls:=.type "list_iterator",data:=.fields #[.ref l,.int 0 0]}).push (seqObj "list" #[] 0)).get? s.8=ρ {cls:=.type "list_iterator",data:=.fields #[.ref l,.int 0 0]}:=
  Zb _ (Zr _ rfl)
 have gS:((s.heap.push {cls:=.type "list_iterator",data:=.fields #[.ref l,.int 0 0]}).push (seqObj "list" #[] 0)).get? (s.heap.push {cls:=.type "list_iterator",data:=.fields #[.ref l,.int 0 0]}).7=ρ (seqObj "list" #[] 0):=Zr _ rfl;have JQ:∀b o,s.heap.get? b=ρ o->((s.heap.push {cls:=.type "list_iterator",data:=.fields #[.ref l,.int 0 0]}).push (seqObj "list" #[] 0)).get? b=ρ o:=λb o e=>Zb _ (Zb _ e)
 have old:∀{b:Addr} {o:Obj},s.heap.get? b=ρ o->b≠s.8+1/\b≠s.8:=λ{b o} e=>by
  have hb:b<s.8:=Zg e;exact{Zt (Ă hb),Zt hb}
 have W:=Ŭ (prog:=prog) (w:=w) (A:=A.in1) hh s.heap.objs.size l Qz vs.6;have hsz:vs.toArray.size=vs.9:=ZB ..;refine ä wdo ?_;rw[ą Ņ _];show wpAny _ A.in1 (ι (.ref _) >>= _) _ _ _;refine Z7 (wfN gS rfl ?_);show wpAny _ A.in1 (tryCatch (pyNext (.ref s.8)) _ >>= _) _ _ _;refine Z7 (Ţ (W.item 0 _ _ _ (by rw[hsz];exact ya) {{_,gI,rfl,rfl},gf hl JQ} λv h' Aw hP IY Hg=>?_));have hv:vs[0]?=ρ v:=by simpa using hP
 have vZ:∀b o,s.heap.get? b=ρ o->h'.get? b=ρ o:=λb o e=>Hg b o (by simpa using(old e).2) (JQ b o e);have M7:=Hg _ _ (by simpa using Lg) gS
 let{p,items,rfl,hp,QB,Ax}:=turn 0 v hv
 show wpAny _ A.in1 (tryCatch (holding [Zo p] (call (.builtin "len") [.ref p])) _ >>= _) _ _ _;refine Z7 (Ţ (ZX (wdX (gf hp vZ) Ax ?_)));rw[QB];have s1:=ŭ h' (s.heap.push {cls:=.type "list_iterator",data:=.fields #[.ref l,.int 0 0]}).objs.size (ê λ_=>#[Zo p,.int (kf 0) (Aw+1)]);obtain⟨c2,NF⟩:∃c2,(h'.update (s.heap.push {cls:=.type "list_iterator",data:=.fields #[.ref l,.int 0 0]}).objs.size (ê λ_=>#[Zo p,.int (kf 0) (Aw+1)])).get? (s.heap.push {cls:=.type "list_iterator",data:=.fields #[.ref l,.int 0 0]}).7=ρ (seqObj "list" #[Zo p,.int (kf 0) (Aw+1)] c2):={_,get?_update_seq M7 λ_=>#[Zo p,.int (kf 0) (Aw+1)]};show wpAny _ A.in1 (wgG (s.heap.push {cls:=.type "list_iterator",data:=.fields #[.ref l,.int 0 0]}).objs.size (λ_=>#[Zo p,.int (kf 0) (Aw+1)]) >>= _) _ _ _;refine Z7 ?_;refine Ÿ M7 rfl ?_;rw[yF]
 let{QC,Lh,QD}:=id IY.1
 refine Zc {ĉ Ņ _,xm kf hh hl rfl Lg (by rw[hS];exact í _) turn hQ _ 0 0 _ _ _ _ c2 rfl ya (λb o e=>(s1.2 b (by rw[hS];exact(old e).1)).trans (vZ b o e)) NF {QC,(s1.2 _ Lg.symm).trans Lh,QD} hv}
end
section
variable{X:Cx}{e:Expr}{t:TA}{p p2 kp pos:Pos}
theorem Jh(hc:X.calm=true)(C:Gl X "min")(J:X.mg "min"=τ)(l:Gl X "len")(o:X.mg "len"=τ)(ha:PA X [e] t)(hs:starEach [e] X.5=[(false,eval e X.5)]:=by rfl):PE X (.Call (.Name "min" p) [e] [{ρ "key",.Name "len" p2,kp}] pos) (ND X.K t):=by
 refine{?_};intro f s σ H Q I h;refine ę (j4 I C J (show ZW "min"=ρ (.builtin "min") from _S.CH) ?_ ⋯ ⋯);refine PyProof.Rows.callWith_kw (cj (ha pos f s σ H _ I h) λR A ⟨S,B,g,D,E⟩=>?_) (by rw[hs];rfl) (by rw[hs];rfl);refine wfR (j4 g l o (show ZW "len"=ρ (.builtin "len") from Ī) (wg5 ?_) ⋯ ⋯)
 let{a,ps,rfl,G,m,n,q}:=E
 let{u,rfl,L}:=vals1 D
 cases L
 let{b,k,pl,y}:=g.list G
 have hl:b.9=ps.9:=by have:=k.9;rw[Z4]at this;exact this.symm
 have j:∀{ps:List Addr} {b:List Value},Vals (ps.map V.ref) b->b=ps.map Zo:=by
  intro ps
  induction ps with
  |nil=>intro b r;cases r;rfl
  |cons x ps M=>
   intro b r
   cases r with
   |cons h t=>rw[M t];cases h;rfl
 have e:=j k;subst e
 have sz:∀q∈ps,∃b:List Value,A.heap.IsList q b.6/\b.9<=sizeLine:=λq c=>by
  let{T,N}:=n q c
  let{b,k,pl,y}:=g.list N
  exact{b,pl.isList,by rw[<-k.9];exact y}
 have hn:=mE;refine Jg (kf:=λi=>match ps[i]? with |some q=>if c:q∈ps then((whe (sz q c)).9:Int) else 0 |none=>0) (g.ok.hd hc) pl.isList (by rw[Z4];cases ps with |nil=>exact absurd rfl m |cons _ _=>exact Nat.succ_pos _) (λi v d=>?_) λv U w d hk=>?_
 .rw[Z9]at d
  cases e:ps[i]? with
  |none=>rw[e]at d;cases d
  |some q=>
   rw[e]at d;cases d;have c:q∈ps:=Zv e
   let{O,Y}:=Classical.choose_spec (sz q c)
   refine{q,1,O,?_,?_}
   .show _=if c:q∈ps then _ else _
    rw[dif_pos c,ZB]
   .rw[ZB]
    lia
 .let{z,c,rfl}:=Ze.mp d
  exact{.ref z,B,g.kept (t':=w) hk,rfl,q z c}
end
end _L
namespace _B
theorem c9.same(h:c9 K C H x hs ws lns)(s:a8 H g):c9 K C g x hs ws lns:=by
 let{d,a,b,c,e,f,i,j}:=h
 exact{d,a,b,c,s _ _ e,bh.same s _ _ f,bh.same s _ _ i,bh.same s _ _ j}
structure Reach(lns:List (List (Str×Nat)))(rs:List Nat):Prop where
 cl:∀d∈rs,∀q∈lns.getD d [],q.2∈rs
 lt:∀d∈rs,d<lns.9
 ne:rs≠[]
 nd:rs.Nodup
theorem DK{g:Str}{ws ss ls:List Str}{n:Nat}{many:Int}{f:Str->Int}{j:List Nat}(hn:∀p∈ls,0<=f p)(o:DX g ws ss ls many n f)(R:Reach (bt g ws ss ls n (aj ls f)) j) :
 DX g ws ss ls many n (cO (j.map λd=>(aj ls f).getD d "") f):=by
 intro p m
 by_cases h:p∈j.map λd=>(aj ls f).getD d ""
 .let{d,hd,rfl}:=Ze.mp h
  have b:=R.lt d hd;have c:d<(aj ls f).9:=by unfold bt at b;rwa[Z4]at b
  have k:(bt g ws ss ls n (aj ls f)).getD d []=eE g ws ss ls n (aj ls f) ((aj ls f).getD d ""):=by
   unfold bt;rw[Z8,Z9,Z5 c,Z8,Z5 c];rfl
  have e:gB g ws ss ls n (cO (j.map λd=>(aj ls f).getD d "") f) ((aj ls f).getD d "")=gB g ws ss ls n f ((aj ls f).getD d ""):=by
   delta gB;refine congrArg List.sum (ú λq i=>?_);delta cO
   by_cases a:q.2∈j.map λd=>(aj ls f).getD d ""
   .rw[if_pos a]
   .rw[if_neg a]
    by_cases r:0<f q.2
    .exfalso;have l:q.2∈aj ls f:=ZG.mpr {cf i,decide_eq_true r}
     have s:(q.1,(aj ls f).idxOf q.2)∈(bt g ws ss ls n (aj ls f)).getD d []:=by
      rw[k];delta eE;exact Ze.mpr {q,ZG.mpr {i,decide_eq_true l},rfl}
     have:=R.cl d hd _ s;refine a (Ze.mpr {_,this,?_});show (aj ls f).getD ((aj ls f).idxOf q.2) ""=q.2;rw[Z8,(iO l).1];rfl
    .have:=hn _ (cf i)
     lia
  rw[e];delta cO;rw[if_pos h];exact o _ m
 .have e:cO (j.map λd=>(aj ls f).getD d "") f p=0:=by delta cO;rw[if_neg h]
  rw[e,Int.mul_zero];delta gB;exact sL λq i=>tf hn _ (cf i)
theorem pO.same(h:pO K C j H x m g l hs ws lns)(s:a8 H o):pO K C j o x m g l hs ws lns:=by
 let{e,a,b,c,d,f,i,k,n,p}:=h
 exact{e,a,b,c,d,s _ _ f,s _ _ i,bh.same s _ _ k,bh.same s _ _ n,p.same s}
structure GA(g:Str)(bw ss ls:List Str)(many:Int)(n:Nat)(f:Str->Int)(rJ:List zV)(ks:List Nat)(hs:List Str)(ws:List Int)(lns:List (List (Str×Nat))):Prop where
 nn:∀p∈ls,0<=f p
 le:∀p∈ls,f p<=8
 fit:DX g bw ss ls many n f
 ps:0<(ls.map f).sum
 m:(ls.map f).sum<=40
 rn:Runs many (aj ls f) ((aj ls f).map f) (bt g bw ss ls n (aj ls f)) rJ hs ws lns
 b:ia many hs ws lns
 cv:Hc (aS g bw ss ls n) hs lns
 ln:hs.9<=40
 ko:mV lns many ks
 ne:ks≠[]
 sl:rJ.9<=40
 sb:∀p∈hs,p∈ls
theorem cA.same(h:cA H j g)(s:a8 H l):cA l j g:={h.1,λi r c a b=>s _ _ (h.2 i r c a b)}
end _B
namespace K34
section
variable{P:ZC}{w:World}{K:Z6}{mg:Str->Option Value}{base:Heap}
theorem fV(L:Lk K mg):aW P w K mg base cY 4 L.gw L.jH ["self","signs","barred"] (L7 K L.aN):=by
 have T:=L.T;refine L.f5.F.dP (N:=["self","signs","barred","places","place"]) (λfI A outer s H vs Q E nd hr h=>?_)
 let{x,t,g,a,ws,rfl,hx,hS,sg,hl,hw,k}:=h
 have Z:∀w∈ws,w.9<=5:=λw h=>(hw w h).hi;have hu:=eP hr
 refine{_,(a6 (aT (bj (aP (ag (xx L) L.qP (aC (1))))) gK aB)
  (a6 (bH (ag (rg L) L.kX (a5 (2) (aC (1)))))
  (a6 (gQ (0) (1) rfl)
  (a6 (gQ (0) (bC dg (by rfl) T.list eV (aC (2))) rfl)
  (a6 (gQ (0) dZ rfl)
  (a6 (ai (i:=3) (ag (pV L) L.jK (aC (2))))
  (a6 (forA (aG (3)) (az (i:=4)) (a9 (eJ hu (aZ (0) rfl) (4) (ag (uG L) L.oR (a5 (4) (a5 (1) (a5 (2) (aC (3)))))) rfl)))
  (a9 (gQ (0) (ag (uI L) L.oU (aC (aZ (0) rfl))) rfl))))))))),?_}
 ac_rfl
 refine{1,g,rfl,sg,λH1 s1=>{true,rfl,aU ?_}};refine{2,a,g,ws,rfl,s1.seq hS,hl,hw,λH2 s2=>?_};have D:a8 H H2:=s1.trans s2;have Wc:=D _ _ hx;refine{2,x,L.aN,t,1,Wc,L.aV.cl,L.aV.rL,⋯,?_};rw[KG];have NP:∀(o:HO) b ob,H b=ρ ob->b≠x->(upd H2 x o) b=ρ ob:=λo b ob e hb=>by rw[af hb];exact D _ _ e
 have G:∀{H':Hp} (h:∀b o,H b=ρ o->b≠x->H' b=ρ o),aM K H' a (ws.map V.str):=λ{H'} h=>by
  have T9:∀o,H a=ρ o->(∀fs,o≠.ins L.aN t fs)->a≠x:=λo e ne z=>by
   subst z;rw[hx]at e;exact ne [] (Zi e).symm
  rcases hS with(e |⟨o,e⟩) |e
  .exact .inl (.inl (h _ _ e (T9 _ e (λ_ z=>by cases z))))
  .exact .inl (.inr {o,h _ _ e (T9 _ e (λ_ z=>by cases z))})
  .exact .inr e
 refine{1,a,1,.inl (G (NP _)),λb hb=>?_};have v:x≠b:=aa a7 hb;have QN:H2 b=τ:=by rw[af v.symm]at hb;exact hb
 refine{1,x,L.aN,t,Oy g,rfl,by rw[af v,a7],L.aV.cl,L.aV.FA,(show 1<1000 by decide),?_};rw[put2];intro d hd;have r:x≠d:=aa a7 hd
 have LA:b≠d:=by
  intro z;subst z;rw[af v.symm,a7]at hd;cases hd
 have I:H2 d=τ:=by rw[af r.symm,af LA.symm,af r.symm]at hd;exact hd
 refine{1,x,L.aN,t,M6 g b,rfl,by rw[af r,a7],L.aV.cl,L.aV.lJ,(show 2<1000 by decide),?_};rw[put3];generalize J:upd (upd (upd (upd (upd H2 x (.ins L.aN t (Oy g))) b (.lst (ws.map V.str))) x (.ins L.aN t (M6 g b))) d (.dK [])) x (.ins L.aN t (KD g b d))=H3;have x3:H3 x=ρ (.ins L.aN t (KD g b d)):=by rw[<-J,a7]
 have d3:H3 d=ρ (.dK []):=by rw[<-J,af r.symm,a7]
 have b3:H3 b=ρ (.lst (ws.map V.str)):=by rw[<-J,af v.symm,af LA,af v.symm,a7]
 have k3:∀c o,H c=ρ o->c≠x->H3 c=ρ o:=λc o e hc=>by
  have e2:=D _ _ e;rw[<-J,af hc,af (aa e2 I),af hc,af (aa e2 QN),af hc];exact e2
 clear J;refine{1,a,ws,rfl,G k3,hl,Z,λl ss H4 s4 R h4 hp Wd=>?_};have QO:ss.Nodup:=hp.nodup_iff.mpr (qh ws);have B7:ss.9<=25:=by have:=lI (ws:=ws) (e:="") (us:=ws) Z;rw[hp.length_eq];lia
 have NQ:∀p∈ss,p.9<=5:=λp xC=>D9 Z p (hp.mem_iff.mp xC);have QP:("":Str)∈ss:=hp.mem_iff.mpr (d8 ws);have OD:l≠d:=λz=>by rw[z,d3]at R;cases R
 have YB:l≠x:=λz=>by rw[z,x3]at R;cases R
 refine{1,l,rfl,{_,aM.of h4},cn (K:=K) (a:=l) (xs:=ss.map V.str) (λi σ S=>∃v4 B,σ=[ρ (.ref x),ρ (.str g),ρ (.ref a),ρ (.ref l),v4]/\S d=ρ (.dK (bM B))/\B.map (·.1)=ss.take i/\(∀m∈B,S m.2=ρ (.dK (rowOf g ws ss m.1)))/\(∀m∈B,H4 m.2=τ)/\(∀c o,H4 c=ρ o->c≠d->S c=ρ o))
  {τ,[],rfl,s4 _ _ d3,rfl,λm u=>(nomatch u),λm u=>(nomatch u),λc o e _=>e} (λi σ S _ {_,_,_,_,_,_,_,M}=>aM.of (M _ _ h4 OD)) ?_ ?_}
 .rintro i y σ S hy ⟨v4,B,rfl,C,n,f,MP,M⟩
  obtain⟨p,U,rfl⟩:∃p,ss[i]?=ρ p/\y=.str p:=by
   rw[Z9]at hy
   cases e:ss[i]? with
   |none=>rw[e]at hy;cases hy
   |some z=>rw[e]at hy;exact{z,rfl,(Zi hy).symm}
  have hi:i<ss.9:=(Za.mp U).1;have xC:p∈ss:=Zv U
  have k5:∀c o,H c=ρ o->c≠x->S c=ρ o:=λc o e hc=>M _ _ (s4 _ _ (k3 c o e hc)) (λz=>by
   subst z;have:=D _ _ e
   rw[I]at this;cases this)
  have x5:S x=ρ (.ins L.aN t (KD g b d)):=M _ _ (s4 _ _ x3) r;refine{4,p,g,a,l,ws,ss,rfl,G k5,aM.of (M _ _ h4 OD),QP,by have:=NQ p xC;lia,by have:=sg.hi;lia,sg.nd,(),λe H6 O X h6=>?_};have d6:=O _ _ C
  have B9:p∉B.map (·.1):=by
   rw[n];intro u
   let{j,hj,ej}:=wdS.mp u
   rw[Μ]at ej;rw[Zq]at hj;have e1:ss[i]=p:=(Za.mp U).2;have:=(ň QO).mp (ej.trans e1.symm)
   lia
  have Y:B.9<=25:=by have:=congrArg ð n;rw[Z4,Zq]at this;lia
  refine{1,x,L.aN,t,_,1,O _ _ x5,L.aV.cl,L.aV.lJ,kj g b d,1,d,1,jT.k (k:=ZA p) d6 (by unfold bM;rw[Z4];exact bN ()),?_};have Mb:e≠d:=λz=>by rw[z,C]at X;cases X
  have e4:H4 e=τ:=by
   cases q:H4 e with
   |none=>rfl
   |some o=>
    have:=M _ _ q Mb;rw[this]at X;cases X
  refine{_,B++[(p,e)],rfl,?_,?_,?_,?_,?_}
  .rw[a7,eU _ (j8 B9)];unfold bM;rw[Zk];rfl
  .rw[Zk,n];have:ss.take (i+1)=ss.take i++[p]:=by rw[Ô,U];rfl
   rw[this];rfl
  .intro m u;rcases ZH.mp u with z |z
   .have nm:m.2≠d:=λq=>by
     have:=f m z;rw[q,C]at this;have:=MP m z;rw[q]at this;rw[s4 _ _ d3]at this;cases this
    rw[af nm];exact O _ _ (f m z)
   .have:m=(p,e):=by simpa using z
    subst this;rw[af Mb];exact h6
  .intro m u;rcases ZH.mp u with z |z
   .exact MP m z
   .have:m=(p,e):=by simpa using z
    subst this;exact e4
  .intro c o hc Ta;rw[af Ta];exact O _ _ (M c o hc Ta)
 .rintro σ S ⟨v4,B,rfl,C,n,f,MP,M⟩;rw[Z4,ZI]at n;have x5:S x=ρ (.ins L.aN t (KD g b d)):=M _ _ (s4 _ _ x3) r;have Y:B.9<=1000:=by have:=congrArg ð n;rw[Z4]at this;lia
  refine{1,x,L.aN,t,_,1,x5,L.aV.cl,L.aV.lJ,kj g b d,d,B,rowOf g ws ss,rfl,C,Y,f,λkx=>Aa g ws ss kx,λkx=>by rw[CW];have:=sg.hi;lia,λq ls H6 O hq h6 lv=>?_};refine{1,x,L.aN,t,1,O _ _ x5,L.aV.cl,L.aV.pN,(show 3<1000 by decide),?_};rw[Fg];have We:q≠x:=λz=>by rw[z,x5]at hq;cases hq
  have SZ:∀m∈B,m.2≠x:=λm u z=>by
   have:=f m u;rw[z,x5]at this;cases this
  refine k ss ls _ {{t,b,d,q,B,a7,?_,?_,n,λm u=>?_,?_},hp,Wd,by rw[n]at lv;exact lv} λc o e hc=>?_
  .rw[af v.symm];exact O _ _ (M _ _ (s4 _ _ b3) LA)
  .rw[af r.symm];exact O _ _ C
  .rw[af (SZ m u)];exact O _ _ (f m u)
  .rw[af We];exact h6
  .rw[af hc]
   exact O _ _ (M _ _ (s4 _ _ (k3 c o e hc)) (λz=>by
    subst z;have:=D _ _ e
    rw[I]at this;cases this))
theorem xD(L:Lk K mg):aW P w K mg base cY 3 L.qp L.qE ["band","place"] (Af L.aN):=by
 refine L.qM.F.dP (N:=["band","place","ends"]) (λI A outer s H X Q E nd Y h=>?_)
 let{x,p,g,u,ss,ls,rfl,B,J,M,k}:=h
 refine{_,(a6 (cN (i:=2) rfl (aq ["band","place"] [0,1]) nd rfl rfl (wR (aZ (0) rfl)) (λ_ _ _ _ _ _=>b8) (λ_ _ _ _ _ _=>(NK (1) L.aV.cl L.mZ (qR L) (a5 (2) (aC (0))))))
  (a9 (ao (bR rfl (aq [] []) (aG (2)) (λ_ _ _ _ _ _=>dh (ck nu (0) iq)) (λ_ _ _ _ _ _=>(0)))))),?_}
 ac_rfl
 let{{O,b,d,q,Z,R,h2,h3,h4,h5,h6},pm,_,_}:=id B
 refine{1,x,L.aN,O,_,1,R,L.aV.cl,L.aV.rL,mR g b d q,g,rfl,λl hl=>?_};refine comp_map (SX u ss p) (nk g) hl (by rw[Ae];exact av ()) (λ_ _=>trivial) (λz C D S n e=>?_) (λC n a=>?_)
 .let{c,hc,rfl}:=Ze.mp S
  have G:=B.same n
  let{{o,_,_,_,_,r,_},_}:=id G
  exact{1,x,o,1,r,Hd _ _ _ _ ∅ ∅ ∅ ∅,2,x,p,c,g,u,ss,ls,rfl,G,J,hc,e C (a8.refl _)}
 .rw[CY]at a;refine{1,l,rfl,{_,aM.of a},λT f=>?_};refine cV zp (λv=>v) (aJ K l _) f (by rw[Z4,b7];exact av ()) (λH' U=>aM.of (U _ _ a)) (λy j D V t e=>{1,rfl,1,e j (a8.refl _)}) (λy j D V _ t e=>{1,e j (a8.refl _)}) (λj t m=>?_);rw[Ń,yn]at m;exact k T j (n.trans t) (none_of n f) m
theorem yW(L:Lk K mg):aW P w K mg base cY 4 L.tN L.tT ["band"] (D4 L.aN):=by
 refine L.tZ.F.dP (N:=["band","ends","place"]) (λfI A outer s H vs Q E nd hr h=>?_)
 let{x,g,U,ss,ls,rfl,B,X,B7,k}:=h
 have hu:=eP hr
 refine{_,(a6 (ai (i:=1) dZ)
  (a6 (forA (aG (AB (0) L.aV.cl L.my (ui L))) (az (i:=2)) (a9 (eJ hu (1) (2) (ag (xD L) L.qM (a5 (0) (aC (2)))) rfl)))
  (a9 (ao (1))))),?_}
 ac_rfl
 refine λn r=>?_;have R:a8 H (upd H n (.dK [])):=a8.upd r;have B0:=B.same R
 let{{dx,b,d,q,mv,h1,h2,h3,h4,h5,h6},pm,_,_}:=id B0
 refine{1,x,dx,1,h1,Hd _ _ _ _ ∅ ∅ ∅ ∅,x,g,U,ss,ls,rfl,B0,λlp S G f1 I=>?_};have Y:lp≠n:=λz=>by rw[z,a7]at f1;cases f1
 have nd:=B.nd
 refine{lp,rfl,{_,aM.of I},cn (K:=K) (a:=lp) (xs:=ss.map V.str) (λi σ T=>∃Z l,σ=[ρ (.ref x),ρ (.ref n),Z]/\T n=ρ (.dK (bM l))/\l.map (·.1)=ss.take i/\(∀m∈l,T m.2=ρ (.lst ((gq g U ss m.1).map V.str)))/\(∀m∈l,S m.2=τ)/\(∀c o,S c=ρ o->c≠n->T c=ρ o))
  {τ,[],rfl,G _ _ a7,rfl,λm t=>(nomatch t),λm t=>(nomatch t),λc o e _=>e} (λi σ T _ {_,_,_,_,_,_,_,D}=>aM.of (D _ _ I Y)) ?_ ?_}
 .rintro i y σ H5 hy ⟨Z,l,rfl,u,f,j,v,D⟩
  let{p,NR,rfl,hi,xC,lB}:=eD hy
  have QQ:a8 H H5:=λc o e=>D _ _ (G _ _ (R _ _ e)) (aa e r);refine{2,x,p,g,U,ss,ls,rfl,B.same QQ,xC,X,λe H6 s6 C Wf=>?_};have d6:=s6 _ _ u;have J:p∉l.map (·.1):=by rw[f];exact gd nd NR
  have NS:l.9<=900:=by have:=congrArg ð f;rw[Z4,Zq]at this;lia
  refine{2,n,1,jT.k (k:=ZA p) d6 (by unfold bM;rw[Z4];exact bN ()),?_};have M:e≠n:=λz=>by rw[z,u]at C;cases C
  have e1:S e=τ:=by
   cases q:S e with
   |none=>rfl
   |some o=>
    have:=D _ _ q M;rw[this]at C;cases C
  refine{_,l++[(p,e)],rfl,?_,?_,?_,?_,?_}
  .rw[a7,eU _ (j8 J)];unfold bM;rw[Zk];rfl
  .rw[Zk,f,lB];rfl
  .intro m t;rcases ZH.mp t with z |z
   .have nm:m.2≠n:=λq=>by
     have:=v m z;rw[q,G _ _ a7]at this;cases this
    rw[af nm];exact s6 _ _ (j m z)
   .have:m=(p,e):=by simpa using z
    subst this;rw[af M];exact Wf
  .intro m t;rcases ZH.mp t with z |z
   .exact v m z
   .have:m=(p,e):=by simpa using z
    subst this;exact e1
  .intro c o hc O;rw[af O];exact s6 _ _ (D c o hc O)
 .rintro σ H5 ⟨Z,l,rfl,u,f,j,v,D⟩;rw[Z4,ZI]at f;exact{1,k n l H5 (λc o e=>D _ _ (G _ _ (R _ _ e)) (aa e r)) r u f j λm t=>none_of R (none_of G (v m t))}
theorem jP(L:Lk K mg):aW P w K mg base cY 5 L.kq L.kF ["band","length"] (IC L.aN):=by
 have T:=L.T;refine L.gZ.F.dP (N:=["band","length","ends","counts","place","table","step","longer"]) (λfI A outer s H vs Q E nd hr h=>?_)
 let{x,n,g,G,ss,ls,rfl,B,GB,B7,YC,YD,k}:=h
 have hu:=eP hr
 refine{_,(a6 (ai (i:=2) (ag (yW L) L.tZ (aC (0))))
  (a6 (ai (i:=3) dZ)
  (a6 (forA (ie (2)) (az (i:=4)) (a9 (eJ hu (3) (4) ae rfl)))
  (a6 (ai (i:=5) (bB (aC (3))))
  (a6 (forA (cy rfl T.range (aC (1))) (az (i:=6)) (a6 (ai (i:=7) dZ)
  (a6 (forA (ie (2)) (az (i:=4)) (a9 (eJ hu (7) (4) (ak (g9 rfl) (by rfl) T.sum x6 (aC (bR rfl (aq ["counts"] [3]) (aG (bS hu (2) (4) (λ_ _=>rfl))) (λ_ _ _ _ _ _=>b8) (λ_ _ _ _ _ _=>(bS hu (1) (0) (λ_ _=>rfl)))))) rfl)))
  (a6 (bH (fJ ZK ZS ZT cb (5) (aC (7))))
  (a9 (ai (i:=3) (7)))))))
  (a9 (ao (5)))))))),?_}
 ac_rfl
 have nd:=B.nd;have he:("":Str)∈ss:=B.pm.mem_iff.mpr (d8 G);refine{1,x,g,G,ss,ls,rfl,B,GB,B7,λd u H1 s1 QR h1 ek er ef=>?_};refine λl v=>?_;have Z:d≠l:=aa h1 v;have I:((bM u).map λkv=>kV kv.1)=ss.map V.str:=by rw[fM,ek]
 have Wg:∀m∈u,m.2≠d:=λm q z=>by have:=er m q;rw[z,h1]at this;cases this
 refine{1,d,1,.inl {(a8.upd v) _ _ h1,λo=>?_}};have J:=fO d o (bM u);rw[I]at J;have S:(upd (upd H1 l (.dK [])) d (.frz o (.dK (bM u)))) l=ρ (.dK []):=by rw[af (Á Z),a7]
 have U:(upd (upd H1 l (.dK [])) d _) d=ρ (.frz o (.dK (bM u))):=a7
 have sz:a8 H (upd (upd H1 l (.dK [])) d (.frz o (.dK (bM u)))):=λc r e=>by
  rw[af (aa e QR)];exact a8.upd v _ _ (s1 _ _ e)
 have X:∀m∈u,(upd (upd H1 l (.dK [])) d (.frz o (.dK (bM u)))) m.2=ρ (.lst ((gq g G ss m.1).map V.str)):=λm q=>by
  rw[af (Wg m q)];exact a8.upd v _ _ (er m q)
 have f0:H l=τ:=none_of s1 v;generalize upd (upd H1 l _) d _=Hz at S U sz X;have QS:∀m∈u,m.2≠l:=λm q z=>by have:=X m q;rw[z,S]at this;cases this
 refine ke J (λi σ H3=>∃v4,σ=[ρ (.ref x),ρ (.int n),ρ (.ref d),ρ (.ref l),v4,τ,τ,τ]/\H3 l=ρ (.dK (pB (λp=>.int (eL g G ss 0 p)) (ss.take i)))/\∀c r,Hz c=ρ r->c≠l->H3 c=ρ r) {τ,rfl,S,λc r e _=>e} (λi σ H3 _ {_,_,_,b}=>b _ _ U Z) ?_ ?_
 .rintro i y σ H3 hy ⟨v4,rfl,h3,b⟩
  let{p,NR,rfl,hi,xC,lB}:=eD hy
  refine{2,l,1,jT.k (k:=ZA p) h3 (by rw[xR,Zq];exact bN ()),?_};refine{1,?_,λc r e hc=>by rw[af hc];exact b c r e hc};rw[a7,eU _ (vz _ (gd nd NR)),lB,vk];rfl
 rintro σ H3 ⟨v4,rfl,h3,b⟩;rw[Z4,ZI]at h3;have s3:a8 H H3:=λc r e=>b _ _ (sz _ _ e) (aa e f0);have QT:=b _ _ U Z;have OG:∀m∈u,H3 m.2=ρ (.lst ((gq g G ss m.1).map V.str)):=λm q=>b _ _ (X m q) (QS m q);clear b S U sz X J v h1 er;refine{1,by show 1<=sizeLine;decide,λlt C=>?_};have flt:H lt=τ:=none_of s3 C
 refine{1,n,rfl,(),(),cT (lo:=0) (n:=n.toNat) (Vv g G ss u o x d lt n H)
  {[l],l,_,τ,τ,rfl,rfl,rfl,a7,?_,a8.upd C _ _ QT,λm q=>a8.upd C _ _ (OG m q),s3.trans (a8.upd C)} ?_ ?_}
 .intro j t R
  cases j with
  |zero=>
   obtain rfl:l=t:=Zi R;exact a8.upd C _ _ h3
  |succ j=>simp at R
 .rintro i σ H4 hi ⟨ts,dc,v4,v6,v7,rfl,M,Tb,QU,Y,D,JR,s4⟩;refine λdl DY=>?_;have sd:a8 H4 (upd H4 dl (.dK [])):=a8.upd DY;have Wh:=Y i dc Tb;have J:=fO d o (bM u);rw[I]at J;have YF:d≠dl:=aa D DY;refine{1,d,1,.inr {o,sd _ _ D,?_}};refine ke J (λj σ H5=>∃v4,σ=[ρ (.ref x),ρ (.int n),ρ (.ref d),ρ (.ref dc),v4,ρ (.ref lt),ρ (.int (0+(i:Int))),ρ (.ref dl)]/\H5 dl=ρ (.dK (pB (λp=>.int (eL g G ss (i+1) p)) (ss.take j)))/\∀c r,H4 c=ρ r->H5 c=ρ r) {1,a7,λc r e=>sd _ _ e} (λj σ H5 _ {_,_,_,b}=>b _ _ D) ?_ ?_
  .rintro j y σ H5 hy ⟨v4,rfl,h5,b⟩
   let{p,Hi,rfl,hj,xC,lB}:=eD hy
   let{a,ha,hv}:=fN (mv:=u) (k:=p) (by rw[ek];exact xC)
   have e1:=dI.f (k:=(ZA p:Key)) (b _ _ D);rw[hv]at e1;have Tc:=b _ _ (JR _ ha);have QV:=b _ _ Wh;have el:=Ab g G ss p;refine{2,d,1,e1,a,rfl,{_,aM.of Tc},λlm Ji=>?_};refine comp_map (zx (eL g G ss i)) (aJ K a ((gq g G ss p).map V.str)) Ji (by rw[Z4];exact av ()) (λH' s'=>aM.of (s' _ _ Tc)) (λz H6 Q' hz s6 qq=>?_) (λH6 s6 h6=>?_)
   .let{t,R,rfl}:=Ze.mp hz
    have e2:=dI.k (k:=(ZA t:Key)) (s6 _ _ QV);rw[se _ (Ay he R)]at e2;exact{2,dc,1,e2,qq H6 (a8.refl _)}
   .rw[gJ]at h6;refine{lm,1,aM.of h6,?_};have Wi:=s6 _ _ h5;refine{2,dl,1,jT.k (k:=ZA p) Wi (by rw[xR,Zq];exact bN ()),?_};refine{1,?_,λc r e=>by rw[af (aa e DY)];exact s6 _ _ (b c r e)};rw[a7,eU _ (vz _ (gd nd Hi)),lB,vk];rfl
  rintro σ H5 ⟨YG,rfl,h5,b⟩;rw[Z4,ZI]at h5;have O:=b _ _ QU;refine{1,.inl {rfl,_,aM.of O},1,lt,_,1,rfl,O,by rw[Z4];exact ß (m:=200000) () (by rw[Ö];decide),?_};have Wj:∀t,H5 t=ρ (.dK (KZ g G ss (i+1)))->t≠lt:=λt e z=>by rw[z,O]at e;cases e
  refine{1,ts++[dl],dl,_,_,1,by rw[Zd,M];rfl,by rw[ZL (),M,ü];rfl,by rw[a7,Zk];rfl,?_,?_,?_,?_}
  .intro j t R
   by_cases hj:j<ts.9
   .rw[ZN hj]at R;have e:=b _ _ (Y j t R);rw[af (λz=>by rw[z,O]at e;cases e)];exact e
   .have Wk:j=i+1:=by
     have:=(Za.mp R).1;rw[Zd,Ŏ]at this
     lia
    subst Wk;rw[ZL (),M,ü]at R;obtain rfl:dl=t:=Zi R;rw[af (Wj _ h5)];exact h5
  .have e:=b _ _ D;rw[af (λz=>by rw[z,O]at e;cases e)];exact e
  .intro m q;have e:=b _ _ (JR m q)
   by_cases z:m.2=lt
   .exfalso;have f:=OG m q;rw[z,C]at f;cases f
   .rw[af z];exact e
  .exact λc r e=>by rw[af (aa e flt)];exact b _ _ (s4 _ _ e)
 .rintro σ H4 ⟨ts,dc,v4,v6,v7,rfl,M,Tb,QU,Y,D,JR,s4⟩;exact{_,rfl,k lt ts H4 s4 flt QU M Y}
theorem uL(L:Lk K mg):aW P w K mg base cY 6 L.nU L.oj ["band","place","length"] (FO L.aN):=by
 refine L.oK.F.dP (N:=["band","place","length"]) (λy A outer s H T Q E nd C h=>?_)
 let{x,p,n,g,r,ss,ls,rfl,B,u,e,f,i,j,k}:=h
 have D:=eP C
 refine{_,(a6 (bH (NK (0) L.aV.cl L.fj (gC L) (aC (1))))
  (a9 (ao (bS D (b4 bA (ag (jP L) L.gZ (a5 (0) (aC (2)))) (JA EA ae) (λ_ _=>rfl)) (1) (λ_ _=>rfl))))),?_}
 ac_rfl
 let{{G,b,d,q,U,I,X,Y,Z,h5,h6},_,_,_}:=id B
 refine{1,x,G,1,I,Hd _ _ _ _ ∅ ∅ ∅ ∅,1,x,p,g,r,ss,ls,rfl,B,u,?_};refine{2,x,n,g,r,ss,ls,rfl,B,e,f,i,j,λl m J M f1 hl a O=>?_};obtain⟨c,t,rfl⟩:∃l t,m=l++[t]:={m.dropLast,m.getLast (by intro z;rw[z]at a;simp at a),(wbT _).symm};have R:lQ ((c++[t]).map V.ref) (-1)=ρ (.ref t):=by rw[Zk];exact xN _ _
 have o:c.9=n.toNat:=by rw[Zd,Ŏ]at a;lia
 have S:=O n.toNat t (by rw[ZL (),o,ü];rfl);have v:=dI.k (k:=(ZA p:Key)) S;rw[se _ u]at v;exact{1,l,_,-1,1,rfl,aM.of hl,R,1,t,1,v,k J M}
theorem yX(L:Lk K mg):aW P w K mg base cY 7 L.BZ L.C1 ["band","length"] (IE L.aN):=by
 refine L.xo.F.dP (N:=["band","length"]) (λf A outer s H j Q E nd l h=>?_)
 let{x,n,g,e,ss,ls,rfl,B,a,b,c,d,k}:=h
 refine{_,(a9 (ao (ag (uL L) L.oK (a5 (0) (a5 fh (aC (1))))))),?_}
 ac_rfl
 have i:("":Str)∈ss:=B.pm.mem_iff.mpr (d8 e);exact{2,x,"",n,g,e,ss,ls,rfl,B,i,a,b,c,d,k}
theorem pW(L:Lk K mg):aW P w K mg base cY 6 L.yK L.yM ["band","many","wide","most"] (D7 L.aN):=by
 have T:=L.T;refine L.oN.F.dP (N:=["band","many","wide","most","table","rows_of_data","length"]) (λfI A outer s H vs Q E nd hr h=>?_)
 let{x,many,wide,most,g,m,ss,ls,rfl,B,q,D,r,OH,Td,Z}:=h
 have k1:∀k:Nat,1<=k->(k:Int)<=most->eL g m ss (k*wide.toNat) "" < many^k->(∀j:Nat,1<=j->j<k->¬eL g m ss (j*wide.toNat) "" < many^j)->∀f,a8 H f->Q (.int (k:Nat)) f:=λk a b c d f G=>Z _ f G (.some k a b c d);have k2:(∀j:Nat,1<=j->(j:Int)<=most->¬eL g m ss (j*wide.toNat) "" < many^j)->∀f,a8 H f->Q .non f:=λa f G=>Z _ f G (.none a);have hu:=eP hr
 refine{_,(a6 (bH (ag (g7 L) L.fF (a5 (0) (a5 (1) (aC (2))))))
  (a6 (ai (i:=4) (ag (jP L) L.gZ (a5 (0) (aC (aF dW (3) (2))))))
  (a6 (ai (i:=5) ae)
  (a6 (forA (lC rfl T.range (a5 ae (aC (aF dJ (3) ae)))) (az (i:=6)) (a6 (wM (i:=5) nd rfl (ċ rfl) (1) EG)
  (a9 (aT (ck gO (bS hu (b4 bA (4) (aF dW (6) (2)) (λ_ _=>rfl)) fh (λ_ _=>rfl)) (5)) (a9 (ao (6))) aB))))
  (a9 (ao iq)))))),?_}
 ac_rfl
 have he:("":Str)∈ss:=B.pm.mem_iff.mpr (d8 m)
 let{ha,hb,hc,hd,_}:=id r
 obtain⟨e,t⟩:∃w:Nat,wide=(w:Int):={wide.toNat,()};obtain⟨u,I⟩:∃w:Nat,most=(w:Int):={most.toNat,()};have o:most*wide=((u*e:Nat):Int):=by rw[t,I,ε]
 have YH:u*e<=600:=by
  have p:u<=100:=();have h2:e<=6:=();exact Zn (Nat.mul_le_mul p h2) ⋯
 have ew:wide.toNat=e:=();rw[ew]at k1 k2;refine{3,x,many,wide,g,m,ss,ls,rfl,B,q,r,?_};refine{3,_,1,rfl,.inl {(),()},x,most*wide,g,m,ss,ls,rfl,B,q,D,by rw[o];lia,by rw[o];lia,λl J M s1 f1 hl O ht=>?_};rw[o,Zy]at O;refine⟨_,rfl,_,_,rfl,rfl,1,most+1,rfl,{(),(),(),()},cT (lo:=1) (n:=(most+1-1).toNat) (λi σ R=>R=M/\(∃v6,σ=[ρ (.ref x),ρ (.int many),ρ (.int wide),ρ (.int most),ρ (.ref l),ρ (.int (many^i)),v6])/\∀j:Nat,1<=j->j<=i->¬eL g m ss (j*e) "" < many^j) {rfl,{τ,by rw[Int.pow_zero];rfl},λj p h2=>()} ?_ ?_⟩
 .rintro i σ R hi ⟨S,⟨v6,rfl⟩,lo⟩;rw[S];have U:i+1<=u:=();have OI:(i+1)*e<=u*e:=wdQ _ U;have v:(i+1)*e<J.9:=();have e1:(J.map V.ref)[(i+1)*e]?=ρ (.ref J[(i+1)*e]):=by rw[Z9,Z5 v];rfl
  have y:=bz e1;have ei:((((i+1)*e:Nat)):Int)=(1+(i:Int))*wide:=by rw[t,ε,wdN,Int.add_comm];rfl
  rw[ei]at y;have X:=ht _ _ (Z5 v);have e3:=dI.k (k:=(ZA "":Key)) X;rw[se _ he]at e3;refine{2,_,1,rfl,.inr {(),()},?_};refine{3,_,1,rfl,.inr {(),()},l,_,_,1,rfl,aM.of hl,y,_,1,e3,1,_,1,rfl,1,?_};refine rT (λp=>?_) (λp=>{rfl,{_,by rw[ο];rfl},λj C q2=>?_})
  .have Y:=of_decide_eq_true p;have:=k1 (i+1) () () (by rw[ο];exact Y) (λj C q2=>lo j C ()) M s1;rw[show (((i+1:Nat):Nat):Int)=1+(i:Int) by lia]at this;exact{_,rfl,this}
  .by_cases hj:j<=i
   .exact lo j C hj
   .obtain rfl:j=i+1:=();rw[ο];exact λz=>p (decide_eq_true z)
 .rintro σ R ⟨S,⟨v6,rfl⟩,lo⟩;rw[S];exact k2 (λj C q2=>lo j C ()) M s1
theorem uk(L:Lk K mg):aW P w K mg base cY 3 L.lY L.me ["band","rows"] (FL L.aN):=by
 refine L.mq.F.dP (N:=["band","rows","longer","word","place","sign","end"]) (λfI A outer s H vs Q E nd hr h=>?_)
 let{x,l,rs,m,g,n,ss,ls,rfl,B,R,hq,Je,GB,k}:=h
 refine{_,(a6 (ai (i:=2) (bB dS))
  (a6 (forA (aG (1)) (dY rfl (aK (az (i:=3)) (aK (az (i:=4)) cI))) (a9 (forA (wR (aZ (0) rfl)) (az (i:=5)) (a6 (ai (i:=6) (NK (0) L.aV.cl L.mZ (qR L) (a5 (4) (aC (5)))))
  (a9 (aT (ck nu (6) iq) (a9 (bH (fJ ZK ZS ZT cb (2) (aC (cM (a5 (aF dX (3) (5)) (aC (6)))))))) aB))))))
  (a9 (ao (2))))),?_}
 ac_rfl
 refine{ZE _,λu v=>?_};have s0:a8 H (upd H u (.lst [])):=a8.upd v;refine{1,l,rfl,{_,aM.of (s0 _ _ R.l)},cn (K:=K) (a:=l) (xs:=rs.map V.ref) (λi σ J=>∃(v3 v4 z v6:Option V) (f:List Addr),σ=[ρ (.ref x),ρ (.ref l),ρ (.ref u),v3,v4,z,v6]/\a8 H J/\cD J u f (fC g n ss (m.take i))) {τ,τ,τ,τ,[],rfl,s0,{a7,cA.nil _}} (λi σ J _ {_,_,_,_,_,_,C,_}=>aM.of (C _ _ R.l)) ?_ ?_}
 .rintro i y σ J D ⟨v3,v4,z,v6,f,rfl,C,R2⟩;rw[Z9]at D
  obtain⟨r,O,rfl⟩:∃r,rs[i]?=ρ r/\y=.ref r:=by
   cases q:rs[i]? with
   |none=>rw[q]at D;cases D
   |some r=>rw[q]at D;exact{r,rfl,(Zi D).symm}
  have S:i<m.9:=by have:=(Za.mp O).1;rw[R.len]at this;exact this
  have T:m[i]?=ρ m[i]:=Z5 S
  let{U,X}:=hq m[i] (ZQ S)
  have hT:=R.t.2 i r (jx m[i]) O (by rw[Z9,T];rfl);have lB:m.take (i+1)=m.take i++[m[i]]:=by rw[Ô,T];rfl
  have G:fC g n ss (m.take (i+1))=fC g n ss (m.take i)++pL g n ss m[i]:=by
   delta fC;rw[lB,wgj];simp
  have Te:(fC g n ss (m.take i)).9<=1000:=by
   have h1:=qj g n ss (m.take i);have h2:(m.take i).9<=100:=by rw[Zq];lia
   exact Zn h1 (Nat.mul_le_mul h2 GB)
  generalize m[i]=q at U X hT G
  let{w,p}:=q
  generalize fC g n ss (m.take i)=M at R2 G Te;refine{r,1,g8.of (C _ _ hT),rfl,_,1,_,1,rfl,?_};have B2:=B.same C
  let{{dx,b,d,qq,mv,h1,h2,h3,h4,h5,h6},pm,_,_}:=id B2
  refine{1,x,L.aN,dx,_,1,h1,L.aV.cl,L.aV.rL,mR g b d qq,g,rfl,ke (nk g) (λj σ Y=>∃(z v6:Option V) (f:List Addr),σ=[ρ (.ref x),ρ (.ref l),ρ (.ref u),ρ (.str w),ρ (.str p),z,v6]/\a8 H Y/\cD Y u f (M++((ch g).take j).filterMap λc=>if bears n (p++{#[c]})=true then τ else ρ (w++{#[c]},lend ss (p++{#[c]})))) {_,_,f,rfl,C,by rw[wfS,List.filterMap_nil,Ó];exact R2} (λ_ _ _ _ _=>trivial) ?_ ?_}
  .rintro j y σ Y D ⟨z,v6,f,rfl,Z,R3⟩
   let{c,YJ,rfl,hj,Wl,Ma}:=D3 D
   have B3:=B.same Z
   let{{Wm,_,_,_,_,Wn,_},_}:=id B3
   refine{1,x,Wm,1,Wn,Hd _ _ _ _ ∅ ∅ ∅ ∅,2,x,p,c,g,n,ss,ls,rfl,B3,U,Wl,?_}
   have Md:(M++((ch g).take j).filterMap λc=>if bears n (p++{#[c]})=true then τ else ρ (w++({#[c]}:Str),lend ss (p++({#[c]}:Str)))).length<=1010:=by
    have:=wd6 (λc=>if bears n (p++{#[c]})=true then τ else ρ (w++({#[c]}:Str),lend ss (p++({#[c]}:Str)))) ((ch g).take j);rw[Zq,b7]at this;rw[Zd]
    lia
   refine{1,rfl,1,?_};rw[Ma,wfM,<-ZU];generalize (M++((ch g).take j).filterMap λc=>if bears n (p++{#[c]})=true then τ else ρ (w++({#[c]}:Str),lend ss (p++({#[c]}:Str))))=M2 at R3 Md
   cases hb:bears n (p++⟨#[c]⟩) with
   |true=>
    have e:uz n ss p c=.non:=by unfold uz;rw[hb];rfl
    rw[e];refine aU {_,_,f,rfl,Z,?_}
    have e2:([c].filterMap λc=>if bears n (p++{#[c]})=true then τ else ρ (w++({#[c]}:Str),lend ss (p++({#[c]}:Str))))=[]:=by
     rw[ç,hb];rfl
    rw[e2,Ó];exact R3
   |false=>
    have e:uz n ss p c=.str (lend ss (p++{#[c]})):=by unfold uz;rw[hb];rfl
    rw[e]
    have e2:([c].filterMap λc=>if bears n (p++{#[c]})=true then τ else ρ (w++({#[c]}:Str),lend ss (p++({#[c]}:Str))))=[(w++{#[c]},lend ss (p++{#[c]}))]:=by
     rw[ç,hb];rfl
    rw[e2];have yS:=R3.len;have Wo:w.9<=100:=X;refine dC {1,.inl {rfl,_,aM.of R3.l},2,_,1,rfl,av (by show w.9+1<=_;lia),1,by show 2<=sizeLine;decide,λr' I=>?_};refine{u,_,1,rfl,a8.upd I _ _ R3.l,by rw[Z4,yS];exact ß Md (by rw[Ö];decide),?_};have key:=R3.push I (w++{#[c]},lend ss (p++{#[c]}))
    have sk:a8 H (upd (upd Y r' (.tup [.str (w++{#[c]}),.str (lend ss (p++{#[c]}))])) u (.lst (f.map V.ref++[.ref r']))):=λa o ea=>by
     rw[af (aa ea v)];exact a8.upd I _ _ (Z _ _ ea)
    unfold jx at key;generalize lend ss (p++{#[c]})=le at key sk ⊢;refine{ρ (.str {#[c]}),ρ (.str le),f++[r'],?_,?_,?_}
    .rfl
    .exact sk
    .exact key
  .rintro σ Y ⟨z,v6,f,rfl,Z,R3⟩;refine{_,_,_,_,f,rfl,Z,?_};have:(df g).9=(ch g).9:=by unfold df;rw[Z4]
   rw[this,ZI]at R3;rw[G];exact R3
 .rintro σ J ⟨v3,v4,z,v6,f,rfl,C,R2⟩;rw[Z4,R.len,ZI]at R2;exact{_,rfl,k u f J C v R2}
theorem hV(L:Lk K mg):aW P w K mg base cY 4 L.lZ L.mh ["band","place","wide"] (FN L.aN):=by
 have T:=L.T;refine L.fZ.F.dP (N:=["band","place","wide","rows","step","live"]) (λfI A outer s H vs Q E nd hr h=>?_)
 let{x,p,n,g,a,ss,ls,rfl,B,hp,j,hn,DL,J,k}:=h
 refine{_,(a6 (bH (NK (0) L.aV.cl L.il (n8 L) (aC (1))))
  (a6 (ai (i:=3) (bB (aC (cM (a5 fh (aC (1)))))))
  (a6 (forA (cy rfl T.range (aC (2))) (az (i:=4)) (a9 (ai (i:=3) (ag (uk L) L.mq (a5 (0) (aC (3)))))))
  (a6 (ai (i:=5) (AB (0) L.aV.cl L.gg (gG L)))
  (a9 (ao (eG rfl (aq ["live"] [5]) (aq ["live"] [5]) ⋯ (aG (3)) (λ_ _ _ _ _ _=>dh (eZ (fg (K:=K) rfl) (1) (2) rfl)) (λ_ _ _ _ _ _=>(cM (a5 (0) (aC (1)))))))))))),?_}
 ac_rfl
 have he:("":Str)∈ss:=B.pm.mem_iff.mpr (d8 a);have M:p∈ss:=B.lv.sub.subset hp
 let{{dx,b,d,q,mv,m,z,h3,h4,h5,h6},pm,_,_}:=id B
 refine{1,x,dx,1,m,Hd _ _ _ _ ∅ ∅ ∅ ∅,1,x,p,g,a,ss,ls,rfl,B,hp,?_};refine{1,by show 2<=sizeLine;decide,λe O=>{by show 1<=sizeLine;decide,λC o=>?_}}
 have R0:cD (upd (upd H e (.tup [.str "",.str p])) C (.lst [.ref e])) C [e] (t6 g a ss p 0):=by
  refine{a7,rfl,λi r xs m z=>?_}
  match i,m,z with
  |0,m,z=>
   cases m;cases z;exact a8.upd o _ _ a7
 have s0:a8 H (upd (upd H e (.tup [.str "",.str p])) C (.lst [.ref e])):=(a8.upd O).trans (a8.upd o);refine{1,(n:Int),rfl,(),(),?_};rw[Zy];refine cT (lo:=0) (n:=n) (λi σ D=>∃(l:Addr) (u:List Addr) (v4:Option V),σ=[ρ (.ref x),ρ (.str p),ρ (.int (n:Int)),ρ (.ref l),v4,τ]/\a8 H D/\cD D l u (t6 g a ss p i)) {C,[e],τ,rfl,s0,R0} ?_ ?_
 .rintro i σ D hi ⟨l,u,v4,rfl,f,R2⟩;have c:(t6 g a ss p i).9<=100:=Zn (nJ g a ss p i) (Zn (wg1 () ()) j);refine{2,x,l,u,_,g,a,ss,ls,rfl,B.same f,R2,λr hr=>?_,c,J,λl' R H3 v f3 R3=>{l',R,_,rfl,f.trans v,R3}}
  let{a1,a2}:=yB he M i r hr
  exact{a1,()}
 .rintro σ D ⟨l,u,v4,rfl,f,R2⟩;have B2:=B.same f
  let{{S,_,_,_,_,U,_},_}:=id B2
  refine{1,x,S,1,U,Hd _ _ _ _ ∅ ∅ ∅ ∅,x,g,a,ss,ls,rfl,B2,λlv H3 v f3 X=>?_};have R3:=R2.same v;have c:(t6 g a ss p n).9<=100:=Zn (nJ g a ss p n) j;have yS:=R3.len;refine{1,l,rfl,{_,aM.of R3.l},λlr y=>?_};refine Ds (prs:=(t6 g a ss p n).map i9) (λq=>jY q.2 (ls.map V.str)) lR (aJ K l (u.map V.ref)) (by rw[wY];exact R3.t) y (av ()) (λH' s'=>aM.of (s' _ _ R3.l)) (λqv G Q' hq I Y=>?_) (λqv G Q' hq _ I Y=>?_) (λys G I Z t4=>?_)
  .let{q',1}:=Ze.mp hq
   exact{2,lv,1,.inl (aM.of (I _ _ X)),rfl,cR _,1,Y G (a8.refl _)}
  .exact{2,by show 2<=sizeLine;decide,λr' QW=>Y r' _ (a8.upd QW) a7}
  .rw[yd]at t4;exact k lr ys G ((f.trans v).trans I) (none_of (f.trans v) y) ⟨Z,t4⟩
theorem uM(L:Lk K mg):aW P w K mg base cY 5 L.nV L.om ["band","wide"] (yt L.aN):=by
 refine L.oM.F.dP (N:=["band","wide","ends","place"]) (λfI A outer s H vs Q E nd hr h=>?_)
 let{x,n,g,J,ss,ls,rfl,B,Hj,hn,DL,GB,B7,k}:=h
 have hu:=eP hr
 refine{_,(a6 (ai (i:=2) dZ)
  (a6 (forA (aG (AB (0) L.aV.cl L.gg (gG L))) (az (i:=3)) (a9 (eJ hu (2) (3) (eG rfl (aq [] []) (aq [] []) ⋯ (aG (ag (hV L) L.fZ (a5 (0) (a5 (3) (aC (1)))))) (λ_ _ _ _ _ _=>b8) (λ_ _ _ _ _ _=>(1))) rfl)))
  (a9 (ao (2))))),?_}
 ac_rfl
 refine λu v=>?_;have Y:a8 H (upd H u (.dK [])):=a8.upd v;have B0:=B.same Y
 let{{dx,b,d,q,mv,h1,h2,h3,h4,h5,h6},pm,_,_}:=id B0
 refine{1,x,dx,1,h1,Hd _ _ _ _ ∅ ∅ ∅ ∅,x,g,J,ss,ls,rfl,B0,λlp Z R f1 S=>?_};have OD:lp≠u:=λz=>by rw[z,a7]at f1;cases f1
 have nd:ls.Nodup:=B.nd.sublist B.lv.sub;have uF:ls.9<=900:=Zn B.lv.sub.length_le B7
 refine{lp,rfl,{_,aM.of S},cn (K:=K) (a:=lp) (xs:=ls.map V.str) (λi σ H2=>∃v3 r,σ=[ρ (.ref x),ρ (.int (n:Int)),ρ (.ref u),v3]/\H2 u=ρ (.dK (bM r))/\r.map (·.1)=ls.take i/\(∀m∈r,H2 m.2=ρ (.lst (((aS g J ss ls n m.1).map (·.2)).map V.str)))/\(∀m∈r,Z m.2=τ)/\(∀c o,Z c=ρ o->c≠u->H2 c=ρ o))
  {τ,[],rfl,R _ _ a7,rfl,λm C=>(nomatch C),λm C=>(nomatch C),λc o e _=>e} (λi σ H2 _ {_,_,_,_,_,_,_,M}=>aM.of (M _ _ S OD)) ?_ ?_}
 .rintro i y σ H5 hy ⟨v3,r,rfl,D,f,j,G,M⟩
  let{p,NR,rfl,hi,xC,lB}:=eD hy
  have QQ:a8 H H5:=λc o e=>M _ _ (R _ _ (Y _ _ e)) (aa e v);refine{3,x,p,n,g,J,ss,ls,rfl,B.same QQ,xC,Hj,hn,DL,GB,λlb rs H6 s6 f6 R6=>?_};have JS:=fQ g J ss ls n p;have yS:=R6.len;refine{lb,rfl,{_,aM.of R6.l},λe he=>?_};refine fR (prs:=(aS g J ss ls n p).map i9) (λ_=>true) (λq=>q.2) (aJ K lb (rs.map V.ref)) (by rw[wY];exact R6.t) he (av ()) (λH' s'=>aM.of (s' _ _ R6.l)) (λq H7 Q' _ _ qq=>qq H7 (a8.refl _)) (λq H7 Q' _ _ _ qq=>{1,qq H7 (a8.refl _)}) (λH7 s7 h7=>?_)
  have e7:(((aS g J ss ls n p).map i9).filter λ_=>true).map (λq=>q.2)=((aS g J ss ls n p).map (·.2)).map V.str:=by
   rw[ù.mpr (λ_ _=>rfl),Zj,Zj];rfl
  rw[e7]at h7;have O:=s6.trans s7;have d6:=O _ _ D;have I:H5 e=τ:=none_of s6 he;have T:p∉r.map (·.1):=by rw[f];exact gd nd NR
  have NS:r.9<=900:=by have:=congrArg ð f;rw[Z4,Zq]at this;lia
  refine{2,u,1,jT.k (k:=ZA p) d6 (by unfold bM;rw[Z4];exact bN ()),?_};have U:e≠u:=λz=>by rw[z,D]at I;cases I
  have e1:Z e=τ:=by
   cases q:Z e with
   |none=>rfl
   |some o=>
    have:=M _ _ q U;rw[this]at I;cases I
  refine{_,r++[(p,e)],rfl,?_,?_,?_,?_,?_}
  .rw[a7,eU _ (j8 T)];unfold bM;rw[Zk];rfl
  .rw[Zk,f,lB];rfl
  .intro m C;rcases ZH.mp C with z |z
   .have nm:m.2≠u:=λq=>by
     have:=G m z;rw[q,R _ _ a7]at this;cases this
    rw[af nm];exact O _ _ (j m z)
   .have:m=(p,e):=by simpa using z
    subst this;rw[af U];exact h7
  .intro m C;rcases ZH.mp C with z |z
   .exact G m z
   .have:m=(p,e):=by simpa using z
    subst this;exact e1
  .intro c o hc X;rw[af X];exact O _ _ (M c o hc X)
 .rintro σ H5 ⟨v3,r,rfl,D,f,j,G,M⟩;rw[Z4,ZI]at f;exact{1,k u r H5 (λc o e=>M _ _ (R _ _ (Y _ _ e)) (aa e v)) v D f j λm C=>none_of Y (none_of R (G m C))}
theorem xE(L:Lk K mg):aW P w K mg base cY 1 L.qt L.qF ["places","weights"] (Fj K):=by
 have T:=L.T;refine L.qN.F.dP (N:=["places","weights"]) (λj A outer s H y Q E nd n h=>?_)
 let{l,d,o,m,f,rfl,g,p,hd,hw,k}:=h
 have q:=eP n;refine{_,(a9 (ao (ak (g9 rfl) (by rfl) T.sum x6 (aC (bR rfl (aq ["weights"] [1]) (aG (0)) (λ_ _ _ _ _ _=>b8) (λ_ _ _ _ _ _=>(bS q (1) (0) (λ_ _=>rfl)))))))),?_}
 ac_rfl
 refine{1,l,rfl,{_,g},λr a=>?_};refine comp_map (zx f) (aJ K l (o.map V.str)) a (by rw[Z4];exact av ()) (λB t=>t.seq g) (λz b C u c v=>?_) (λb c i=>?_)
 .let{e,x,rfl}:=Ze.mp u
  have g3:=dI.rd (k:=(ZA e:Key)) (hd.same c);rw[cG,hw e x]at g3;exact{2,d,1,g3,v b (a8.refl _)}
 .rw[gJ]at i;exact{r,_,rfl,aM.of i,k b c}
theorem Ba(L:Lk K mg):aW P w K mg base cY 2 L.wg L.wm ["ends","many","weights"] D6:=by
 have T:=L.T;refine L.wx.F.dP (N:=["ends","many","weights","lower","place"]) (λX A outer s H vs Q E nd Y h=>?_)
 let{x,B,many,n,o,M,f,g,r,ss,ls,rfl,l,O,Z,Hj,nd,uF,Wq,OJ,C,k}:=h
 have D:=eP Y
 refine{_,(a6 (ai (i:=3) dZ)
  (a6 (forA (ie (0)) (az (i:=4)) (a9 (eJ D (3) (4) (ak (iK rfl) (by rfl) T.min CH (a5 (bS D (2) (4) (λ_ _=>rfl)) (aC (aF lD (ag (xE L) L.qN (a5 (bS D (0) (4) (λ_ _=>rfl)) (aC (2)))) (1))))) rfl)))
  (a9 (ao (3))))),?_}
 ac_rfl
 refine λdl m=>?_;have R:a8 H (upd H dl (.dK [])):=a8.upd m;have J:=fO x o (bM M);rw[fM,O]at J;refine{1,x,1,.inr {o,R _ _ l,?_}};refine ke J (λj σ t=>∃(v4:Option V),σ=[ρ (.ref x),ρ (.int many),ρ (.ref B),ρ (.ref dl),v4]/\t dl=ρ (.dK (b9 (bZ (kl g r ss ls many n f) (ls.take j))))/\a8 H t) ⟨τ,rfl,a7,R⟩ (λj σ t _ {_,_,_,b}=>b _ _ l) ?_ ?_
 .rintro j y σ t hy ⟨v4,rfl,z,b⟩
  let{p,G,rfl,hj,u,lB}:=eD hy
  have d:=C.same b;have g3:=dI.rd (k:=(ZA p:Key)) d;rw[cG,fY f ls p u]at g3
  let{a,ha,hv}:=fN (mv:=M) (k:=p) (by rw[O];exact u)
  have S:=dI.f (k:=(ZA p:Key)) (b _ _ l);rw[hv]at S;have I:=b _ _ (Z _ ha);have JS:=fQ g r ss ls n p;refine{2,B,1,g3,2,x,1,S,1,a,B,(aS g r ss ls n p).map (·.2),_,f,rfl,aM.of I,by rw[Z4];lia,d,λe he=>?_,λH4 U=>?_}
  .let{q,hq,rfl}:=Ze.mp he
   exact fY f ls _ (cf hq)
  have eb:(((aS g r ss ls n p).map (·.2)).map f).sum=gB g r ss ls n f p:=by delta gB;rw[Zj];rfl
  refine{1,_,1,rfl,{(),()},_,1,?_};have h4:=U _ _ z;have v:p∉(bZ (kl g r ss ls many n f) (ls.take j)).map (·.1):=by rw[lH];exact gd nd G
  refine{2,dl,1,jT.k (k:=ZA p) h4 (by rw[iL];delta bZ;rw[Z4,Zq];exact bN ()),?_};refine{1,?_,λc oc e=>?_}
  .rw[a7,pF v,eb,lB];delta bZ;rw[Zk];rfl
  .rw[af (aa e m)];exact U _ _ (b _ _ e)
 .rintro σ t ⟨v4,rfl,z,b⟩;rw[Z4,ZI]at z;exact{_,rfl,k dl t b m z}
theorem qV(L:Lk K mg):aW P w K mg base cY 6 L.mW L.tU ["band","many","wide","most"] (IG L.aN):=by
 refine L.mY.F.dP (N:=["band","many","wide","most","ends","weights","place","lower"]) (λfI A outer s H vs Q E nd hr h=>?_)
 let{x,many,n,most,g,v,ss,ls,rfl,B,DL,U,X,Y,OH,k}:=h
 have hu:=eP hr;have Lz:(A.deeper (İ "greatest" (aD (top 37)) s.heap.objs.size L.mW fI)).units<À:=hr.kd
 refine{_,(a6 (bH (ag (g7 L) L.fF (a5 (0) (a5 (1) (aC (2))))))
  (a6 (ai (i:=4) (ag (uM L) L.oM (a5 (0) (aC (2)))))
  (a6 (ai (i:=5) dZ)
  (a6 (forA (yJ (4)) (az (i:=6)) (a9 (eJ hu (5) (6) (3) rfl)))
  (a9 (iI Ŗ (aP bU) (a6 (ai (i:=7) (ag (Ba L) L.wx (a5 (4) (a5 (1) (aC (5))))))
  (a6 (aT (ck (Kp Lz) (7) (5)) (a9 (ao (5))) aB)
  (a9 (ai (i:=5) (7))))))))))),?_}
 ac_rfl
 let{Z,rb,rc,rd,re}:=id Y
 have Hj:g.length^n<=64:=by
  rw[Zy]at re;have:((g.length^n:Nat):Int)<=64:=by rw[Ź];exact re
  lia
 have nd:ls.Nodup:=B.nd.sublist B.lv.sub;have uF:ls.9<=900:=Zn B.lv.sub.length_le X;refine{3,x,many,n,g,v,ss,ls,rfl,B,U,Y,?_};refine{2,x,n,g,v,ss,ls,rfl,B,(),(),DL,U,X,λd G H1 s1 QR h1 ek er ef=>?_};have Ws:∀q∈G,q.2≠d:=λq hq z=>by have:=er q hq;rw[z,h1]at this;cases this
 refine λa b=>?_;have I:d≠a:=aa h1 b;have Tf:(upd H1 a (.dK [])) d=ρ (.dK (bM G)):=a8.upd b _ _ h1;refine{1,d,1,.inl Tf,λo H2 h2 l=>?_};have M:H2 a=ρ (.dK []):=by rw[l a (Á I),a7]
 have s2:a8 H H2:=λc O e=>by
  rw[l c (aa e QR)];exact a8.upd b _ _ (s1 _ _ e)
 have R:∀m∈G,H2 m.2=ρ (.lst (((aS g v ss ls n m.1).map (·.2)).map V.str)):=λm r=>by
  rw[l _ (Ws m r)];exact a8.upd b _ _ (er m r)
 have t:H a=τ:=none_of s1 b;have J:=fO d o (bM G);rw[fM,ek]at J;refine ke J (λj σ u=>∃(v6:Option V),σ=[ρ (.ref x),ρ (.int many),ρ (.int (n:Int)),ρ (.int most),ρ (.ref d),ρ (.ref a),v6,τ]/\u a=ρ (.dK (b9 (bZ (λ_=>most) (ls.take j))))/\∀c O,H2 c=ρ O->c≠a->u c=ρ O) {τ,rfl,M,λc O e _=>e} (λj σ u _ {_,_,_,C}=>C _ _ h2 I) ?_ ?_
 .rintro j y σ u hy ⟨v6,rfl,h3,C⟩
  let{p,Hi,rfl,hj,xC,lB}:=eD hy
  have B9:p∉(bZ (λ_=>most) (ls.take j)).map (·.1):=by rw[lH];exact gd nd Hi
  refine{3,a,1,jT.k (k:=ZA p) h3 (by rw[iL];delta bZ;rw[Z4,Zq];exact bN ()),?_};refine{1,?_,λc O e hc=>by rw[af hc];exact C c O e hc};rw[a7,pF B9,lB];delta bZ;rw[Zk];rfl
 rintro σ u ⟨v6,rfl,h3,C⟩;rw[Z4,ZI]at h3;have QT:=C _ _ h2 I;have s3:a8 H u:=λc O e=>C _ _ (s2 _ _ e) (aa e t);have QX:∀m∈G,m.2≠a:=λm r z=>by have:=R m r;rw[z,M]at this;cases this
 have OG:∀m∈G,u m.2=ρ (.lst (((aS g v ss ls n m.1).map (·.2)).map V.str)):=λm r=>C _ _ (R m r) (QX m r);clear C h2 M R er h1 l Tf J b
 refine{λq σ H4=>∃(a:Addr) (f:Str->Int) (v6 v7:Option V),q=(ls.map λp=>(f p).toNat).sum/\σ=[ρ (.ref x),ρ (.int many),ρ (.int (n:Int)),ρ (.int most),ρ (.ref d),ρ (.ref a),v6,v7]/\a8 u H4/\H a=τ/\H4 a=ρ (.dK (b9 (bZ f ls)))/\(∀p∈ls,0<=f p)/\(∀p∈ls,f p<=most)/\(∀h:Str->Int,(∀p∈ls,h p<=most)->DX g v ss ls many n h->∀p∈ls,h p<=f p),
  {_,a,λ_=>most,v6,τ,rfl,rfl,a8.refl _,t,h3,λ_ _=>OH,λ_ _=>ľ _,λh hh _ p hp=>hh p hp},?_}
 rintro q σ H4 ⟨a,f,v6,v7,rfl,rfl,s4,t,h4,S,Tg,Th⟩;refine{true,rfl,dC ?_};refine{λσ' H'=>∃(dl:Addr) (v6 v7:Option V),σ'=[ρ (.ref x),ρ (.int many),ρ (.int (n:Int)),ρ (.int most),ρ (.ref d),ρ (.ref dl),v6,v7]/\a8 u H'/\H dl=τ/\H' dl=ρ (.dK (b9 (bZ (kl g v ss ls many n f) ls)))/\¬∀p∈ls,kl g v ss ls many n f p=f p,?_,?_}
 .rintro σ' H' ⟨dl,v6,v7,rfl,s',T,h',ya⟩;exact{_,KR Z S ya,dl,_,_,1,rfl,s',T,h',Fv Z S,λp hp=>weW (Fu many n f p) (Tg p hp),λh hh D=>CL Z D (Th h hh D)}
 .refine{3,d,a,many,n,o,G,f,g,v,ss,ls,rfl,s4 _ _ QT,ek,λm r=>s4 _ _ (OG m r),(),nd,uF,Z,rb,.inl h4,λdl H5 s5 T h5=>?_};have Ti:=s5 _ _ h4;refine{2,dl,a,_,1,rfl,.inl h5,.inl Ti,sJ _,sJ _,1,?_};refine rT (λhe=>?_) (λhe=>?_)
  .have e:=JI.mp he;exact{1,k a f H5 ((s3.trans s4).trans s5) t Ti {S,Tg,Im Z e,Th}}
  .exact{1,dl,_,1,s4.trans s5,none_of s3 (none_of s4 T),h5,λe=>he (JI.mpr e)}
theorem fH(L:Lk K mg):aW P w K mg base cY 2 L.fS L.iS ["self","homes","weights","lines"] (FQ K L.aA):=by
 have T:=L.T;refine L.eN.F.dP (N:=["self","homes","weights","lines"]) (λfI A outer s H vs Q E nd hr h=>?_)
 let{x,j,u,v,w,G,I,t,rfl,J,Z,QY,NU,n1,n2,n3,n4,k}:=h
 refine{_,(a6 (gQ (0) (bC dg (by rfl) T.list eV (aC (1))) rfl)
  (a6 (gQ (0) (bC dg (by rfl) T.list eV (aC (2))) rfl)
  (a9 (gQ (0) (bR rfl (aq [] []) (aG (3)) (λ_ _ _ _ _ _=>b8) (λ_ _ _ _ _ _=>(ag (ri L) L.kT (aC (0))))) rfl)))),?_}
 ac_rfl
 let{a,rfl,ha}:=nL Z
 let{b,rfl,hb}:=fE QY
 let{c,xs,rfl,hc,M}:=NU
 have xl:xs.9=t.9:=by rw[M.len,Z4]
 have l:∀{d:Addr} {ys:List V} {H':Hp},aM K H d ys->(∀b o,H b=ρ o->b≠x->H' b=ρ o)->aM K H' d ys:=λhS kp=>(jg kp).seq (Bp J hS);refine{1,a,1,.inl ha,λf B=>?_};have m:x≠f:=aa J B;refine{1,x,L.aA,j,[],rfl,by rw[af m];exact J,L.au.cl,L.au.ib,(show 0<1000 by decide),?_};rw[JG];have X:∀d o,H d=ρ o->d≠x->(upd (upd H f (.lst (G.map V.str))) x (.ins L.aA j (vD f))) d=ρ o:=λd o e hd=>by rw[af hd];exact a8.upd B _ _ e
 have x1:(upd (upd H f (.lst (G.map V.str))) x _) x=ρ (.ins L.aA j (vD f)):=a7;have a1:(upd (upd H f (.lst (G.map V.str))) x (.ins L.aA j (vD f))) f=ρ (.lst (G.map V.str)):=by rw[af m.symm,a7]
 generalize upd (upd H f _) x _=O at X x1 a1 ⊢;refine{1,b,1,.inl (l hb X),λg n=>?_};have p:x≠g:=aa x1 n;have Wt:f≠g:=aa a1 n
 have QZ:H g=τ:=by
  cases q:H g with
  |none=>rfl
  |some o=>have:=X _ _ q p.symm;rw[n]at this;cases this
 refine{1,x,L.aA,j,vD f,rfl,by rw[af p];exact x1,L.au.cl,L.au.bY,(show 1<1000 by decide),?_};rw[F7];have C:∀d o,H d=ρ o->d≠x->(upd (upd O g (.lst (I.map V.int))) x (.ins L.aA j (sM f g))) d=ρ o:=λd o e hd=>by rw[af hd];exact a8.upd n _ _ (X _ _ e hd)
 have Y:(upd (upd O g (.lst (I.map V.int))) x _) x=ρ (.ins L.aA j (sM f g)):=a7;have a2:(upd (upd O g (.lst (I.map V.int))) x (.ins L.aA j (sM f g))) f=ρ (.lst (G.map V.str)):=by rw[af m.symm,af Wt];exact a1
 have b2:(upd (upd O g (.lst (I.map V.int))) x (.ins L.aA j (sM f g))) g=ρ (.lst (I.map V.int)):=by rw[af p.symm,a7]
 generalize upd (upd O g _) x _=H2 at C Y a2 b2 ⊢;have R:=aQ.same (jg C) _ _ (aQ.off J _ _ M);refine{1,c,rfl,{_,l (.inl hc) C},λc' S=>?_};refine yI (K:=K) (t.map bx) (aJ K c xs) S (av ()) (by rw[Z4,xl]) (λH' s'=>s'.seq (l (.inl hc) C)) (λi y d U Q' hy hd D qq=>?_) (λU D r3=>?_)
 .let{d',e',r}:=R.get i y hy
  rw[hd]at e';cases e';rw[Z9]at hd
  cases e:t[i]? with
  |none=>rw[e]at hd;cases hd
  |some qs=>
   rw[e]at hd;cases hd;exact{1,y,qs,rfl,bh.same D _ _ r,n4 qs (Zv e),λz H4 s4 r4=>qq z H4 s4 r4}
 .have YK:x≠c':=aa Y S;refine{1,x,L.aA,j,sM f g,rfl,D _ _ Y,L.au.cl,L.au.dj,(show 2<1000 by decide),?_};rw[BF];have up:a8 (aO H U) (aO H (upd U x (.ins L.aA j (zQ f g c')))):=bu J λd o e hd=>by rw[af hd];exact e
  have old:a8 (aO H2 U) (aO H U):=λd o e=>by
   unfold aO at e ⊢
   cases q:H d with
   |none=>
    cases q2:H2 d with
    |none=>rw[q2]at e;exact e
    |some z=>rw[q2]at e;cases e
   |some z=>
    by_cases hd:d=x
    .rw[hd,Y]at e;cases e
    .rw[C _ _ q hd]at e;cases e
  refine k f g c' _ a7 ?_ ?_ (bh.same (old.trans up) _ _ r3) λd o e hd=>by rw[af hd];exact D _ _ (C _ _ e hd)
  .exact km ((bO B (by rw[af m.symm];exact D _ _ a2)))
  .exact gb ((bO QZ (by rw[af p.symm];exact D _ _ b2)))
theorem uN(L:Lk K mg):aW P w K mg base cY 1 L.nX L.oq ["line","desk","twin"] (II K):=by
 refine L.oO.F.dP (N:=["line","desk","twin","steps","word","end"]) (λfI A outer s H vs Q E nd u h=>?_)
 let{v,d,t,p,rfl,hL,Je,k}:=h
 refine{_,(a6 (ai (i:=3) (bB dS))
  (a6 (forA (aG (0)) (dY rfl (aK (az (i:=4)) (aK (az (i:=5)) cI))) (a6 (bH (fJ ZK ZS ZT cb (3) (aC (cM (a5 (4) (aC (5)))))))
  (a9 (aT (ck ju (5) (1)) (a9 (bH (fJ ZK ZS ZT cb (3) (aC (cM (a5 (4) (aC (2)))))))) aB))))
  (a9 (ao (3))))),?_}
 ac_rfl
 let{a,S,rfl,hS,hT}:=eM hL
 have yS:S.9=p.9:=by rw[hT.1,Z4,Z4]
 refine{ZE _,λb M=>?_};have sb:a8 H (upd H b (.lst [])):=a8.upd M;have x:(upd H b _) b=ρ (.lst []):=a7;generalize upd H b _=B at sb x;have keep:∀{g:Hp},(∀c o,B c=ρ o->c≠b->g c=ρ o)->a8 H g:=λC c o e=>C _ _ (sb _ _ e) (aa e M)
 refine{1,a,rfl,{_,sb.seq hS},cn (K:=K) (a:=a) (xs:=S.map V.ref) (λj σ g=>∃(v4 v5:Option V) (as:List V),σ=[ρ (.ref a),ρ (.int (d:Int)),ρ (.int (t:Int)),ρ (.ref b),v4,v5]/\g b=ρ (.lst as)/\(∀c o,B c=ρ o->c≠b->g c=ρ o)/\aQ K (aO B g) ((eB d t (p.take j)).map eF) as)
  {τ,τ,[],rfl,x,λc o e _=>e,rfl} (λj σ g _ {_,_,_,_,_,C,_}=>(keep C).seq hS) ?_ ?_}
 .rintro j y σ g hy ⟨v4,v5,as,rfl,l,C,T⟩;have hj:j<S.9:=by have:=(Za.mp hy).1;rwa[Z4]at this
  have U:j<p.9:=();rw[Z9,Z5 hj]at hy;cases hy;have X:H S[j]=ρ (.tup [.str p[j].1,.int (p[j].2:Int)]):=hT.2 j S[j] (lR (ee p[j])) (Z5 hj) (by rw[Z9,Z9,Z5 U];rfl);have lB:p.take (j+1)=p.take j++[p[j]]:=by rw[Ô,Z5 U];rfl
  have Mf:as.9<=2*j:=by
   rw[T.len,Z4];exact Zn (lG d t _) (wdZ 2 (by rw[Zq];lia))
  generalize p[j]=q at X lB;refine{S[j],1,g8.of (keep C _ _ X),rfl,_,1,_,1,rfl,?_};refine{1,.inl {rfl,_,aM.of l},2,by show 2<=sizeLine;decide,λr u=>?_};have I:∀n:Nat,n<=20000->n<sizeLine:=λn hn=>ß hn (by rw[Ö];decide);have OM:=a8.upd (o:=.tup [.str q.1,.int (q.2:Int)]) u _ _ l;refine{b,_,1,rfl,OM,I _ (),?_};have Y:∀c o,(upd g r (.tup [.str q.1,.int (q.2:Int)])) c=ρ o->c≠b->(upd (upd g r (.tup [.str q.1,.int (q.2:Int)])) b (.lst (as++[.ref r]))) c=ρ o:=λc o e hc=>by rw[af hc];exact e
  have D:∀c o,B c=ρ o->c≠b->(upd (upd g r (.tup [.str q.1,.int (q.2:Int)])) b (.lst (as++[.ref r]))) c=ρ o:=λc o e hc=>Y _ _ (a8.upd u _ _ (C c o e hc)) hc
  have r0:B r=τ:=by
   cases z:B r with
   |none=>rfl
   |some o=>
    by_cases hc:r=b
    .rw[hc,l]at u;cases u
    .rw[C _ _ z hc]at u;cases u
  have O:aQ K (aO B (upd (upd g r (.tup [.str q.1,.int (q.2:Int)])) b (.lst (as++[.ref r])))) ((eB d t (p.take j)).map eF++[eF q]) (as++[.ref r]):=by
   refine cW (aQ.same ((dm (a8.upd u)).trans (bu x Y)) _ _ T) ?_;have R:r≠b:=λz=>by rw[z,l]at u;cases u
   exact{r,1,bO r0 (by rw[af R,a7]),.str q.1,[.int (q.2:Int)],rfl,⟨rfl,rfl⟩,.int (q.2:Int),[],rfl,⟨rfl,rfl⟩,rfl}
  have m:(upd (upd g r (.tup [.str q.1,.int (q.2:Int)])) b _) b=ρ (.lst (as++[.ref r])):=a7;generalize upd (upd g r _) b _=H4 at D O m
  by_cases G:q.2=d
  .refine{2,rfl,true,congrArg V.bl (decide_eq_true (by rw[G])),dC ?_};refine{1,.inl {rfl,_,aM.of m},2,by show 2<=sizeLine;decide,λJ f=>?_};have JR:=a8.upd (o:=.tup [.str q.1,.int (t:Int)]) f _ _ m;refine{b,_,1,rfl,JR,I _ (by rw[Zd,Ŏ];lia),?_};have Z:∀c o,(upd H4 J (.tup [.str q.1,.int (t:Int)])) c=ρ o->c≠b->(upd (upd H4 J (.tup [.str q.1,.int (t:Int)])) b (.lst (as++[.ref r]++[.ref J]))) c=ρ o:=λc o e hc=>by rw[af hc];exact e
   have R9:B J=τ:=by
    cases z:B J with
    |none=>rfl
    |some o=>
     by_cases hc:J=b
     .rw[hc,m]at f;cases f
     .rw[D _ _ z hc]at f;cases f
   refine{_,_,1,a7,λc o e hc=>Z _ _ (a8.upd f _ _ (D c o e hc)) hc,?_};rw[lB,jc,if_pos G,Zk];have em:([q,(q.1,t)]:List (Str×Nat)).map eF=[eF q]++[eF (q.1,t)]:=rfl;rw[em,<-ZU];refine cW (aQ.same ((dm (a8.upd f)).trans (bu x Z)) _ _ O) ?_;have R:J≠b:=λz=>by rw[z,m]at f;cases f
   exact{J,1,bO R9 (by rw[af R,a7]),.str q.1,[.int (t:Int)],rfl,⟨rfl,rfl⟩,.int (t:Int),[],rfl,⟨rfl,rfl⟩,rfl}
  .refine{2,rfl,false,congrArg V.bl (decide_eq_false λz=>G (by have:=V.int.inj z;lia)),aU ?_};refine{_,_,1,m,D,?_};rw[lB,jc,if_neg G,Zk];exact O
 .rintro σ g ⟨v4,v5,as,rfl,l,C,T⟩;rw[Z4,yS,ZI]at T;exact{1,k _ _ (keep C) {b,as,rfl,.inl (bO M l),aQ.same (fu sb) _ _ T}}
theorem ly(L:Lk K mg):aW P w K mg base cY 5 L.m3 L.mi ["band","many","wide","weights"] (IH K L.aN L.aA):=by
 refine L.iA.F.dP (N:=["band","many","wide","weights","homes","lines","place","blocks"]) (λfI A outer s H vs Q E nd hr h=>?_)
 let{x,d,many,n,m,f,g,u,ss,ls,rfl,B,DL,GB,B7,NV,hd,hw,k}:=h
 have hu:=eP hr
 refine{_,(a6 (bH (ag (g7 L) L.fF (a5 (0) (a5 (1) (aC (2))))))
  (a6 (ai (i:=4) (bR rfl (aq ["weights"] [3]) (aG (AB (0) L.aV.cl L.gg (gG L))) (λ_ _ _ _ _ _=>dh (ck i5 (bS hu (1) (0) (λ_ _=>rfl)) ae)) (λ_ _ _ _ _ _=>(0))))
  (a6 (ai (i:=5) (bB dS))
  (a6 (forA (aG (4)) (az (i:=6)) (a6 (ai (i:=7) (ag (hV L) L.fZ (a5 (0) (a5 (6) (aC (2))))))
  (a9 (bH (fJ ZK ZS ZT cb (5) (aC (eG rfl (aq ["homes"] [4]) (aq ["homes"] [4]) ⋯ (aG (7)) (λ_ _ _ _ _ _=>dh (eZ (fg (K:=K) rfl) (1) (2) rfl)) (λ_ _ _ _ _ _=>(cM (a5 (0) (aC (Ge (K:=K) rfl ZK wdc wf7 (wA (K:=K) rfl) (2) (aC (1))))))))))))))
  (a9 (ao (jb L.u3 (fH L) (hr.mono ⋯) rfl L.rP L.eN.b .nil lU (a5 (4) (a5 (bR rfl (aq ["weights"] [3]) (aG (4)) (λ_ _ _ _ _ _=>b8) (λ_ _ _ _ _ _=>(bS hu (1) (0) (λ_ _=>rfl)))) (aC (5))))))))))),?_}
 ac_rfl
 let{ra,rb,rc,rd,re}:=id NV
 have Hj:g.length^n<=64:=by
  rw[Zy]at re;have:((g.length^n:Nat):Int)<=64:=by rw[Ź];exact re
  lia
 have uF:ls.9<=900:=Zn B.lv.sub.length_le B7;refine{3,x,many,n,g,u,ss,ls,rfl,B,GB,NV,?_}
 let{{dx,b,d0,q,mv,h1,h2,h3,h4,h5,h6},pm,_,_}:=id B
 refine{1,x,dx,1,h1,Hd _ _ _ _ ∅ ∅ ∅ ∅,x,g,u,ss,ls,rfl,B,λlv H1 s1 f1 hv=>?_};refine{lv,rfl,{_,aM.of hv},λS Hk=>?_};refine cV (λv=>match v with |.str p=>decide (0<f p) |_=>false) (λv=>v) (aJ K lv (ls.map V.str)) Hk (by rw[Z4];exact av ()) (λH' s'=>aM.of (s' _ _ hv)) (λz J Q' hz s2 Y=>?_) (λz J Q' hz _ s2 Y=>{1,Y J (a8.refl _)}) (λJ s2 hh=>?_)
 .let{p,hp,rfl}:=Ze.mp hz
  have g3:=dI.rd (k:=(ZA p:Key)) (hd.same (s1.trans s2));rw[cG,hw p hp]at g3;have q2:Q' (decide (0<f p)) J:=Y J (a8.refl _);exact{2,d,1,g3,_,1,rfl,1,q2}
 have Ra:((ls.map V.str).filter (λv=>match v with |.str p=>decide (0<f p) |_=>false)).map (λv=>v)=(aj ls f).map V.str:=by
  rw[Ń,Ļ];rfl
 rw[Ra]at hh;have Rb:(aj ls f).9<=900:=Zn (ă _ _) uF;have NW:∀p∈aj ls f,p∈ls:=λp hp=>(ZG.mp hp).1;have DZ:=s1.trans s2;refine{ZE _,λC D=>?_};have sb:a8 J (upd J C (.lst [])):=a8.upd D;have Z:(upd J C _) C=ρ (.lst []):=a7;generalize upd J C _=Hb at sb Z;have Rc:S≠C:=aa hh D
 refine{1,S,rfl,{_,aM.of (sb _ _ hh)},cn (K:=K) (a:=S) (xs:=(aj ls f).map V.str) (λj σ H3=>∃(v6 v7:Option V) (as:List V),σ=[ρ (.ref x),ρ (.int many),ρ (.int (n:Int)),ρ (.ref d),ρ (.ref S),ρ (.ref C),v6,v7]/\H3 C=ρ (.lst as)/\(∀c o,Hb c=ρ o->c≠C->H3 c=ρ o)/\aQ K (aO Hb H3) (((aj ls f).take j).map λp=>bx (eE g u ss ls n (aj ls f) p)) as)
  {τ,τ,[],rfl,Z,λc o e _=>e,rfl} (λj σ H3 _ {_,_,_,_,_,kk,_}=>aM.of (kk _ _ (sb _ _ hh) Rc)) ?_ ?_}
 .rintro j y σ H3 hy ⟨v6,v7,as,rfl,Rf,kk,hR⟩
  let{p,Hi,rfl,hj,xC,lB}:=eD hy
  have M:a8 J H3:=λc o e=>kk _ _ (sb _ _ e) (aa e D);have B3:=B.same (DZ.trans M);refine{3,x,p,n,g,u,ss,ls,rfl,B3,NW p xC,(),(),DL,GB,λlb rb T G f4 R4=>?_};have I:=G _ _ Rf;have JS:=fQ g u ss ls n p
  have Mf:as.9=j:=by
   rw[hR.len,Z4,Zq]
   lia
  refine{1,.inl {rfl,_,aM.of I},1,lb,rfl,{_,aM.of R4.l},λlc wB=>?_};have O:T S=ρ (.lst ((aj ls f).map V.str)):=G _ _ (M _ _ hh);refine lM (prs:=(aS g u ss ls n p).map i9) (λq=>jY q.2 ((aj ls f).map V.str)) (λq=>.tup [.at q.1,.at (.int (match q.2 with |.str e=>((aj ls f).idxOf e:Nat) |_=>0))]) (aJ K lb (rb.map V.ref)) (by rw[Z4,Z4,R4.len]) (λi q U=>?_) wB (by rw[Z4,R4.len];exact av ()) (λH' s'=>aM.of (s' _ _ R4.l)) (λq R Q' U X Y=>?_) (λq R Q' U Rg X Y=>?_) (λR X r5=>?_)
  .have hi:i<rb.9:=by have:=(Za.mp U).1;rw[Z4,<-R4.len]at this;exact this
   rw[Z9]at U
   cases e:(aS g u ss ls n p)[i]? with
   |none=>rw[e]at U;cases U
   |some z=>
    rw[e]at U;cases U;refine{rb[i],by rw[Z9,Z5 hi];rfl,g8.of (R4.t.2 i rb[i] (jx z) (Z5 hi) (by rw[Z9,e];rfl))}
  .let{z,hz,rfl}:=Ze.mp U
   exact{2,S,1,.inl (aM.of (X _ _ O)),rfl,cR _,1,Y R (a8.refl _)}
  .let{z,hz,rfl}:=Ze.mp U
   have hm:z.2∈aj ls f:=by
    have:jY (.str z.2) ((aj ls f).map V.str)=true:=Rg;rw[iG]at this;exact of_decide_eq_true this
   let{i1,i2}:=iO hm
   refine{2,.inl {rfl,_,aM.of (X _ _ O)},1,S,aj ls f,z.2,(aj ls f).idxOf z.2,rfl,rfl,aM.of (X _ _ O),(),i1,i2,by show 2<=sizeLine;decide,λr hr=>?_};exact Y _ _ (a8.upd hr) (nM hr (z.1,(aj ls f).idxOf z.2))
  have el:((((aS g u ss ls n p).map i9).filter λq=>jY q.2 ((aj ls f).map V.str)).map λq=>gi.tup [.at q.1,.at (.int (match q.2 with |.str e=>((aj ls f).idxOf e:Nat) |_=>0))])=(eE g u ss ls n (aj ls f) p).map eF:=by
   delta eE;rw[Ļ,Zj,Zj]
   have ep:((λq:V×V=>jY q.2 ((aj ls f).map V.str)) ∘ i9)=λq:Str×Str=>decide (q.2∈aj ls f):=by
    funext q;exact iG q.2 _
   rw[ep];rfl
  rw[el]at r5;refine{C,_,1,rfl,X _ _ I,by rw[Mf];exact ß (show j<=900 by lia) (by rw[Ö];decide),?_};have Tj:=G.trans X;have OO:=X _ _ I;have kp:∀c o,R c=ρ o->c≠C->(upd R C (.lst (as++[.ref lc]))) c=ρ o:=λc o e hc=>by rw[af hc];exact e
  refine{_,_,as++[.ref lc],rfl,a7,λc o e hc=>kp _ _ (Tj _ _ (kk c o e hc)) hc,?_};rw[lB,Zk];refine cW (aQ.same ((dm Tj).trans (bu Z kp)) _ _ hR) ?_
  have old:a8 (aO T R) (aO Hb R):=λc o e=>by
   unfold aO at e ⊢
   cases q:Hb c with
   |none=>
    cases q2:T c with
    |none=>rw[q2]at e;exact e
    |some z=>rw[q2]at e;cases e
   |some z=>
    by_cases hc:c=C
    .rw[hc,I]at e;cases e
    .rw[G _ _ (kk _ _ q hc)]at e;cases e
  exact bh.same (old.trans (bu Z kp)) _ _ r5
 .rintro σ H3 ⟨v6,v7,as,rfl,Rf,kk,hR⟩;rw[Z4,ZI]at hR;have M:a8 J H3:=λc o e=>kk _ _ (sb _ _ e) (aa e D);have GC:=DZ.trans M;have LC:=M _ _ hh;refine{2,S,rfl,{_,aM.of LC},λlw LD=>?_};refine comp_map (zx f) (aJ K S ((aj ls f).map V.str)) LD (by rw[Z4];exact av ()) (λH' s'=>aM.of (s' _ _ LC)) (λz T Q' hz G Y=>?_) (λT G JT=>?_)
  .let{p,hp,rfl}:=Ze.mp hz
   have g3:=dI.rd (k:=(ZA p:Key)) (hd.same (GC.trans G));rw[cG,hw p (NW p hp)]at g3;exact{2,d,1,g3,Y T (a8.refl _)}
  rw[gJ]at JT;have I:=G _ _ Rf;have Wu:=G _ _ LC;refine{1,λy dy ny Rh Ww=>?_};have sm:a8 T (upd (upd T dy (.own y)) y (.ins L.aA dy [])):=fq ny Rh;refine{y,dy,.ref S,.ref lw,.ref C,aj ls f,(aj ls f).map f,bt g u ss ls n (aj ls f),rfl,a7,km (sm _ _ Wu),gb (sm _ _ JT),?_,(),by rw[Z4];lia,by unfold bt;rw[Z4];lia,?_,λa' b' c' R Wx r1 r2 r3 Wy=>{rfl,?_}}
  .have Wz:aQ K T ((aj ls f).map λp=>bx (eE g u ss ls n (aj ls f) p)) as:=aQ.same ((cS _ _).trans G) _ _ hR;refine{C,as,rfl,.inl (sm _ _ I),?_}
   have e:(bt g u ss ls n (aj ls f)).map bx=(aj ls f).map λp=>bx (eE g u ss ls n (aj ls f) p):=by
    unfold bt;rw[Zj];rfl
   rw[e];exact aQ.same sm _ _ Wz
  .intro l hl
   let{p,1}:=Ze.mp hl
   have:=A6 g u ss ls n (aj ls f) p
   lia
  .have X:a8 T R:=λc o e=>Wy _ _ (sm _ _ e) (aa e ny);refine k y R (GC.trans (G.trans X)) ?_;have Jj:H y=τ:=none_of (GC.trans G) ny;have nw:=λ(d:gi) (v:V) (r:bh K (aO _ R) d v)=>bh.same (fu ((GC.trans G).trans sm)) d v r;exact{dy,a',b',c',bO Jj Wx,nw _ _ r1,nw _ _ r2,nw _ _ r3}
theorem mB(L:Lk K mg):aW P w K mg base cY 2 L.jm L.ow ["sheet","many"] (Lv K L.aA):=by
 have T:=L.T;refine L.jq.F.dP (N:=["sheet","many","kept","left"]) (λG A outer s H vs Q E nd hr h=>?_)
 let{x,many,hs,ws,b,rfl,S,hn,hm,k}:=h
 have I:(A.deeper (İ "kept_desks" (aD (top 58)) s.heap.objs.size L.jm G)).units<À:=hr.kd
 refine{_,(a6 (ai (i:=2) (bC (zJ rfl) (by rfl) T.list eV (aC (bC y3 (by rfl) T.range Ic (aC (za T.len (aZ (0) rfl)))))))
  (a9 (iI Ŗ (aP bU) (a6 (cN (i:=3) rfl (aq ["sheet","kept","many"] [0,2,1]) nd rfl rfl (aG (2)) (λ_ _ _ _ _ _=>dh (ck Ep (ak (iu (K:=K) rfl) (by rfl) T.len Ī (aC (ag (uJ L) L.oP (a5 (b4 (dU (K:=K) rfl) (rG (K:=K) rfl (1) rfl) (0) (λ_ _=>rfl)) (aC (2)))))) (3))) (λ_ _ _ _ _ _=>(0)))
  (a6 (aT (ck (Es I) (3) (2)) (a9 (ao (2))) aB)
  (a9 (ai (i:=2) (3)))))))),?_}
 ac_rfl
 let{dx,ah,bw,cl,hx,rh,AV,rl}:=id S
 let{OC,J,ec,hc,m}:=id rl
 cases ec;have xl:J.9=b.9:=by rw[m.len,Z4]
 refine{1,x,L.aA,dx,_,1,hx,L.au.cl,L.au.dj,bI ah bw cl,cl,J,rfl,.inl (.inl hc),?_};rw[xl];refine{1,λp hp=>?_};refine{p,b.9,rfl,a7,av (),λl hl=>?_};have s1:a8 H (upd H p (.rng 0 (b.9:Int))):=a8.upd hp;have fl:H l=τ:=none_of s1 hl;have s2:=s1.trans (a8.upd (o:=.lst ((ZF b.9).map λi=>V.int (i:Nat))) hl);have h2:(upd (upd H p (.rng 0 (b.9:Int))) l (.lst ((ZF b.9).map λi=>V.int (i:Nat)))) l=ρ (.lst ((nI (ZF b.9)).map V.int)):=by rw[a7,yg]
 generalize upd (upd H p _) l _=H2 at s2 h2;refine{λq σ M=>∃(l:Addr) (c:List Nat) (v3:Option V),q=c.9/\σ=[ρ (.ref x),ρ (.int many),ρ (.ref l),v3]/\a8 H M/\H l=τ/\M l=ρ (.lst ((nI c).map V.int))/\Above b many c,{_,l,_,τ,rfl,rfl,s2,fl,h2,Above.start b many},?_};rintro q σ M ⟨l,c,v3,rfl,rfl,O,fl,r,t⟩;refine{true,rfl,dC ?_};refine{λu C=>∃(g:Addr),u=[ρ (.ref x),ρ (.int many),ρ (.ref g),ρ (.ref g)]/\a8 H C/\H g=τ/\C g=ρ (.lst ((nI (sP b many c)).map V.int))/\sP b many c≠c,?_,?_}
 .rintro u C ⟨g,rfl,R,U,h',X⟩;exact{_,F8 X,g,_,1,rfl,R,U,h',t.next}
 have Y:∀d∈c,d<b.9:=λd hd=>Í.mp (t.sub.subset hd);have T5:c.9<=1000:=by have:=t.sub.length_le;rw[ZJ]at this;lia
 refine{1,l,rfl,{_,aM.of r},λg z=>?_};refine cV (λv=>match v with |.int d=>decide (many<=((fA c (b.getD d.toNat [])).9:Int)) |_=>false) (λv=>v) (aJ K l _) z (av (by rw[Z4,eC];lia)) (λC R=>aM.of (R _ _ r)) (λy D Q' hy j Z=>?_) (λy D Q' hy _ j Z=>{1,Z D (a8.refl _)}) (λD j h4=>?_)
 .let{n,C4,rfl}:=sT hy
  have Jk:=Y n C4;have hq:b[n]?=ρ (b.getD n []):=by rw[Z8,Z5 Jk];rfl
  let{v,NX,rd}:=m.at (i:=n) (d:=bx (b.getD n [])) (by rw[Z9,hq];rfl)
  have e:=O.trans j;refine{1,x,L.aA,dx,_,1,e _ _ hx,L.au.cl,L.au.dj,bI ah bw cl,1,cl,J,_,1,rfl,e.seq (.inl hc),bz NX,1,v,l,c,b.getD n [],rfl,bh.same e _ _ rd,aM.of (j _ _ r),hm _ (Zv hq),λy H5 s5 r5=>?_}
  let{a,rs,rfl,hS,hT}:=eM r5
  have yS:rs.9=(fA c (b.getD n [])).9:=by rw[hT.1,Z4,Z4]
  refine{a,1,.inl ((cS _ _).seq hS),?_};rw[Z4,yS];exact{1,_,1,rfl,1,Z H5 s5}
 rw[Ń,pG (f:=λn=>decide (many<=((fA c (b.getD n [])).9:Int))) (λn=>rfl)]at h4;have e:=O.trans j;refine{2,g,l,_,1,rfl,aM.of h4,aM.of (j _ _ r),dF _,dF _,1,?_};refine rT (λB=>?_) (λB=>?_)
 .rw[vS,decide_eq_true_eq]at B;exact{1,k l c D e fl (j _ _ r) {t,t.stays B}}
 .rw[vS,decide_eq_true_eq]at B;exact{_,rfl,g,rfl,e,none_of O z,h4,B}
theorem jQ(L:Lk K mg):aW P w K mg base cY 4 L.ky L.kI ["sheet"] (FT K L.aA):=by
 refine L.hF.F.dP (N:=["sheet"]) (λB A outer s H vs Q E nd C h=>?_)
 let{x,D,G,j,rfl,S,I,J,M,O,k}:=h
 refine{_,(a9 (ao (jb L.u3 (fH L) (C.mono ⋯) rfl L.rP L.eN.b .nil lU (a5 (aZ (0) rfl) (a5 (aZ (0) rfl) (aC (aZ (0) rfl))))))),?_}
 ac_rfl
 let{l,g,bw,cl,m,R,n,T}:=id S
 refine{1,x,L.aA,l,_,1,m,L.au.cl,L.au.ib,eu g bw cl,1,x,L.aA,l,_,1,m,L.au.cl,L.au.bY,bL g bw cl,1,x,L.aA,l,_,1,m,L.au.cl,L.au.dj,bI g bw cl,?_};intro y i p q U;have sm:a8 H (upd (upd H i (.own y)) y (.ins L.aA i [])):=fq p q;refine{y,i,.ref g,.ref bw,.ref cl,D,G,j,rfl,a7,bh.same sm _ _ R,bh.same sm _ _ n,bh.same sm _ _ T,I,J,M,O,λX Y Z a d q1 q2 q3 f=>{rfl,?_}};have t:a8 H a:=λc o e=>f _ _ (sm _ _ e) (aa e p);have u:=λ(z:gi) (v:V) (r:bh K (aO _ a) z v)=>bh.same (fu sm) z v r;exact k y a t {i,X,Y,Z,bO p d,u _ _ q1,u _ _ q2,u _ _ q3}
theorem mC(L:Lk K mg):aW P w K mg base cY 5 L.nY L.ot ["self"] (D8 K L.bf L.aA):=by
 refine L.jr.F.dP (N:=["self"]) (λe A outer s H v Q E nd B h=>?_)
 let{x,m,f,C,g,i,d,rfl,{j,a,b,c,z,l,ha,D,hc,S},n,o,p,q,k}:=h
 refine{_,(a9 (ao (ag (jQ L) L.hF (aC (aZ (0) rfl))))),?_}
 ac_rfl
 exact{1,x,L.bf,j,_,1,l,L.bX.cl,L.bX.Fz,zW a b c z,z,g,i,d,rfl,S,n,o,p,q,λy r t u=>k y r t u}
theorem rj(L:Lk K mg):aW P w K mg base cY 2 L.gV L.kM ["_law_weights","_law_blocks","_law_many"] Lj:=by
 have T:=L.T;refine L.kZ.F.dP (N:=["_law_weights","_law_blocks","_law_many","_law_place"]) (λfI A outer s H vs Q E nd hr h=>?_)
 let{B,C,o,ev,f,Bf,ls,many,rfl,hw,a,nn,M,fit,ps,WB,k}:=h
 have O:=eP hr;have Lz:(A.deeper (İ "_law_weighed" (aD (top 83)) s.heap.objs.size L.gV fI)).units<À:=hr.kd
 refine{_,(a6 (aT (PW.pt (cp (bj (aP (ak bb (by rfl) T.ji di (a5 (0) (aC (cw (v:=.ty "dict") (by rfl) T.dict JK rfl)))))) (cU (ck (AD Lz) (ak (jl rfl) (by rfl) T.sorted nE (aC (0))) (ak (jl rfl) (by rfl) T.sorted nE (aC (1))))))) (a9 (ao bU)) aB)
  (a6 (aT (bj (aP (ak (gP rfl) (by rfl) T.all zZ (aC (bR rfl (aq ["_law_weights"] [0]) (ie (1)) (λ_ _ _ _ _ _=>b8) (λ_ _ _ _ _ _=>(ag (cP L) L.cK (a5 (bS O (1) (0) (λ_ _=>rfl)) (a5 ae (aC ae)))))))))) (a9 (ao bU)) aB)
  (a6 (forA (ie (1)) (az (i:=3)) (a9 (aT (ck gO (ak (g9 rfl) (by rfl) T.sum x6 (aC (eG rfl (aq ["_law_weights"] [0]) (aq ["_law_weights"] [0]) ⋯ (aG (bS O (1) (3) (λ_ _=>rfl))) (λ_ _ _ _ _ _=>b8) (λ_ _ _ _ _ _=>(bS O (2) (1) (λ_ _=>rfl)))))) (aF dW (2) (bS O (0) (3) (λ_ _=>rfl)))) (a9 (ao bU)) aB)))
  (a9 (ao (y8 gO Bv ae (ak (g9 rfl) (by rfl) T.sum x6 (aC (bR rfl (aq ["_law_weights"] [0]) (ie (1)) (λ_ _ _ _ _ _=>b8) (λ_ _ _ _ _ _=>(bS O (1) (0) (λ_ _=>rfl)))))) ae)))))),?_}
 ac_rfl
 have WC:=a.few
 have u:∀{m:Hp},a8 H m->∀p∈ls,dI m B (.str p) (ρ (.int (f p))):=λ{m} b p D=>by
  have g3:=dI.k (k:=(ZA p:Key)) (b _ _ hw);rwa[cG,fY f ls p D]at g3
 have J:=fO C o (bM ev);rw[fM,a.k]at J;refine{1,_,_,_,true,rfl,dD.dK hw,rfl,true,rfl,aU ?_};refine{1,B,_,ls,rfl,.inl hw,KW f ls,1.0,λl1 S JU WD WG=>?_}
 let{s1,h1}:=cJ (H:=H) (o:=.lst (S.map V.str)) JU
 generalize upd H l1 _=H1 at s1 h1;refine{1,C,_,ls,rfl,.inr {o,s1 _ _ a.d},FC a.k,1.0,λl2 U E1 WH WK=>?_}
 let{s2,h2}:=cJ (H:=H1) (o:=.lst (U.map V.str)) E1
 generalize upd H1 l2 _=H2 at s2 h2;obtain rfl:S=U:=tG WG WK (wde _) (WD.trans WH.symm);refine{l1,l2,_,1,rfl,aM.of (s2 _ _ h1),aM.of h2,cR _,cR _,false,by rw[pA,decide_eq_true rfl];rfl,aU ?_};have x:=s1.trans s2;refine{1,C,1,.inr {o,x _ _ a.d,λlc wB=>?_}};refine comp_map (λ_=>V.bl true) J wB (by rw[Z4];exact av 1.0) (λm b=>(x.trans b) _ _ a.d) (λz m Q' X b G=>?_) (λH3 s3 h3=>?_)
 .let{p,D,rfl}:=Ze.mp X
  exact⟨_,rfl,_,rfl,B,_,rfl,u (x.trans b) p D,f p,0,8,rfl,nn p D,M p D,G m (a8.refl _)⟩
 rw[A8]at h3;refine{lc,1,aM.of h3,true,congrArg V.bl (A9 _),aU ?_};have Y:=x.trans s3;refine{1,C,1,.inr {o,Y _ _ a.d,?_}};refine ke J (λj σ Z=>∃v3:Option V,σ=[ρ (.ref B),ρ (.ref C),ρ (.int many),v3]/\a8 H Z) ⟨τ,rfl,Y⟩ (λj σ Z _ {_,_,c}=>c _ _ a.d) ?_ ?_
 .rintro j y σ Z hy ⟨v3,rfl,c⟩
  let{p,Hi,rfl,hj,g,lB}:=eD hy
  have Tl:=a.same c
  let{lb,ha,hv}:=fN (mv:=ev) (k:=p) (by rw[a.k];exact g)
  have e1:=dI.f (k:=(ZA p:Key)) Tl.d;rw[hv]at e1
  let{rs,R}:=Tl.r _ ha
  have R:cD Z lb rs (Bf p):=R;have JS:=a.n p;have yS:=R.len;refine{2,C,1,e1,lb,rfl,{_,aM.of R.l},λld I=>?_};refine fR (prs:=(Bf p).map i9) (λ_=>true) (λq=>match q.2 with |.str e=>.int (f e) |_=>.non) (aJ K lb (rs.map V.ref)) (by rw[wY];exact R.t) I (av 1.0) (λm b=>aM.of (b _ _ R.l)) (λq H7 Q' _ _ G=>G H7 (a8.refl _)) (λq H7 Q' hq _ s7 G=>?_) (λH7 s7 h7=>?_)
  .let{z,X,rfl}:=Ze.mp hq
   have q2:Q' (.int (f z.2)) H7:=G H7 (a8.refl _);exact{2,B,1,u (c.trans s7) z.2 (a.e p z X),q2}
  have e7:(((Bf p).map i9).filter λ_=>true).map (λq=>match q.2 with |.str e=>V.int (f e) |_=>.non)=((Bf p).map λq=>f q.2).map V.int:=by
   rw[ù.mpr (λ_ _=>rfl),Zj,Zj];rfl
  rw[e7]at h7;have Ax:=fit p g;have h0:=nn p g;have h8:=M p g;refine{ld,1,aM.of h7,3,B,1,u (c.trans s7) p g,_,1,rfl,.inr {1.0,1.0},_,1,rfl,false,congrArg V.bl (decide_eq_false 1.0),aU {_,rfl,c.trans s7}}
 .rintro σ Z ⟨v3,rfl,c⟩;refine{1,C,1,.inr {o,c _ _ a.d,λld I=>?_}};refine comp_map (zx f) J I (by rw[Z4];exact av 1.0) (λm b=>(c.trans b) _ _ a.d) (λz m Q' X b G=>?_) (λH5 s5 h5=>?_)
  .let{p,D,rfl}:=Ze.mp X
   exact{2,B,1,u (c.trans b) p D,G m (a8.refl _)}
  rw[gJ]at h5;have k':=k H5 (c.trans s5);rw[<-decide_eq_true WB]at k';exact{ld,1,aM.of h5,_,1,rfl,true,congrArg V.bl (decide_eq_true ps),dC {_,1,rfl,k'}}
theorem uO(L:Lk K mg):aW P w K mg base cY 1 L.oa L.oH ["_law_weights","_law_blocks"] (Ln K):=by
 have T:=L.T;refine L.oX.F.dP (N:=["_law_weights","_law_blocks","_law_homes","_law_lines","_law_place"]) (λfI A outer s H vs Q E nd hr h=>?_)
 let{dw,db,o,ev,f,g,J,ss,ls,n,rfl,hw,BK,so,sub,k}:=h
 have hu:=eP hr
 refine{_,(a6 (ai (i:=2) (bR rfl (aq ["_law_weights"] [0]) (aG (ak (jl rfl) (by rfl) T.sorted nE (aC (1)))) (λ_ _ _ _ _ _=>dh (ck i5 (bS hu (1) (0) (λ_ _=>rfl)) ae)) (λ_ _ _ _ _ _=>(0))))
  (a6 (ai (i:=3) (bB dS))
  (a6 (forA (aG (2)) (az (i:=4)) (a9 (bH (fJ ZK ZS ZT cb (3) (aC (eG rfl (aq ["_law_homes","_law_weights"] [2,0]) (aq ["_law_homes","_law_weights"] [2,0]) ⋯ (aG (bS hu (1) (4) (λ_ _=>rfl))) (λ_ _ _ _ _ _=>dh (ck i5 (bS hu (3) (1) (λ_ _=>rfl)) ae)) (λ_ _ _ _ _ _=>(cM (a5 (0) (aC (Ge (K:=K) rfl ZK wdc wf7 (wA (K:=K) rfl) (2) (aC (1)))))))))))))
  (a9 (ao (cM (a5 (2) (a5 (bR rfl (aq ["_law_weights"] [0]) (aG (2)) (λ_ _ _ _ _ _=>b8) (λ_ _ _ _ _ _=>(bS hu (1) (0) (λ_ _=>rfl)))) (aC (3)))))))))),?_}
 ac_rfl
 have uF:=BK.few
 have Ri:∀{H':Hp},a8 H H'->∀p∈ls,dI H' dw (.str p) (ρ (.int (f p))):=λ{H'} s' p M=>by
  have g3:=dI.k (k:=(ZA p:Key)) (s' _ _ hw);rwa[cG,fY f ls p M]at g3
 refine{1,db,_,ls,rfl,.inr ⟨o,BK.d⟩,FC BK.k,1.0,λlo os Ke WL WM=>?_};obtain rfl:os=ls:=tG WM so sub WL
 let{s1,B}:=cJ (H:=H) (o:=.lst (os.map V.str)) Ke
 generalize upd H lo _=H1 at s1 B;refine{lo,rfl,{_,aM.of B},λO Ji=>?_};refine cV (λv=>match v with |.str p=>decide (0<f p) |_=>false) (λv=>v) (aJ K lo (os.map V.str)) Ji (by rw[Z4];exact av 1.0) (λH' s'=>aM.of (s' _ _ B)) (λz R Q' X OQ S=>?_) (λz R Q' X _ OQ S=>{1,S R (a8.refl _)}) (λH2 s2 hh=>?_)
 .let{p,M,rfl}:=Ze.mp X
  have q2:Q' (decide (0<f p)) R:=S R (a8.refl _);exact{2,dw,1,Ri (s1.trans OQ) p M,_,1,rfl,1,q2}
 have Ra:((os.map V.str).filter (λv=>match v with |.str p=>decide (0<f p) |_=>false)).map (λv=>v)=(aj os f).map V.str:=by
  rw[Ń,Ļ];rfl
 rw[Ra]at hh;have Rb:(aj os f).9<=60:=Zn (ă _ _) uF;have Y:∀p∈aj os f,p∈os:=λp M=>(ZG.mp M).1;have DZ:=s1.trans s2;refine{ZE _,λu b=>?_}
 let{sb,U}:=cJ (H:=H2) (o:=.lst []) b
 generalize upd H2 u _=Hb at sb U;have Rc:O≠u:=aa hh b
 refine{1,O,rfl,{_,aM.of (sb _ _ hh)},cn (K:=K) (a:=O) (xs:=(aj os f).map V.str) (λj σ m=>∃(v4:Option V) (as:List V),σ=[ρ (.ref dw),ρ (.ref db),ρ (.ref O),ρ (.ref u),v4]/\m u=ρ (.lst as)/\(∀c o,Hb c=ρ o->c≠u->m c=ρ o)/\aQ K (aO Hb m) (((aj os f).take j).map λp=>bx (eE g J ss os n (aj os f) p)) as)
  {_,[],rfl,U,λc o e _=>e,rfl} (λj σ m _ {_,_,_,_,kk,_}=>aM.of (kk _ _ (sb _ _ hh) Rc)) ?_ ?_}
 .rintro j y σ m hy ⟨v4,as,rfl,C,kk,hR⟩
  let{p,Hi,rfl,hj,xC,lB}:=eD hy
  have D:a8 H2 m:=λc o e=>kk _ _ (sb _ _ e) (aa e b);have G:=DZ.trans D;have Tn:=BK.same G
  let{lb,ha,hv}:=fN (mv:=ev) (k:=p) (by rw[BK.k];exact Y p xC)
  have e1:=dI.f (k:=(ZA p:Key)) Tn.d;rw[hv]at e1
  let{I,R4}:=Tn.r _ ha
  have R4:cD m lb I (aS g J ss os n p):=R4;have JS:=BK.n p;have yS:=R4.len
  have Mf:as.9=j:=by
   rw[hR.len,Z4,Zq];omega
  refine{1,.inl {rfl,_,aM.of C},2,db,1,e1,lb,rfl,{_,aM.of R4.l},λlc wB=>?_};have Z:m O=ρ (.lst ((aj os f).map V.str)):=D _ _ hh;refine lM (prs:=(aS g J ss os n p).map i9) (λq=>match q.2 with |.str e=>decide (0<f e) |_=>false) (λq=>.tup [.at q.1,.at (.int (match q.2 with |.str e=>((aj os f).idxOf e:Nat) |_=>0))]) (aJ K lb (I.map V.ref)) (by rw[Z4,Z4,R4.len]) (λi q x=>?_) wB (by rw[Z4,R4.len];exact av 1.0) (λH' s'=>aM.of (s' _ _ R4.l)) (λq H5 Q' x s5 S=>?_) (λq H5 Q' x Rg s5 S=>?_) (λH5 s5 r5=>?_)
  .have hi:i<I.9:=by have:=(Za.mp x).1;rw[Z4,<-R4.len]at this;exact this
   rw[Z9]at x
   cases e:(aS g J ss os n p)[i]? with
   |none=>rw[e]at x;cases x
   |some z=>
    rw[e]at x;cases x;refine{I[i],by rw[Z9,Z5 hi];rfl,g8.of (R4.t.2 i I[i] (jx z) (Z5 hi) (by rw[Z9,e];rfl))}
  .let{z,X,rfl}:=Ze.mp x
   have q2:Q' (decide (0<f z.2)) H5:=S H5 (a8.refl _);exact{2,dw,1,Ri (G.trans s5) z.2 (cf X),_,1,rfl,1,q2}
  .let{z,X,rfl}:=Ze.mp x
   have hm:z.2∈aj os f:=by
    have h1:decide (0<f z.2)=true:=Rg;rw[<-vP (cf X)]at h1;exact of_decide_eq_true h1
   let{i1,i2}:=iO hm
   refine{2,.inl {rfl,_,aM.of (s5 _ _ Z)},1,O,aj os f,z.2,(aj os f).idxOf z.2,rfl,rfl,aM.of (s5 _ _ Z),1.0,i1,i2,by show 2<=sizeLine;decide,λr hr=>?_};exact S _ _ (a8.upd hr) (nM hr (z.1,(aj os f).idxOf z.2))
  have el:((((aS g J ss os n p).map i9).filter λq=>match q.2 with |.str e=>decide (0<f e) |_=>false).map λq=>gi.tup [.at q.1,.at (.int (match q.2 with |.str e=>((aj os f).idxOf e:Nat) |_=>0))])=(eE g J ss os n (aj os f) p).map eF:=by
   delta eE;rw[Ļ,Zj,Zj];have ep:∀q∈aS g J ss os n p,(((λq:V×V=>match q.2 with |.str e=>decide (0<f e) |_=>false) ∘ i9) q)=decide (q.2∈aj os f):=λq x=>(vP (cf x)).symm;rw[wdj ep];rfl
  rw[el]at r5;have OO:=s5 _ _ C;refine{u,_,1,rfl,OO,by rw[Mf];exact ß (show j<=900 by omega) (by rw[Ö];decide),?_};have kp:∀c o,H5 c=ρ o->c≠u->(upd H5 u (.lst (as++[.ref lc]))) c=ρ o:=λc o e hc=>by rw[af hc];exact e
  refine{_,as++[.ref lc],rfl,a7,λc o e hc=>kp _ _ (s5 _ _ (kk c o e hc)) hc,?_};rw[lB,Zk];refine cW (aQ.same ((dm s5).trans (bu U kp)) _ _ hR) ?_
  have old:a8 (aO m H5) (aO Hb H5):=λc o e=>by
   unfold aO at e ⊢
   cases q:Hb c with
   |none=>
    cases q2:m c with
    |none=>rw[q2]at e;exact e
    |some z=>rw[q2]at e;cases e
   |some z=>
    by_cases hc:c=u
    .rw[hc,C]at e;cases e
    .rw[kk _ _ q hc]at e;cases e
  exact bh.same (old.trans (bu U kp)) _ _ r5
 .rintro σ m ⟨v4,as,rfl,C,kk,hR⟩;rw[Z4,ZI]at hR;have D:a8 H2 m:=λc o e=>kk _ _ (sb _ _ e) (aa e b);have G:=DZ.trans D;have LC:=D _ _ hh
  have WN:bh K m (gu (bt g J ss os n (aj os f))) (.ref u):=by
   refine{u,as,rfl,.inl C,?_}
   have e:(bt g J ss os n (aj os f)).map bx=(aj os f).map λp=>bx (eE g J ss os n (aj os f) p):=by
    unfold bt;rw[Zj];rfl
   rw[e];exact aQ.same (cS _ _) _ _ hR
  refine{2,O,rfl,{_,aM.of LC},λlw LD=>?_};refine comp_map (zx f) (aJ K O ((aj os f).map V.str)) LD (by rw[Z4];exact av 1.0) (λH' s'=>aM.of (s' _ _ LC)) (λz H4 Q' X s4 S=>?_) (λH4 s4 JT=>?_)
  .let{p,M,rfl}:=Ze.mp X
   exact{2,dw,1,Ri (G.trans s4) p (Y p M),S H4 (a8.refl _)}
  rw[gJ]at JT;refine{1,by show 3<=sizeLine;decide,λp M=>?_};have sp:a8 H4 (upd H4 p (.tup [.ref O,.ref lw,.ref u])):=a8.upd M;exact k p _ ((G.trans s4).trans sp) {p,1,a7,_,1,km (sp _ _ (s4 _ _ LC)),_,1,gb (sp _ _ JT),_,1,bh.same (s4.trans sp) _ _ WN,rfl}
theorem pd(L:Lk K mg):aW P w K mg base cY 1 L.qD L.qL ["_law_lines","_law_weights","_law_desk","_law_numbers"] (IU K):=by
 have T:=L.T;refine L.la.F.dP (N:=["_law_lines","_law_weights","_law_desk","_law_numbers","_law_some","_law_others_here","_law_sums"]) (λfI A outer s H vs Q E nd hr h=>?_)
 let{al,aw,an,d,ns,ws,lns,qs,rfl,rl,AV,hA,WO,DM,GD,k}:=h
 refine{_,(a6 (cN (i:=4) rfl (aq ["_law_lines","_law_desk","_law_numbers"] [0,2,3]) nd rfl rfl (cy rfl T.range (aC (za T.len (b4 bA (0) (2) (λ_ _=>rfl))))) (λ_ _ _ _ _ _=>dh (eZ (fg (K:=K) rfl) (0) (3) rfl)) (λ_ _ _ _ _ _=>(b4 (dU (K:=K) rfl) (b4 (dU (K:=K) rfl) (1) (2) (λ_ _=>rfl)) (0) (λ_ _=>rfl))))
  (a6 (cN (i:=5) rfl (aq ["_law_lines","_law_desk","_law_numbers"] [0,2,3]) nd rfl rfl (cy rfl T.range (aC (za T.len (b4 bA (0) (2) (λ_ _=>rfl))))) (λ_ _ _ _ _ _=>dh (eZ (lV (K:=K) rfl) (0) (3) rfl)) (λ_ _ _ _ _ _=>(b4 (dU (K:=K) rfl) (b4 (dU (K:=K) rfl) (1) (2) (λ_ _=>rfl)) (0) (λ_ _=>rfl))))
  (a6 (cN (i:=6) rfl (aq ["_law_weights"] [1]) nd rfl rfl (aG (bB (a5 (4) (aC (5))))) (λ_ _ _ _ _ _=>b8) (λ_ _ _ _ _ _=>(ak (Cy (K:=K) rfl rfl) (by rfl) T.sum x6 (aC (Dt (K:=K) rfl rfl (mK (N:=["_law_line","_law_weights"]) (ys:=["_law_weights"]) (ix:=[1]) rfl rfl (by kernel_rfl)) (mK (N:=["_law_line","_law_weights"]) (ys:=["_law_weights"]) (ix:=[1]) rfl rfl (by kernel_rfl)) ⋯ (EC (K:=K) rfl (0)) (λ_ _ _ _ _ _=>b8) (λ_ _ _ _ _ _=>(b4 (dU (K:=K) rfl) (2) (1) (λ_ _=>rfl))))))))
  (a9 (ao (cM (a5 (4) (a5 (5) (aC (6)))))))))),?_}
 ac_rfl
 let{To,xs,ec,hc,ux}:=id rl
 cases ec;have hw:=lK AV
 let{y0,Jj,rd}:=ux.at (i:=d) (d:=bx qs) (by rw[Z9,WO];rfl)
 let{ay,ys,rfl,Mg,zc}:=rd
 have yl:ys.9=qs.9:=by rw[zc.len,Z4]
 have Jl:lQ xs (d:Int)=ρ (.ref ay):=bz Jj
 have hg:∀(i:Nat) (x:V),ys[i]?=ρ x->(λv:V=>match v with |.int i=>ys.getD i.toNat .non |_=>.non) (.int (0+(i:Nat)))=x:=λi x hx=>by
  show ys.getD (0+((i:Nat):Int)).toNat .non=x;rw[Ą,Zy,Z8,hx];rfl
 refine{2,al,xs,_,1,rfl,.inl hc,Jl,ay,ys,rfl,.inl (.inl Mg),1,1.0,1.0,λl1 JU=>?_};rw[Zy];refine cV (λv=>jY v (ns.map V.int)) (λv=>match v with |.int i=>ys.getD i.toNat .non |_=>.non) (f9 0 ys.9) JU (by rw[Z4,ZJ];exact av 1.0) (λ_ _=>trivial) (λz H1 Q' hz s1 qq=>?_) (λz H1 Q' hz _ s1 qq=>?_) (λH1 s1 h1=>?_)
 .let{i,hi,rfl}:=Ze.mp hz
  exact{2,an,1,.inl (s1.seq hA),rfl,dF ns,1,qq H1 (a8.refl _)}
 .let{i,hi,rfl}:=Ze.mp hz
  have M9:i<ys.9:=Í.mp hi
  have e1:lQ ys (0+(i:Int))=ρ ((λv:V=>match v with |.int i=>ys.getD i.toNat .non |_=>.non) (.int (0+(i:Nat)))):=by
   rw[hg i _ (Z5 M9),Ą];exact bz (Z5 M9)
  exact{2,al,xs,_,1,rfl,s1.seq (.inl hc),Jl,1,ay,ys,_,1,rfl,s1.seq (.inl Mg),e1,qq H1 (a8.refl _)}
 rw[t8 (xs:=ys) (λi=>decide ((i:Int)∈ns)) _ _ (λi=>by show jY _ _=_;rw[iH,Ą]) hg]at h1;refine{2,al,xs,_,1,rfl,s1.seq (.inl hc),Jl,ay,ys,rfl,.inl (s1.seq (.inl Mg)),1,1.0,1.0,λl2 E1=>?_};rw[Zy];refine cV (λv=>!jY v (ns.map V.int)) (λv=>match v with |.int i=>ys.getD i.toNat .non |_=>.non) (f9 0 ys.9) E1 (by rw[Z4,ZJ];exact av 1.0) (λ_ _=>trivial) (λz H2 Q' hz s2 qq=>?_) (λz H2 Q' hz _ s2 qq=>?_) (λH2 s2 h2=>?_)
 .let{i,hi,rfl}:=Ze.mp hz
  exact{2,an,1,.inl ((s1.trans s2).seq hA),rfl,dF ns,1,qq H2 (a8.refl _)}
 .let{i,hi,rfl}:=Ze.mp hz
  have M9:i<ys.9:=Í.mp hi
  have e1:lQ ys (0+(i:Int))=ρ ((λv:V=>match v with |.int i=>ys.getD i.toNat .non |_=>.non) (.int (0+(i:Nat)))):=by
   rw[hg i _ (Z5 M9),Ą];exact bz (Z5 M9)
  exact{2,al,xs,_,1,rfl,(s1.trans s2).seq (.inl hc),Jl,1,ay,ys,_,1,rfl,(s1.trans s2).seq (.inl Mg),e1,qq H2 (a8.refl _)}
 rw[t8 (xs:=ys) (λi=>!decide ((i:Int)∈ns)) _ _ (λi=>by show (!jY _ _)=_;rw[iH,Ą]) hg]at h2;have DZ:=s1.trans s2;have NY:l1≠l2:=aa h1 E1;have r1:bh K H2 (bx (aI ns qs)) (.ref l1):={l1,1,.inl (s2 _ _ h1),nN _ (aQ.same DZ _ _ zc)};have r2:bh K H2 (bx (aH ns qs)) (.ref l2):={l2,1,.inl h2,nN _ (aQ.same DZ _ _ zc)};refine{2,by show 2<=sizeLine;decide,λl3 JE=>{l3,rfl,{_,aM.of a7},λlu NZ=>?_}};have LI:a8 H2 (upd H2 l3 (.lst [.ref l1,.ref l2])):=a8.upd JE;have h3:(upd H2 l3 (.lst [.ref l1,.ref l2])) l3=ρ (.lst [.ref l1,.ref l2]):=a7;generalize upd H2 l3 (.lst [.ref l1,.ref l2])=H3 at LI h3 NZ;refine comp_map (λv=>if v=.ref l1 then .int (aL ws (aI ns qs)) else .int (aL ws (aH ns qs))) (aJ K l3 [.ref l1,.ref l2]) NZ (by show 2<=sizeLine;decide) (λH' s'=>aM.of (s' _ _ h3)) (λz H4 Q' hz s4 qq=>?_) (λH4 s4 h4=>?_)
 .obtain⟨lx,qx,rfl,WQ,WR,YL,eS⟩:∃lx qx,z=.ref lx/\bh K H4 (bx qx) (.ref lx)/\(∀q∈qx,q.2<ws.9)/\qx.9<=10000/\(if (z=.ref l1) then V.int (aL ws (aI ns qs)) else .int (aL ws (aH ns qs)))=.int (aL ws qx):=by
   rcases ZD.mp hz with e |hz
   .exact{l1,_,e,bh.same (LI.trans s4) _ _ r1,λq hq=>GD q (fo hq),Zn (fm _ _ _) DM,by rw[if_pos e]}
   .have e:=Zz.mp hz;exact{l2,_,e,bh.same (LI.trans s4) _ _ r2,λq hq=>GD q (fo hq),Zn (fm _ _ _) DM,by rw[if_neg (by rw[e];exact λh=>NY (V.ref.inj h).symm)]}
  let{ax,rs,ex,hS,hT}:=eM WQ
  cases ex;have yS:rs.9=qx.9:=by rw[hT.1,Z4,Z4]
  refine{1,lx,rfl,{_,hS},λlc wB=>?_};refine fR (prs:=qx.map ee) (λ_=>true) (λq=>match q.2 with |.int e=>.int (ws.getD e.toNat 0) |_=>.non) (aJ K lx (rs.map V.ref)) hT wB (av 1.0) (λH' s'=>s'.seq hS) (λq H7 Q' _ _ qq=>qq H7 (a8.refl _)) (λq H7 Q' hq _ s7 qq=>?_) (λH7 s7 h7=>?_)
  .let{q',OS,rfl}:=Ze.mp hq
   have zb:=WR q' OS;have Rj:lQ (ws.map V.int) (q'.2:Int)=ρ (.int (ws.getD q'.2 0)):=bz (by rw[Z9,Z5 zb,Z8,Z5 zb];rfl)
   have q2:Q' (.int (ws.getD q'.2 0)) H7:=by
    have:=qq H7 (a8.refl _);rwa[show (ee q').2=.int (q'.2:Int) from rfl]at this
   exact{2,aw,_,_,1,rfl,(((DZ.trans LI).trans s4).trans s7).seq (.inl hw),Rj,q2}
  have e7:((qx.map ee).filter λ_=>true).map (λq=>match q.2 with |.int e=>V.int (ws.getD e.toNat 0) |_=>.non)=(qx.map λq=>ws.getD q.2 0).map V.int:=by
   rw[ù.mpr (λ_ _=>rfl),Zj,Zj];rfl
  rw[e7]at h7;have q2:=qq H7 s7;rw[eS]at q2;exact{lc,_,rfl,aM.of h7,q2}
 have e4:([.ref l1,.ref l2]:List V).map (λv=>if v=V.ref l1 then V.int (aL ws (aI ns qs)) else .int (aL ws (aH ns qs)))=[.int (aL ws (aI ns qs)),.int (aL ws (aH ns qs))]:=by
  show [if V.ref l1=V.ref l1 then V.int (aL ws (aI ns qs)) else .int (aL ws (aH ns qs)),if V.ref l2=V.ref l1 then V.int (aL ws (aI ns qs)) else .int (aL ws (aH ns qs))]=_;rw[if_pos rfl,if_neg (λh=>NY (V.ref.inj h).symm)]
 rw[e4]at h4;have Rk:=LI.trans s4;refine{3,by show 3<=sizeLine;decide,λp hp=>?_};have sp:a8 H4 (upd H4 p (.tup [.ref l1,.ref l2,.ref lu])):=a8.upd hp;exact k p l1 l2 lu _ ((DZ.trans Rk).trans sp) a7 (bh.same (Rk.trans sp) _ _ r1) (bh.same (Rk.trans sp) _ _ r2) (sp _ _ h4)
theorem iX(L:Lk K mg):aW P w K mg base cY 1 L.jE L.jI ["_law_found","_law_due"] (Ag K L.aA):=by
 have T:=L.T;refine L.gy.F.dP (N:=["_law_found","_law_due"]) (λfI A outer s H vs Q E nd hr h=>?_)
 let{x,v,hs,y,g,rfl,S,C,n1,n2,n3,k}:=h
 have D:=Kh hr
 refine{_,(a6 (aT (PW.pt (cp (bj (aP (ak wa (by rfl) T.ji di (a5 (0) (aC (bV (v:=.ref L.aA) (by rfl) L.rP rfl)))))) (cp (bj (aP (ak bb (by rfl) T.ji di (a5 (aZ (0) rfl) (aC (cw (v:=.ty "list") (by rfl) T.list eV rfl)))))) (cU (bj (aP (ak bb (by rfl) T.ji di (a5 (aZ (0) rfl) (aC (cw (v:=.ty "list") (by rfl) T.list eV rfl)))))))))) (a9 (ao bU)) aB)
  (a6 (aT (PW.pt (cp (bj (aP (ak bb (by rfl) T.ji di (a5 (aZ (0) rfl) (aC (cw (v:=.ty "list") (by rfl) T.list eV rfl)))))) (cU (bj (aP (ak (gP rfl) (by rfl) T.all zZ (aC (bR rfl (aq [] []) (aG (aZ (0) rfl)) (λ_ _ _ _ _ _=>b8) (λ_ _ _ _ _ _=>(ak (jk (K:=K) rfl) (by rfl) T.ji di (a5 (0) (aC (cw (v:=.ty "list") (by rfl) T.list eV rfl))))))))))))) (a9 (ao bU)) aB)
  (a6 (aT (bj (aP (ak (gP rfl) (by rfl) T.all zZ (aC (bR rfl (aq [] []) (aG (aZ (0) rfl)) (λ_ _ _ _ _ _=>b8) (λ_ _ _ _ _ _=>(j7 (ak (jk (K:=K) rfl) (by rfl) T.ji di (a5 (0) (aC (cw (v:=.ty "int") (by rfl) T.int KI rfl)))) (j2 (wL (ak (jk (K:=K) rfl) (by rfl) T.ji di (a5 (0) (aC (cw (v:=.ty "bool") (by rfl) T.bool Fh rfl))))))))))))) (a9 (ao bU)) aB)
  (a9 (ao (eY (J7 D) (cM (a5 (aZ (0) rfl) (a5 (aZ (0) rfl) (aC (aZ (0) rfl))))) (1) (ip _))))))),?_}
 ac_rfl
 let{j,a,b,c,m,G,I,rc}:=S
 let{a',o,ha}:=nL G
 cases o
 let{b',J,hb}:=fE I
 cases J
 let{_,xa,o,M,_}:=id G
 cases o
 let{_,xb,J,O,_}:=id I
 cases J
 let{c',R,ec,hc,u}:=id rc
 cases ec;have xl:R.9=g.9:=by rw[u.len,Z4]
 refine{_,rfl,x,L.aA,j,1,m,L.au.cl,L.J9,L.Gh,true,rfl,aU ?_};refine{1,x,L.aA,j,_,1,m,L.au.cl,L.au.ib,eu a b c,_,_,_,true,rfl,dD.rd M,rfl,true,rfl,aU ?_};refine{1,x,L.aA,j,_,1,m,L.au.cl,L.au.bY,bL a b c,_,_,_,true,rfl,dD.rd O,rfl,true,rfl,aU ?_};refine{1,x,L.aA,j,_,1,m,L.au.cl,L.au.dj,bI a b c,_,_,_,true,rfl,dD.rd hc,rfl,true,rfl,aU ?_};refine{1,x,L.aA,j,_,1,m,L.au.cl,L.au.dj,bI a b c,c,rfl,{_,.inl hc},λl1 U=>?_};refine comp_map (λ_=>V.bl true) (aJ K c R) U (av 1.0) (λH' X=>X.seq (.inl hc)) (λz H2 Q' Y t Z=>?_) (λH2 t h2=>?_)
 .let{i,hi,rfl}:=ĥ Y
  let{d,hd,r}:=u.get i _ (Z5 hi)
  rw[Z9]at hd
  cases e:g[i]? with
  |none=>rw[e]at hd;cases hd
  |some qs=>
   rw[e]at hd;cases hd
   let{al,ys,el,Mf,_}:=r
   rw[el];exact{1,_,_,_,true,rfl,dD.rd (hZ t Mf),rfl,Z H2 (a8.refl _)}
 have et:∀l:List V,l.map (λ_=>V.bl true)=(l.map λ_=>true).map V.bl:=λl=>by rw[Zj];rfl
 have o:∀l:List V,((l.map λ_=>true).all id)=true:=λl=>by rw[œ];exact ZM.mpr λ_ _=>rfl
 rw[et]at h2;refine{l1,1,aM.of h2,true,congrArg V.bl (o R),aU ?_};refine{1,x,L.aA,j,_,1,t _ _ m,L.au.cl,L.au.bY,bL a b c,b,rfl,{_,t.seq hb},λl2 E1=>?_};refine comp_map (λ_=>V.bl true) (aJ K b (y.map V.int)) E1 (by rw[Z4];exact av 1.0) (λH' X=>(t.trans X).seq hb) (λz B Q' Y s3 Z=>?_) (λB s3 h3=>?_)
 .let{q,1}:=Ze.mp Y
  exact{1,_,_,_,true,rfl,dD.int q,rfl,true,rfl,dC {1,_,_,_,false,rfl,dD.int q,rfl,false,rfl,Z B (a8.refl _)}}
 rw[et]at h3;refine{l2,1,aM.of h3,true,congrArg V.bl (o (y.map V.int)),aU ?_};have n:=t.trans s3;refine{1,x,L.aA,j,_,1,n _ _ m,L.au.cl,L.au.ib,eu a b c,1,x,L.aA,j,_,1,n _ _ m,L.au.cl,L.au.bY,bL a b c,1,x,L.aA,j,_,1,n _ _ m,L.au.cl,L.au.dj,bI a b c,by show 3<=sizeLine;decide,λp hp=>?_};have sp:a8 B (upd B p (.tup [.ref a,.ref b,.ref c])):=a8.upd hp;have f:=n.trans sp;exact{1,[jA hs,fL y,gu g],Ah hs y g,.inr {{p,1,a7,.ref a,[.ref b,.ref c],rfl,bh.same f _ _ G,.ref b,[.ref c],rfl,bh.same f _ _ I,.ref c,[],rfl,bh.same f _ _ rc,rfl},bh.same f _ _ C},k _ f}
theorem pX(L:Lk K mg):aW P w K mg base cY 2 L.gx L.jJ ["_law_told","_law_here","_law_many"] (La K):=by
 have T:=L.T;refine L.jL.F.dP (N:=["_law_told","_law_here","_law_many","_law_homes","_law_weights","_law_lines","_law_desk","_law_numbers","_law_weight","_law_some","_law_others_here","_law_sums"]) (λU A outer s H vs Q E nd hr h=>?_)
 let{t,q,d,ns,wt,many,hs,O,b,rfl,rt,rq,R,ok,X,Y,m0,m8,k}:=h
 have g:(A.deeper (İ "_law_is_split" (aD (top 88)) s.heap.objs.size L.gx U)).units<À:=hr.kd
 refine{_,(a6 (ir (1) (dY rfl (aK (az (i:=3)) (aK (az (i:=4)) (aK (az (i:=5)) cI)))))
  (a6 (aT (PW.pt (cp (bj (aP (ak bb (by rfl) T.ji di (a5 (0) (aC (cw (v:=.ty "tuple") (by rfl) T.tuple KJ rfl)))))) (cp (ck Eo (za T.len (0)) ae) (cU (bj (aP (ag (cP L) L.cK (a5 (b4 fb (0) ae (λ_ _=>rfl)) (a5 ae (aC (aF gn (za T.len (3)) ae))))))))))) (a9 (ao bU)) aB)
  (a6 (ir (0) (dY rfl (aK (az (i:=6)) (aK (az (i:=7)) (aK (az (i:=8)) cI)))))
  (a6 (aT (PW.pt (cp (bj (aP (ak bb (by rfl) T.ji di (a5 (7) (aC (cw (v:=.ty "list") (by rfl) T.list eV rfl)))))) (cU (ck Eo (ak xB (by rfl) T.len Ī (aC (bC (DE (K:=K) rfl rfl) (by rfl) T.set KC (aC (7))))) (za T.len (7)))))) (a9 (ao bU)) aB)
  (a6 (aT (bj (aP (ak (gP rfl) (by rfl) T.all zZ (aC (bR rfl (aq ["_law_lines","_law_desk"] [5,6]) (aG (7)) (λ_ _ _ _ _ _=>b8) (λ_ _ _ _ _ _=>(ag (cP L) L.cK (a5 (0) (a5 ae (aC (aF gn (ak (iu (K:=K) rfl) (by rfl) T.len Ī (aC (b4 (dU (K:=K) rfl) (1) (2) (λ_ _=>rfl)))) ae))))))))))) (a9 (ao bU)) aB)
  (a6 (aT (bj (aP (ag (cP L) L.cK (a5 (8) (a5 ae (aC (aF gn (b4 bA (4) (6) (λ_ _=>rfl)) ae))))))) (a9 (ao bU)) aB)
  (a6 (ir (ag (pd L) L.la (a5 (5) (a5 (4) (a5 (6) (aC (7)))))) (dY rfl (aK (az (i:=9)) (aK (az (i:=10)) (aK (az (i:=11)) cI)))))
  (a6 (aT (PW.pt (cp (ck (AW g) (9) (bB dS)) (cp (ck (AW g) (10) (bB dS)) (cU (ck gO (b4 bA (11) ae (λ_ _=>rfl)) (aF dW (2) (8))))))) (a9 (ao bU)) aB)
  (a9 (ao (eY Ep (b4 bA (11) ae (λ_ _=>rfl)) (aF dW (2) (aF gn (b4 bA (4) (6) (λ_ _=>rfl)) (8))) (ip _)))))))))))),?_}
 ac_rfl
 dsimp only[T3,T4,SV]
 let{hd,Z,hc,ho,w1,w2,NF,WT}:=yu ok
 let{_,_,e,ht,_,1,{rfl,_},_,1,rn,_,1,{rfl,_},rfl}:=rt
 cases e
 let{_,_,e,hq,_,1,rh,_,1,j,_,1,rl,rfl}:=rq
 cases e
 let{n,1,Tp,_}:=id rn
 have o:=lK rn
 let{ah,rfl,WU}:=nL rh
 let{aw,rfl,r}:=fE j
 let{al,xs,rfl,WV,ux}:=id rl
 have hT:=g8.of (K:=K) ht;have vU:=R.w;have uF:=R.l;have c:b[d]?=ρ (b.getD d []):=by rw[Z8,Z5 hd];rfl
 have u:=Zv c;have DM:=R.m _ u;have GD:=R.e _ u;generalize b.getD d []=qs at *;refine{1,q,1,g8.of hq,rfl,_,1,_,1,_,1,rfl,?_};refine{1,_,_,_,true,rfl,dD.tup ht,rfl,true,rfl,aU ?_};refine{1,t,1,.inr hT,rfl,false,rfl,aU ?_};refine⟨_,rfl,t,_,0,_,rfl,rfl,hT,rfl,_,rfl,ah,_,rfl,.inl WU,_,_,rfl,rfl,(d:Int),0,_,rfl,1.0,by rw[Z4];omega,true,rfl,aU ?_⟩;refine{1,t,1,hT,rfl,_,1,_,1,_,1,rfl,?_};refine{1,_,_,_,true,rfl,dD.rd Tp,rfl,true,rfl,aU ?_};refine{1,n,nI ns,rfl,.inl o,by rw[eC];exact X,λp hp=>?_};have f:a8 H (upd H p (Ed P w p (PyProof.Rows.firstMet (λi=>(nI ns).getD i 0) (nI ns).9).9)):=a8.upd hp;refine{p,1,a7,1,n,1,.inl (f.seq (.inl o)),rfl,false,?_,aU ?_}
 .rw[vQ (FD Y),Z4];exact K9 _
 generalize upd H p _=H1 at f
 let{y0,Jj,rd}:=ux.at (i:=d) (d:=bx qs) (by rw[Z9,c];rfl)
 let{ay,ys,rfl,Mg,zc}:=rd
 have yl:ys.9=qs.9:=by rw[zc.len,Z4]
 have x:lQ xs (d:Int)=ρ (.ref ay):=bz Jj;refine{1,n,rfl,{_,f.seq (.inl o)},λlc wB=>?_};refine comp_map (λ_=>V.bl true) (aJ K n ((nI ns).map V.int)) wB (by rw[Z4,eC];exact av 1.0) (λH' s'=>(f.trans s').seq (.inl o)) (λz H2 Q' hz s2 qq=>?_) (λH2 s2 h2=>?_)
 .let{i,hi,rfl}:=Ze.mp hz
  let{i0,i1}:=Z i hi
  have y:=f.trans s2;exact⟨_,rfl,_,rfl,_,rfl,al,xs,_,_,rfl,rfl,y.seq (.inl WV),x,ay,ys,rfl,.inl (y.seq (.inl Mg)),_,_,rfl,rfl,i,0,_,rfl,i0,by rw[yl];omega,qq H2 (a8.refl _)⟩
 rw[A8]at h2;refine{lc,1,aM.of h2,true,congrArg V.bl (A9 _),aU ?_};have a:=f.trans s2;have B:d<O.9:=1.0;have C:lQ (O.map V.int) (d:Int)=ρ (.int (O.getD d 0)):=bz (by rw[Z9,Z5 B,Z8,Z5 B];rfl);refine⟨_,rfl,_,rfl,_,rfl,aw,_,_,_,rfl,rfl,a.seq r,C,_,_,rfl,rfl,wt,1,_,rfl,w1,1.0,true,rfl,aU ?_⟩;refine{4,al,aw,n,d,nI ns,O,b,qs,rfl,bh.same a _ _ rl,bh.same a _ _ j,a.seq (.inl o),c,1.0,λq hq=>by rw[vU];exact GD q hq,λp0 ls lo lu H3 s3 Rl r1 r2 WW=>{p0,1,g8.of Rl,rfl,_,1,_,1,_,1,rfl,?_}}
 let{_,cs,e,WX,D}:=id r1
 cases e
 let{_,os,e,WY,G}:=id r2
 cases e;have Cp:cs≠[]:=λz=>hc (Đ (by have:=D.len;rw[Z4,z]at this;exact this.symm));have one:os≠[]:=λz=>ho (Đ (by have:=G.len;rw[Z4,z]at this;exact this.symm));refine{1,ZE _,λe1 Rm=>?_};have I:a8 H3 (upd H3 e1 (.lst [])):=a8.upd Rm;refine{ls,e1,cs,rfl,rfl,I.seq (.inl WX),aM.of a7,Cp,false,rfl,aU ?_};generalize upd H3 e1 _=H4 at I;refine{1,ZE _,λe2 QI=>?_};have S:a8 H4 (upd H4 e2 (.lst [])):=a8.upd QI;refine{lo,e2,os,rfl,rfl,(I.trans S).seq (.inl WY),aM.of a7,one,false,rfl,aU ?_};generalize upd H4 e2 _=H5 at S;have J:=(I.trans S) _ _ WW;refine{1,lu,_,_,1,rfl,aM.of J,rfl,2,_,1,rfl,.inl {1.0,1.0},_,1,rfl,false,congrArg V.bl (decide_eq_false (Int.not_lt.mpr NF)),aU ?_};have M:=a.trans (s3.trans (I.trans S));have k':=k H5 M;rw[<-decide_eq_true WT]at k';exact{1,lu,_,_,1,rfl,aM.of J,rfl,3,aw,_,_,1,rfl,M.seq r,C,1,_,1,rfl,_,1,rfl,.inl {1.0,1.0},_,1,rfl,k'}
inductive LJ(K:Z6)(CP CS:Addr)(vs:List V)(H:Hp)(Q:VK)(eK:XK):Prop
 |mk (x db o ev many n g bw ss ls f rJ ks hs ws lns) (_:vs=[.ref x,.ref db,.int many]) (_:pO K CP CS H x (bZ f ls) rJ ks hs ws lns) (_:mU H db o ev (aS g bw ss ls n) ls) (_:GA g bw ss ls many n f rJ ks hs ws lns) (_:ş ss=true) (_:ls.Sublist ss) (_:(ch g).Nodup) (_:ss.Perm (cQ bw "" bw)) (_:∀w∈bw,1<=w.9) (_:g.length^n<=64) (_:0<=many) (_:many<=8) (_:∀H',a8 H H'->Q (.bl true) H')
theorem jR(L:Lk K mg):aW P w K mg base cY 7 L.kD L.kQ ["_law_band","_law_many","_law_wide"] (Lb L.aN):=by
 have T:=L.T;refine L.hO.F.dP (N:=["_law_band","_law_many","_law_wide","_law_most","_law_weights","_law_total"]) (λfI A outer s H vs Q E nd hr h=>?_)
 let{x,many,n,g,U,ss,ls,most,r,rfl,B,I,q,m,t,M,m1,m9,O,hw,k}:=h
 have hu:=eP hr
 refine{_,(a6 (aT (ck nu (ag (pW L) L.oN (a5 (0) (a5 (1) (a5 (2) (aC ae))))) iq) (a9 (ao bU)) aB)
  (a6 (forA (lC rfl T.range (a5 ae (aC ae))) (az (i:=3)) (a6 (ai (i:=4) (F1 (ag (qV L) L.mY (a5 (0) (a5 (1) (a5 (2) (aC (3))))))))
  (a6 (ai (i:=5) (ak (g9 rfl) (by rfl) T.sum x6 (aC (bR rfl (aq ["_law_weights"] [4]) (ie (4)) (λ_ _ _ _ _ _=>b8) (λ_ _ _ _ _ _=>(bS hu (1) (0) (λ_ _=>rfl)))))))
  (a9 (aT (ck i5 (5) ae) (a9 (ao (eY i5 (5) ae (ip _)))) aB)))))
  (a9 (ao bU)))),?_}
 ac_rfl
 refine⟨_,rfl,_,rfl,_,rfl,x,many,(n:Int),24,g,U,ss,ls,rfl,B,q,m,t,⋯,⋯,λv H1 s1 X=>?_⟩;rw[Zy]at X
 cases X with
 |some j a b c d=>exact absurd c (M j a b)
 |none a=>
 refine{rfl,false,rfl,aU ?_};have uF:ls.9<=900:=Zn B.lv.sub.length_le m;refine⟨1,9,rfl,⋯,?_⟩;refine cT (lo:=1) (n:=8) (Qt x many n most H) {τ,τ,τ,rfl,s1,1.0} ?_ ?_
 .rintro i σ H2 hi ⟨v3,v4,v5,rfl,D,hm⟩;refine{4,x,many,n,1+(i:Int),g,U,ss,ls,rfl,B.same D,I,q,m,t,1.0,λl f Y s3 fd h3 Z=>{l,1,h3,λo=>?_}};have y:=F6 (u:=.frz o (.dK (b9 (bZ f ls)))) s3 fd;have G:(upd Y l (.frz o (.dK (b9 (bZ f ls))))) l=ρ (.frz o (.dK (b9 (bZ f ls)))):=a7;show dA 4 (V.ref l) _ _ _;generalize upd Y l (.frz o (.dK (b9 (bZ f ls))))=H4 at y G;have J:=fO l o (b9 (bZ f ls));rw[zO,lH]at J;refine{1,l,1,.inr {o,G,λlc R=>?_}};refine comp_map (zx f) J R (by rw[Z4];exact av 1.0) (λH' S=>S _ _ G) (λz H' Q' O S qq=>?_) (λH5 s5 h5=>?_)
  .let{p,hp,rfl}:=Ze.mp O
   have g3:=dI.f (k:=(ZA p:Key)) (S _ _ G);rw[cG,fY f ls p hp]at g3;exact{2,l,1,g3,qq H' (a8.refl _)}
  rw[gJ]at h5;have C:=D.trans (y.trans s5);refine{lc,1,aM.of h5,1,_,1,rfl,?_}
  by_cases he:1+(i:Int)=most
  .rcases hw with⟨e,_⟩ |⟨_,hw⟩
   .omega
   let{h0,rfl}:=hw f (he ▸ Z)
   exact{true,congrArg V.bl (decide_eq_true h0),dC {1,_,1,rfl,k _ C}}
  .have e0:=O _ f 1.0 1.0 Z;exact{false,congrArg V.bl (decide_eq_false 1.0),aU {_,_,1,C,1.0}}
 .rintro σ H2 ⟨v3,v4,v5,rfl,D,hm⟩;rcases hw with⟨_,rfl⟩ |⟨h,_⟩
  .exact k _ D
  .omega
theorem um(L:Lk K mg):aW P w K mg base cY 1 L.md L.mn ["_law_e"] (Lx K L.aR L.aY L.fU):=by
 have T:=L.T;refine L.mx.F.dP (N:=["_law_e"]) (λd A outer s H l Q E nd m h=>?_)
 let{e,C,f,n,rfl,g,i,U,Y,hn,k}:=h
 refine{_,(a6 (aT (PW.pt (cp (aP (ak bJ (by rfl) T.ji di (a5 (0) (aC (bV (v:=.ref L.u9) (by rfl) L.Gm rfl))))) (cp (aP (ak bJ (by rfl) T.ji di (a5 (0) (aC (bV (v:=.ref L.ud) (by rfl) L.Gv rfl))))) (cp (aP (ak bJ (by rfl) T.ji di (a5 (0) (aC (bV (v:=.ref L.ub) (by rfl) L.Gq rfl))))) (cU (aP (ak bJ (by rfl) T.ji di (a5 (0) (aC (bV (v:=.ref L.uc) (by rfl) L.Gs rfl)))))))))) (a9 (ao bU)) aB)
  (a6 (aT (PW.pt (cp (aP (ak bJ (by rfl) T.ji di (a5 (0) (aC (bV (v:=.ref L.n6) (by rfl) L.AJ rfl))))) (cp (aP (ak bJ (by rfl) T.ji di (a5 (0) (aC (bV (v:=.ref L.n0) (by rfl) L.AH rfl))))) (cp (aP (ak bJ (by rfl) T.ji di (a5 (0) (aC (bV (v:=.ref L.pU) (by rfl) L.Dy rfl))))) (cU (aP (ak bJ (by rfl) T.ji di (a5 (0) (aC (bV (v:=.ref L.ua) (by rfl) L.Go rfl)))))))))) (a9 (ao bU)) aB)
  (a6 (aT (PW.pt (cp (aP (ak bJ (by rfl) T.ji di (a5 (0) (aC (bV (v:=.ref L.xr) (by rfl) L.Jc rfl))))) (cp (aP (ak bJ (by rfl) T.ji di (a5 (0) (aC (bV (v:=.ref L.pR) (by rfl) L.Du rfl))))) (cp (aP (ak bJ (by rfl) T.ji di (a5 (0) (aC (bV (v:=.ref L.u5) (by rfl) L.Gj rfl))))) (cU (aP (ak bJ (by rfl) T.ji di (a5 (0) (aC (bV (v:=.ref L.n7) (by rfl) L.AO rfl)))))))))) (a9 (ao bU)) aB)
  (a9 (ao (N6 (ak bJ (by rfl) T.ji di (a5 (0) (aC (bV (v:=.ref L.eO) (by rfl) L.gL rfl)))) (j2 (ak bJ (by rfl) T.ji di (a5 (0) (aC (bV (v:=.ref L.pT) (by rfl) L.Dw rfl))))))))))),?_}
 ac_rfl
 have a:∀{D:Addr} {b:Bool},ſ K (.ref C) (.ref D)=ρ b->Dq K H (.ref e) (.ref D) b:=@λD b j=>.exc g i U Y j;have ne:∀x∈[("Barred":Str),"NoBand","NoData","NoForm","NoLength","NoNumber","NoPlace","NoRate","NoRow","NoSigns","NoWord","NoWriter","NoSplit","TooMany"],¬f=x:=by rcases hn with rfl |rfl<;>decide+kernel
 have c:∀{D:Addr} {x:Str},gR K D L.aR x->x∈[("Barred":Str),"NoBand","NoData","NoForm","NoLength","NoNumber","NoPlace","NoRate","NoRow","NoSigns","NoWord","NoWriter","NoSplit","TooMany"]->ſ K (.ref C) (.ref D)=ρ false:=λV h=>DF U V L.XT ((by decide+kernel:∀x∈[("Barred":Str),"NoBand","NoData","NoForm","NoLength","NoNumber","NoPlace","NoRate","NoRow","NoSigns","NoWord","NoWriter","NoSplit","TooMany"],¬x="BandError") _ h) (ne _ h);refine{1,_,_,false,rfl,a (c L.Gn ∅),false,rfl,aU {1,_,_,false,rfl,a (c L.Gw ∅),false,rfl,aU {1,_,_,false,rfl,a (c L.Gr ∅),false,rfl,aU {1,_,_,false,rfl,a (c L.Gu ∅),false,rfl,aU ?_}}}};refine{1,_,_,false,rfl,a (c L.AK ∅),false,rfl,aU {1,_,_,false,rfl,a (c L.AI ∅),false,rfl,aU {1,_,_,false,rfl,a (c L.Dz ∅),false,rfl,aU {1,_,_,false,rfl,a (c L.Gp ∅),false,rfl,aU ?_}}}};refine{1,_,_,false,rfl,a (c L.Jd ∅),false,rfl,aU {1,_,_,false,rfl,a (c L.Dv ∅),false,rfl,aU {1,_,_,false,rfl,a (c L.Gk ∅),false,rfl,aU {1,_,_,false,rfl,a (c L.AQ ∅),false,rfl,aU ?_}}}};exact{1,_,_,false,rfl,a (tJ U L.gM L.XT ∅ (ne _ ∅)),false,rfl,aU {1,_,_,false,rfl,a (c L.Dx ∅),k}}
theorem pe(L:Lk K mg):aW P w K mg base cY 8 L.fT L.iU ["_law_e","_law_band","_law_many","_law_wide"] (Lc L.aN L.aY):=by
 have T:=L.T;refine L.iW.F.dP (N:=["_law_e","_law_band","_law_many","_law_wide","_law_data","_law_step"]) (λy A outer s H vs Q E nd U h=>?_)
 let{e,d,x,c,many,n,g,m,ss,ls,rfl,f,hd,B,p,q,j,M,k}:=h
 have C:(A.deeper (İ "_law_is_scarce" (aD (top 91)) s.heap.objs.size L.fT y)).units<À:=U.kd
 refine{_,(a6 (aT (PW.pt (cp (aP (ak bJ (by rfl) T.ji di (a5 (0) (aC (bV (v:=.ref L.fU) (by rfl) L.xt rfl))))) (cp (bj (aP (ag (cP L) L.cK (a5 (ic (0) rfl) (a5 ae (aC ae)))))) (cU (bj (aP (ag (cP L) L.cK (a5 (ic (0) rfl) (a5 ae (aC (ic (0) rfl))))))))))) (a9 (ao bU)) aB)
  (a6 (ai (i:=4) ae)
  (a6 (forA (cy rfl T.range (aC (ic (0) rfl))) (az (i:=5)) (a9 (ai (i:=4) (aF dW (4) (2)))))
  (a6 (aT (ck (Li C) (ag (pW L) L.oN (a5 (1) (a5 (2) (a5 (3) (aC ae))))) (ic (0) rfl)) (a9 (ao bU)) aB)
  (a9 (ao (j7 (eY ju (ic (0) rfl) (ag (yX L) L.xo (a5 (1) (aC (aF dW (ic (0) rfl) (3))))) (ip _)) (j2 (eY gO (ic (0) rfl) (4) (ip _)))))))))),?_}
 ac_rfl
 let{X,c2,O,c4}:=BR M rfl
 have Y:∀D,ρ d=ρ D->∃fs,H D=ρ (.xd fs):=λD z=>(Zi z) ▸ {_,hd};have G:0<=eL g m ss (c*n) "":=FI _ _;have r:([("length",.int (c:Nat)),("rows",.int (eL g m ss (c*n) ""))]:List (Str×V)).lookup ("length":Str)=ρ (.int (c:Nat)):=by rw[Ñ,show (("length":Str) == "length")=true by decide+kernel]
 have t:([("length",.int (c:Nat)),("rows",.int (eL g m ss (c*n) ""))]:List (Str×V)).lookup ("rows":Str)=ρ (.int (eL g m ss (c*n) "")):=by rw[Ñ,show (("rows":Str) == "length")=false by decide+kernel,Ñ,show (("rows":Str) == "rows")=true by decide+kernel]
 generalize ([("length",.int (c:Nat)),("rows",.int (eL g m ss (c*n) ""))]:List (Str×V))=fs at hd r t;refine{1,_,_,false,rfl,.exc f Y L.bP L.oZ (tJ L.bP L.iB L.XT ∅ ∅),false,rfl,aU ?_};refine⟨_,rfl,e,L.aY,_,d,_,fs,_,rfl,f,hd,L.bP,L.dE,r,(c:Int),1,24,rfl,1.0,O,true,rfl,aU ?_⟩;refine⟨_,rfl,e,L.aY,_,d,_,fs,_,rfl,f,hd,L.bP,L.eW,t,_,rfl,e,L.aY,_,d,_,fs,_,rfl,f,hd,L.bP,L.eW,t,_,0,_,rfl,G,ľ _,true,rfl,aU ?_⟩;have Z:=j.a;have OJ:=j.b;refine{1,e,L.aY,_,d,_,fs,1,f,hd,L.bP,L.dE,r,(c:Int),rfl,1.0,1.0,?_};rw[Zy];refine cT (lo:=0) (n:=c) (λi σ u=>∃I:Option V,σ=[ρ (.ref e),ρ (.ref x),ρ (.int many),ρ (.int (n:Int)),ρ (.int (many^i)),I]/\H=u) {τ,(by rw[Int.pow_zero];rfl),rfl} ?_ ?_
 .rintro i σ u hi ⟨I,rfl,rfl⟩;refine{2,_,1,rfl,.inr {1.0,1.0},ρ (.int (0+(i:Int))),?_,rfl};rw[ο];rfl
 .rintro σ u ⟨I,rfl,rfl⟩;refine⟨_,rfl,_,rfl,_,rfl,x,many,(n:Int),24,g,m,ss,ls,rfl,B,p,q,j,⋯,⋯,λv H1 l R=>?_⟩;rw[Zy]at R;obtain rfl:=IV R M;refine{1,e,L.aY,_,d,_,fs,1,l _ _ f,l _ _ hd,L.bP,L.dE,r,rfl,.flat rfl,(λa z=>nomatch z),false,rfl,aU ?_}
  have hk:(c:Int)*(n:Int)<=100000:=by
   have h1:(c:Int)*(n:Int)<=24*6:=Int.mul_le_mul O j.d 1.0 1.0;omega
  have J:0<=(c:Int)*(n:Int):=Int.mul_nonneg 1.0 1.0;have e0:((c:Int)*(n:Int)).toNat=c*n:=by rw[<-ε,Zy]
  refine{1,e,L.aY,_,d,_,fs,1,l _ _ f,l _ _ hd,L.bP,L.eW,t,2,e,L.aY,_,d,_,fs,1,l _ _ f,l _ _ hd,L.bP,L.dE,r,1,_,1,rfl,.inl {1.0,1.0},x,(c:Int)*(n:Int),g,m,ss,ls,rfl,B.same l,p,q,J,hk,λu s2=>?_};rw[e0];have o:=l.trans s2;have S:=k u o;rw[<-decide_eq_true X]at S;exact{rfl,true,congrArg V.bl (decide_eq_true rfl),dC {1,e,L.aY,_,d,_,fs,1,o _ _ f,o _ _ hd,L.bP,L.eW,t,1,_,1,rfl,S}}
theorem rm(L:Lk K mg):aW P w K mg base cY 9 L.kE L.kR ["_law_e","_law_band","_law_many","_law_wide"] (Ga K L.aN L.aR L.aY L.fU):=by
 have T:=L.T;refine L.lq.F.dP (N:=["_law_e","_law_band","_law_many","_law_wide"]) (λq A outer s H M Q E nd O h=>?_)
 let{e,x,many,n,g,p,ss,ls,rfl,B,m,i,j,l,hc,k}:=h
 refine{_,(a6 (aT (PW.pt (cp (bj (aP (ak bJ (by rfl) T.ji di (a5 (0) (aC (cw (v:=.ty "ValueError") (by rfl) T.ValueError Vs rfl)))))) (cU (aP (ag (um L) L.mx (aC (0))))))) (a9 (ao bU)) aB)
  (a6 (aT (aP (ak bJ (by rfl) T.ji di (a5 (0) (aC (bV (v:=.ref L.aY) (by rfl) L.yP rfl))))) (a9 (ao (ag (pe L) L.iW (a5 (0) (a5 (1) (a5 (2) (aC (3)))))))) aB)
  (a9 (ao (j7 (ak bJ (by rfl) T.ji di (a5 (0) (aC (bV (v:=.ref L.fU) (by rfl) L.xt rfl)))) (j2 (ag (jR L) L.hO (a5 (1) (a5 (2) (aC (3))))))))))),?_}
 ac_rfl
 rcases hc with⟨d,r,a,hd,t⟩ |⟨a,o,most,u,y,C,hw⟩
 .have b:∀c,ρ d=ρ c->∃fs,H c=ρ (.xd fs):=λc z=>(Zi z) ▸ {_,hd};refine{1,_,_,true,rfl,.val a b L.bP L.oZ (w9 L.bP),true,rfl,aU ?_};refine{1,e,L.aY,"Scarce",1,a,b,L.bP,L.oZ,.inl rfl,false,rfl,aU ?_};refine{1,_,_,true,rfl,.exc a b L.bP L.oZ tI,true,rfl,dC ?_};exact{_,rfl,3,e,d,x,r,many,n,g,p,ss,ls,rfl,a,hd,B,i,j,l,t,k}
 .have b:∀c,(τ:Option Addr)=ρ c->∃fs,H c=ρ (.xd fs):=λc z=>nomatch z;refine{1,_,_,true,rfl,.val a b L.iB L.xu (w9 L.iB),true,rfl,aU ?_};refine{1,e,L.fU,"Open",1,a,b,L.iB,L.xu,.inr rfl,false,rfl,aU ?_};refine{1,_,_,false,rfl,.exc a b L.iB L.xu (tJ L.iB L.bP L.XT ∅ ∅),false,rfl,aU ?_};refine{1,_,_,true,rfl,.exc a b L.iB L.xu tI,true,rfl,dC ?_};refine{3,x,many,n,g,p,ss,ls,most,true,rfl,B,m,i,j,l,o,u,y,C,?_,k};rcases hw with rfl |⟨f,D,G⟩
  .exact .inl ⟨rfl,rfl⟩
  by_cases I:most=9
  .exact .inl ⟨I,rfl⟩
  exact .inr {1.0,λh J=>by
   have:=pP D J
   exact{1.0,(decide_eq_true 1.0).symm}}
end
end K34
namespace Tq
open PyProof.Rows PySem.W PySem.Calls
theorem ro:∀(ns:List Int) (vs:List Value),WellAll P h vs (ns.map WData.int)->IntsAre vs ns:=by
 intro ns
 induction ns with
 |nil=>
  intro vs w;rw[ŏ]at w;cases w;exact .nil
 |cons n ns c=>
  intro vs w;rw[Zw]at w
  cases w with
  |cons a b=>
   cases a;exact .cons _ _ (c _ b)
theorem DN{l:Ŝ}{n:Nat}(hn:l.most=ρ n){P:Params}{h:Heap}{args:List WData}{g:List Value}
 (j:l.row.toRowW.claim.pre args=true) (o:WellAll P h g args) :
 ∃a vs ns,g=[Zo a]/\args=[WData.list (ns.map WData.int)]/\h.get? a=ρ {cls:=.type "list",data:=.seq vs.6}/\IntsAre vs ns/\ns.9<=n:=by
 have i:WShape.hasAll [] args [.list .int]=true:=(pre_splitW j).1;have hc:l.pre.holds [] {args:=args}=true:=(pre_splitW j).2
 let{d,r,rfl,k,m}:=hasAllW_cons i
 obtain rfl:=hasAllW_nil m
 let{w,rfl,p}:=hasW_list k
 let{ns,rfl}:=items_int p
 have b:ns.9<=n:=by
  unfold OpenLaw.pre at hc
  have e:(WTm.not (.lt (.lit (.int (n:Int))) (.len (.arg 0)))).holds [] {args:=[.list (ns.map .int)]}=true:=by
   have e:=(holds_andW hc).1;rw[hn]at e;exact e
  have f:=condW_of e (w_not (w_lt w_lit (w_len_list (w_arg rfl))));rw[Z4]at f;refine whg λq=>?_;have s:(n:Int)<((ns.9:Nat):Int):=1.0
  first
   |(rw[decide_eq_true s]at f;exact absurd f ⋯)
   |(simp at f;omega)
 cases o with
 |cons t u=>
  cases u
  cases t with
  |list v c=>exact{_,_,ns,rfl,rfl,v,ro ns _ c,b}
theorem DP(l:Ŝ)(args:List WData):l.row.toRowW.claim.post args (.bool true) args=true:=
 postW_of (r:=l.row.toRowW) (X:=(true==true))
  (show WShape.has [] (.bool true) .bool=true by first |rfl |decide |simp[WShape.has,WShape.arms,WShape.armsAll])
  (show (WTm.eq .res (.lit (.bool true))).value [] {args:=args,res:=ρ (.bool true),after:=args}=ρ (.bool (true==true)) from w_eq_bool (w_res rfl) w_lit) rfl
theorem yY{l:Ŝ}{n:Nat}{q:ZC}{loose:List Str}{XP:(Str->Option Value)->Heap->Prop}{YP:World->Heap->Prop}{d:DefRec}
 (hn:l.most=ρ n) (t:d.params.defaults=[])
 (call:∀(w:World) (s₀ g:Shared) (mg C:Str->Option Value) (p:Addr) (o:Obj) (pm cd j:Value) (a:Addr) (vs:List Value) (ns:List Int),
   Ground q loose [] XP w s₀ mg C g.heap->YP w g.heap ->
   g.heap.get? p=ρ o->o.data=.func (docDef d.name d.params d.body d.scope pm cd j)->g.heap.CodeRec cd d.name->mg d.name=ρ (.ref p) ->
   g.heap.get? a=ρ {cls:=.type "list",data:=.seq vs.6}->IntsAre vs ns->ns.9<=n->g.gens=#[] ->
   codeAny (model l.prog w) callerA (.call (.ref p) {[.ref a],[]}) (λr s'=>r=.ok (.ret (.bool true))/\OldK g.heap s'.heap/\s'.os=g.os/\AllBare s'.gens) g) :
 whh q loose XP YP l.row.toRowW d [] (λf vs=>wht f vs):=by
 intro w s₀ g mg C G Y p o pm cd j x kV y hd i s k z args u as c v A m B;obtain rfl:x=.none:=Dflts.none s t;obtain rfl:kV=.none:=Dflts.noKw s
 let{a,vs,ns,rfl,rfl,e,b,h}:=DN hn c m
 refine enter_call (Þ (call w s₀ g mg C p o pm cd j a vs ns G Y y (fd_plain hd) i k e b h z) λr s' D=>?_)
 let{rfl,E,H,I}:=D
 exact{.inl {.bool true,.bool true,[],rfl,λ_=>rfl,.bool true,DP l _,λ_=>{List.Pairwise.nil,λ_ J=>(nomatch J)}},E,H,I}
end Tq
namespace _L
open PySem.Spec PyProof.Rows PySem.W Builtin Builtin.ObjectAttr
section
variable{CB:Addr}{ta tv:TE}{name:Str}
def LK(K:Z6)(CB:Addr)(ta tv:TE)(name:Str):TS:=λD σ H=>tv σ H λy H1=>ta σ H1 λz H2=>∃x C nm d fs,z=.ref x/\H2 x=ρ (XD x C d)/\H2 d=ρ (.xd fs)/\fs.9<=50/\cg K C CB nm/\findIn K (.ref C) name=ρ τ/\fs.lookup name=τ/\D.nx σ (upd H2 d (.xd (fs++[(name,y)])))
end
section
variable{prog:ZC}{w:World}{A:Around}{E:Value->Shared->Prop}{s:Shared}{K:Z6}{x C CB:Addr}{mA:Str->Option Value}{name:Str}{v:Value}
theorem DQ{Q:Unit->Shared->Prop}(X:K.In s.heap)(hx:s.heap.get? x=ρ (rD C d t))(hd:s.heap.Ns1 d mA)(hw:ű mA ns)(hl:ns.9<=100)(hc:clsIn K C=ρ cd)(hm:cd.mro=.ref C::pQ CB)(hh:cd.hasDict=true)(ha:findIn K (.ref C) name=ρ τ)
 (hs:findIn K (.ref C) "__setattr__"=ρ (ρ (.builtin "object.__setattr__")))
 (h:∀h' tk,(∀b,b≠d->h'.get? b=s.heap.get? b)->h'.Ns1 d (λy=>if y=name then ρ v else mA y)->Q .unit {s with heap:=h',toks:=tk}) :
 wpAny (model prog w) A (setAttr (.ref x) name v) Q E s:=by
 let{od,es,ep,e1,_}:=id hd
 have J:InstAt s.heap x (rD C d t) C (ρ od):=⟨hx,rfl,rfl,e1⟩;refine wey X J hs (w6 (s:={s with toks:=s.toks+1}) X J hc hm ha ?_);unfold storeInOwnDict;refine Z7 (Zc ?_);rw[if_neg (by simp)];unfold ownDictForStores instanceDict;refine Z7 (Z7 (΢ hx ?_));dsimp only;refine Z7 (we8 (s:={s with toks:=s.toks+1}) (wdg X hc) ?_);rw[hh];simp only[wge,ġ,if_false];refine Zc ?_;show wpAny _ _ (storeInDict d (.str name s.toks) name v) _ _ _;unfold storeInDict newKeyGuard;refine Z7 (Zc (Z7 (wgB hd λh' C4 JF=>?_)))
 let{oD,WZ,X0,Rn,Ro,Rp}:=C4.count (wfh name v hw)
 refine Z7 (weS Rn (by rw[Ro];exact weT (Zn Rp (by rw[ZP,Ö];omega))) ?_)
 wp_walk
 exact h h' _ (λb hb=>JF.2 b hb) C4
end
section
variable{X:Cx}{CB:Addr}{o value:Expr}{ta tv:TE}{name:Str}{pos pos':Pos}
theorem GF(ha:PE X o ta)(J:PE X value tv)(hs:ë value (ρ (.Attribute o name pos')) pos.line X.5=pure false):PS X (.Assign [.Attribute o name pos'] value pos) (LK X.K CB ta tv name):=by
 refine{?_};intro c s σ H D I h;refine wcd (cj (J c s σ H _ I h) λu G ⟨y,L,M,O,q⟩=>cj (ha c G σ L _ M q) λQ E R=>?_) hs
 let{z,i,g,S,x,C,T,d,fs,V,Y,hd,hl,U,hn,Z,q2}:=R
 subst V;obtain rfl:Q=Zo x:=S
 let{{t,ht},_}:=g.bc x _ Y
 let{mA,ns,r}:=g.bc d _ hd
 let{qn,N,bs,sn,sub,ab,m,dd,k0,k1,k2,k3,k5,lk}:=U.lk
 refine DQ (CB:=CB) g.gE ht ns (Dm r) (by rw[Z4];lia) (cd:={name:=T,bases:=bs,mro:=.ref C::pQ CB,ns:=N,qualname:=qn,hasDict:=true,slotNames:=sn,subclasses:=sub,abstract:=ab,collection:=m,hasDel:=false}) (by unfold clsIn;rw[lk]) rfl rfl hn U.sa λp tk k j=>{σ,_,?_,q2}
 let{o',_,_,eo,_}:=id j
 have nx:∀{b:Addr} {o:HO},i b=ρ o->(∀fs,o≠.xd fs)->b≠d:=λe n z=>by rw[z,hd]at e;exact n _ (Zi e).symm
 have A:∀{b:Addr},i b=τ->b≠d:=λe z=>by rw[z,hd]at e;cases e
 have un:Un (qW X.stack) [] i (upd i d (.xd (fs++[(name,y)]))) E.heap p:=by
  refine{λb o q n _ _=>by rw[k b (A n)];exact q,λb o q n _ _=>{o.slots,by rw[k b (A n)];exact q},λb o q n _=>?_,λb o q _=>?_,λb vs q=>?_,λb o v q=>?_,λb ps q=>?_}
  .rw[af (A n)];exact n
  .by_cases z:b=d
   .rw[z];exact{_,eo}
   .exact{o,by rw[k b z];exact q}
  .rw[af (nx q λψ z=>by cases z)];exact q
  .rw[af (nx q λψ z=>by cases z)];exact q
  .exact{#[],by rw[af (nx q λψ z=>by cases z),q];simp}
 have bc:j1 X.prog X.w (upd i d (.xd (fs++[(name,y)]))) p:=λa o e=>by
  by_cases z:a=d
  .subst z;rw[a7]at e;cases e;refine{_,j,λf=>?_};rw[yG Z]
   by_cases e:f=name
   .rw[if_pos e,if_pos e];exact O
   .rw[if_neg e,if_neg e];exact r f
  .rw[af z]at e;refine(g.bc a o e).qX (λb u l q=>?_) (λb q=>?_) λb vs q=>?_
   .rw[k b ?_]
    .exact q
    .rintro rfl;rcases l with rfl |l
     .exact z rfl
     .rw[hd]at l;cases l
   .rw[af (λB=>by rw[B,hd]at q;cases q)];exact q
   .rw[af (λB=>by rw[B,hd]at q;cases q)];exact q
 exact g.vo (s':={E with heap:=p,toks:=tk}) rfl un bc g.bare λb z=>absurd z (by simp)
end
end _L
namespace HT
open PyProof.Rows
noncomputable def uP(n d:Nat):Option Int->Nat
 |none=>d
 |some v=>if v<0 then(v+(n:Int)).toNat else min v.toNat n
theorem Jm(n d k:Nat):uP n d (ρ (k:Int))=min k n:=by
 show (if (k:Int)<0 then((k:Int)+(n:Int)).toNat else min (k:Int).toNat n)=min k n;rw[if_neg (),Zy]
end HT
namespace _L
open PySem.Spec PyProof.Rows
section
variable{lo hi:Option Expr}
noncomputable def lO(xs:List V)(lo hi:Option Int):List V:=(xs.drop (HT.uP xs.length 0 lo)).take (HT.uP xs.length xs.length hi-HT.uP xs.length 0 lo)
theorem yZ(xs:List V)(lo hi:Option Int):(lO xs lo hi).9<=xs.9:=by
 delta lO;rw[Zq,Ğ]
 lia
theorem Jn{l:Ŝ}{n k:Nat}{q:ZC}{loose:List Str}{XP:(Str->Option Value)->Heap->Prop}{YP:World->Heap->Prop}{d:DefRec}{K:Params->Z6}{CX:World->DW}{sp:World->Sp}{x:Str}
 (hn:l.most=ρ n) (r:n<=sizeLine) (t:d.params.defaults=[]) (J:d5 k callerA)
 (U:∀(w:World) (h:Heap),YP w h->(K w.params).In h)
 (F:∀(w:World) (mg:Str->Option Value) (p:Addr) (h:Heap),(K w.params).In h->h.Ns Ç mg->mg d.name=ρ (.ref p) ->
   ∃fd:Ë,(∀(s:Shared) (u:Value),BindsTo s fd {[u],[]} [(x,u)]) /\
    ∀base:Heap,(K w.params).In base->base.Ns Ç mg->aW l.prog w (K w.params) mg base (CX w) k p fd [x] (sp w))
 (C:∀(w:World) (H:Hp) (a:Addr) (ns:List Int),ns.9<=n->Only H->aM (K w.params) H a (ns.map V.int)->sp w [.ref a] H (λv _=>v=.bl true) λ_ _ _=>False)
 (I:∀(w:World) (H:Hp) (s:Shared) (e:Value) (s':Shared),CX w [] H s (λ_ _ _=>False) e s'->False) :
 whh q loose XP YP l.row.toRowW d [] (λf vs=>wht f vs):=by
 refine Tq.yY hn t λw z j mg Q p o pm R B a vs ns G Y S hd D y m i c E=>?_;have A:=U w _ Y
 let{fd,L,M}:=F w mg p _ A G.T.g y
 exact Eu A G.T.g G.T.b G.T.builtins G.T.nolimit E m i (Zn c r) J M L (λH N O=>C w H a ns c N O) λH e s'=>I w H j e s'
theorem xF(xs:List V)(n:Nat):lO xs τ (ρ (n:Int))=xs.take n:=by simp_all [lO,HT.uP,wfL,Nat.sub_zero,if_neg,wfj,Nat.min_eq_right,ZI,Š]
theorem GH(xs:List V)(k:Nat):lO xs (ρ (k:Int)) τ=xs.drop k:=by
 unfold lO HT.uP;simp only;split
 .lia
 .by_cases h:k<=xs.9
  .rw[show min ((k:Int)).toNat xs.9=k by lia];exact Š (by rw[Ğ];exact Zf _)
  .rw[show min ((k:Int)).toNat xs.9=xs.length by lia,ü,wfS,List.drop_eq_nil_of_le ()]
theorem GI{K:Z6}{J:It}{Ok:Hp->Prop}{xs:List V}{l:Addr}{t:St}{U:TE}{H:Hp}{Q:Hp->Prop}(j:List gi)(hJ:jS J Ok xs)(hl:H l=τ)(hz:xs.9<=sizeLine)(C:j.9=xs.9)(I:∀g,a8 H g->Ok g)
 (he:∀(i:Nat) (x:V) (d:gi) p zs T,xs[i]?=ρ x->j[i]?=ρ d->a8 H p->p l=ρ (.lst zs)->(∀y g,a8 p g->bh K (eI g l) d y->T y g)->U (ρ x::t) p T)
 (hd:∀ys g,a8 H g->g l=ρ (.lst ys)->aQ K (eI g l) j ys->Q g):kh J l t rV U H Q:=by
 refine tK (λi y g=>∀d,j[i]?=ρ d->bh K (eI g l) d y) ?_ hJ hl hz I (λi x p ys T k m n q=>?_) (λys g f s c u=>?_)
 .intro i y A B ys r v kp d a;refine bh.same (λb o e=>?_) d y (r d a);unfold eI at e ⊢
  by_cases h:b=l
  .rw[if_pos h]at e;cases e
  .rw[if_neg h]at e ⊢;exact kp _ _ e h
 .have hi:i<j.9:=by rw[C];exact(Za.mp k).1
  refine he i x j[i] p ys _ k (Z5 hi) m n λy g f r=>q y g f λd a=>?_;rw[Z5 hi]at a;cases a;exact r
 .exact hd ys g f s (aQ.mL j ys (by rw[C,c]) λi d y w z=>u i y z d w)
theorem LL(xs:List V)(k:Nat)(h:k<=xs.9):lO xs τ (ρ (k:Int))=xs.take k:=by simp_all [lO,HT.uP,if_neg]
end
section
variable{a:Expr}
theorem xG(lo hi:Option Int)(n:Nat):(wh4 lo hi τ n).1=((HT.uP n 0 lo:Nat):Int)/\(wh4 lo hi τ n).2.1=((HT.uP n n hi:Nat):Int)/\(wh4 lo hi τ n).2.2=1:=by
 have key:∀(i:Int) (d:Nat),max 0 (min (if i<0 then i+(n:Int) else i) (n:Int))=((HT.uP n d (ρ i):Nat):Int):=by
  intro i d
  by_cases h:i<0<;>simp only[HT.uP,h,if_true,if_false]<;>lia
 exact{by cases lo with |none=>rfl |some i=>exact key i 0,by cases hi with |none=>rfl |some i=>exact key i n,rfl}
theorem uQ(g:List Value)(lo hi:Option Int):slicePick g.toArray lo hi τ=((g.drop (HT.uP g.length 0 lo)).take (HT.uP g.length g.length hi-HT.uP g.length 0 lo)).6:=by
 let{a,b,c}:=xG lo hi g.toArray.size
 unfold slicePick;rw[a,b,c];simp only[sliceRange_one,pick_run,ZB]<;>rfl
inductive Rq(K:Z6)(x:V)(lo hi:Option Int)(H:Hp)(Q:VK):Prop
 |mk (a xs) (_:x=.ref a) (_:aM K H a xs) (_:∀p,H p=τ->Q (.ref p) (upd H p (.lst (lO xs lo hi))))
theorem z0(ns:List Int)(lo hi:Option Int):∃g:List Int,lO (ns.map V.int) lo hi=g.map V.int/\g.9<=ns.9:=by
 refine{_,by delta lO;rw[<-Γ,<-Ĭ],?_};rw[Zq,Ğ]
 lia
end
section
variable{X:Cx}
theorem gH:Qj X (Rq X.K):=by
 intro e s σ H x v n p lo hi sl Q I g i pl j h
 let{a,c,rfl,k,q}:=h
 cases g
 let{l,r,f,m}:=I.list k
 have d:=r.9;refine{"list",_,slot_list_getitem.lookup,f.isList.typeIs,?_};refine wpAny_getItem_list_slice f.isList i pl j .none (by simp) ?_ (by grind);rw[uQ,<-d];refine{.ref s.8,_,I.laid (t':=s.toks) (o:=.lst (lO c lo hi)) (λb ob q=>Zb _ q) (Zf _) ?_,rfl,q _ (I.bc.fresh (Zf _))};exact⟨Zn (yZ c lo hi) m,_,0,(r.drop (HT.uP c.length 0 lo)).take (HT.uP c.length c.length hi-HT.uP c.length 0 lo),Zr _ rfl⟩
end
end _L
namespace K34
section
variable{P:ZC}{w:World}{K:Z6}{mg:Str->Option Value}{base:Heap}
theorem rp(L:Lk K mg):aW P w K mg base cY 2 L.kC L.kN ["_law_homes","_law_weights","_law_lines","_law_desk","_law_numbers","_law_weight"] (L8 K):=by
 have T:=L.T;refine L.lg.F.dP (N:=["_law_homes","_law_weights","_law_lines","_law_desk","_law_numbers","_law_weight","_law_some","_law_others_here","_law_sums","_law_more","_law_found","_law_line","_law_steps","_law_word","_law_end","_law_rest","_law_heavy_here"]) (λfI A outer s H vs Q E nd hr h=>?_)
 let{ah,aw,al,an,d,w,ns,g,I,f,rfl,rh,AV,rl,hA,Wv,hd,k}:=h
 refine{_,(a6 (ir (ag (pd L) L.la (a5 (2) (a5 (1) (a5 (3) (aC (4)))))) (dY rfl (aK (az (i:=6)) (aK (az (i:=7)) (aK (az (i:=8)) cI)))))
  (a6 (cN (i:=9) rfl (aq [] []) nd rfl rfl (aG (2)) (λ_ _ _ _ _ _=>b8) (λ_ _ _ _ _ _=>(bC (lW (K:=K) rfl) (by rfl) T.list eV (aC (0)))))
  (a6 (ir (6) (zC (9) (3) set_list))
  (a6 (bH (fJ ZK ZS ZT cb (9) (aC (7))))
  (a6 (ai (i:=10) (bB dS))
  (a6 (forA (aG (9)) (az (i:=11)) (a6 (ai (i:=12) (bB dS))
  (a6 (forA (aG (11)) (dY rfl (aK (az (i:=13)) (aK (az (i:=14)) cI))) (a6 (bH (fJ ZK ZS ZT cb (12) (aC (cM (a5 (13) (aC (14)))))))
  (a9 (aT (ck ju (14) (3)) (a9 (bH (fJ ZK ZS ZT cb (12) (aC (cM (a5 (13) (aC (za T.len (2))))))))) aB))))
  (a9 (bH (fJ ZK ZS ZT cb (10) (aC (12))))))))
  (a6 (ai (i:=15) (aF gn (b4 bA (1) (3) (λ_ _=>rfl)) (5)))
  (a6 (ai (i:=16) (aF ja (aF ja (cB gH (1) eX (cx (3))) (bB (aC (5)))) (cB gH (1) (cx (aF dJ (3) ae)) eX)))
  (a9 (ao (cM (a5 (aF ja (0) (bB (aC (b4 bA (0) (3) (λ_ _=>rfl))))) (a5 (aF ja (16) (bB (aC (15)))) (aC (10))))))))))))))),?_}
 ac_rfl
 have hn:=Wv.n;have vU:=Wv.w;have uF:=Wv.l;have DY:d<f.9:=1.0;have Tr:f[d]?=ρ f[d]:=Z5 DY;have Mh:f.getD d []=f[d]:=by rw[Z8,Tr];rfl
 have Hl:=ZQ DY;have DM:=Wv.m _ Hl;have GD:=Wv.e _ Hl;rw[CQ DY,Mh]at k;have big:∀n:Nat,n<=20000->n<=sizeLine:=λn hn=>Zn hn (by rw[Ö];decide);have J:∀n:Nat,n<=20000->n<sizeLine:=λn hn=>ß hn (by rw[Ö];decide);refine{4,al,aw,an,d,ns,g,f,f[d],rfl,rl,AV,hA,Tr,1.0,λq hq=>by rw[vU];exact GD q hq,λp0 ls lo lu H1 s1 Rl r1 Z Ts=>{p0,1,g8.of Rl,rfl,_,1,_,1,_,1,rfl,?_}};generalize f[d]=qd at k DM GD r1 Z Hl
 let{To,xs,ec,hc,ux}:=id (bh.same s1 _ _ rl)
 cases ec;have xl:xs.9=f.9:=by rw[ux.len,Z4]
 refine{1,al,rfl,{_,.inl hc},λB Ji=>?_};refine GI (K:=K) (f.map bx) (aJ K al xs) Ji (big _ 1.0) (by rw[Z4,xl]) (λH' s'=>s'.seq (.inl hc)) (λi x dd H3 M Q' hx O s3 h3 qq=>?_) (λM H3 s3 X1 Tu=>?_)
 .let{d',e',r}:=ux.get i x hx
  rw[O]at e';cases e';rw[Z9]at O
  cases e:f[i]? with
  |none=>rw[e]at O;cases O
  |some ql=>
   rw[e]at O;cases O
   let{ax,ys,rfl,X2,zc}:=r
   refine{1,ax,ys,rfl,.inl (s3.seq (.inl X2)),λa' OT=>?_};have na:a'≠B:=λz=>by rw[z,h3]at OT;cases OT
   have so:a8 H1 (eI (upd H3 a' (.lst ys)) B):=λb o e=>gk (a8.upd OT _ _ (s3 _ _ e)) (aa e Ji);exact qq _ _ (a8.upd OT) {a',ys,rfl,.inl (gk a7 na),aQ.same so _ _ zc}
 have zl:M.9=f.9:=by rw[Tu.len,Z4]
 have OU:a8 H1 (eI H3 B):=λb o e=>gk (s3 _ _ e) (aa e Ji)
 have OI:zj M.length (d:Int)=ρ d:=by
  unfold zj;rw[if_pos 1.0,if_pos 1.0,Zy]
 refine{3,B,M,_,d,rfl,rfl,X1,OI,?_};refine{1,.inl {rfl,_,aM.of a7},1,B,_,1,rfl,a7,J _ (by rw[ě];omega),?_}
 have X3:aQ K (eI H3 B) ((f.set d (aI ns qd)++[aH ns qd]).map bx) (M.set d (V.ref ls)++[.ref lo]):=by
  rw[Zk,wgJ];exact cW (Tu.set d (bh.same OU _ _ r1)) (bh.same OU _ _ Z)
 have OV:(upd (upd H3 B (.lst (M.set d (V.ref ls)))) B (.lst (M.set d (V.ref ls)++[.ref lo]))) B=ρ (.lst (M.set d (V.ref ls)++[.ref lo])):=a7;have OW:a8 (eI H3 B) (upd (upd H3 B (.lst (M.set d (V.ref ls)))) B (.lst (M.set d (V.ref ls)++[.ref lo]))):=jg λb o e hb=>by rw[af hb,af hb];exact e
 generalize upd (upd H3 B (.lst (M.set d (V.ref ls)))) B (.lst (M.set d (V.ref ls)++[.ref lo]))=H4 at OV OW;have OX:=s1.trans (OU.trans OW);have OY:=aQ.same OW _ _ X3
 have Md:∀l∈f.set d (aI ns qd)++[aH ns qd],l.9<=5000:=λl hl=>by
  rcases ZH.mp hl with z |z
  .rcases ų z with z |z
   .exact Wv.m l z
   .rw[z];exact Zn (fm _ _ _) DM
  .rw[Zz.mp z];exact Zn (fm _ _ _) DM
 have Tv:(f.set d (aI ns qd)++[aH ns qd]).9=f.9+1:=by rw[Zd,ě];rfl
 generalize M.set d (V.ref ls)++[V.ref lo]=us at OV OY;generalize f.set d (aI ns qd)++[aH ns qd]=R at k OY Md Tv;have ul:us.9=R.9:=by rw[OY.len,Z4]
 refine{ZE _,λlf Tw=>?_};have sb:a8 H4 (upd H4 lf (.lst [])):=a8.upd Tw;have OZ:(upd H4 lf (.lst [])) lf=ρ (.lst []):=a7;generalize upd H4 lf (.lst [])=Hb at sb OZ;have keep:∀{C:Hp},(∀c o,Hb c=ρ o->c≠lf->C c=ρ o)->a8 H4 C:=λY c o e=>Y _ _ (sb _ _ e) (aa e Tw)
 refine{1,B,rfl,{_,aM.of (sb _ _ OV)},cn (K:=K) (a:=B) (xs:=us) (λj σ C=>∃(v11 Rr D G:Option V) (as:List V),σ=[ρ (.ref ah),ρ (.ref aw),ρ (.ref al),ρ (.int (d:Int)),ρ (.ref an),ρ (.int w),ρ (V.ref ls),ρ (.ref lo),ρ (.ref lu),ρ (.ref B),ρ (.ref lf),v11,Rr,D,G,τ,τ]/\C lf=ρ (.lst as)/\(∀c o,Hb c=ρ o->c≠lf->C c=ρ o)/\aQ K (aO Hb C) (((R.take j).map (eB d f.9)).map bx) as)
  {τ,τ,τ,τ,[],rfl,OZ,λc o e _=>e,rfl} (λj σ C _ {_,_,_,_,_,_,_,Y,_}=>aM.of (keep Y _ _ OV)) ?_ ?_}
 .rintro j y σ C hy ⟨v11,Rr,D,G,as,rfl,O0,Y,hR⟩
  let{dt,O1,ry}:=OY.get j y hy
  rw[Z9]at O1
  cases e:R[j]? with
  |none=>rw[e]at O1;cases O1
  |some S=>
  rw[e]at O1;cases O1;have hj:j<R.9:=(Za.mp e).1;have lB:R.take (j+1)=R.take j++[S]:=by rw[Ô,e];rfl
  have Je:=Md S (Zv e)
  let{ay,rs,rfl,Tx,hT}:=eM ry
  have yS:rs.9=S.9:=by rw[hT.1,Z4,Z4]
  have P0:=keep Y;refine{ZE _,λlt zb=>?_};have st:a8 C (upd C lt (.lst [])):=a8.upd zb;have P1:(upd C lt (.lst [])) lt=ρ (.lst []):=a7;generalize upd C lt (.lst [])=Ht at st P1;have t:∀{u:Hp},(∀c o,Ht c=ρ o->c≠lt->u c=ρ o)->a8 C u:=λY c o e=>Y _ _ (st _ _ e) (aa e zb);have Tz:lf≠lt:=aa O0 zb
  refine{1,ay,rfl,{_,(P0.trans st).seq Tx},cn (K:=K) (a:=ay) (xs:=rs.map V.ref) (λi σ u=>∃(D G:Option V) (bs:List V),σ=[ρ (.ref ah),ρ (.ref aw),ρ (.ref al),ρ (.int (d:Int)),ρ (.ref an),ρ (.int w),ρ (V.ref ls),ρ (.ref lo),ρ (.ref lu),ρ (.ref B),ρ (.ref lf),ρ (.ref ay),ρ (.ref lt),D,G,τ,τ]/\u lt=ρ (.lst bs)/\(∀c o,Ht c=ρ o->c≠lt->u c=ρ o)/\aQ K (aO Ht u) ((eB d f.length (S.take i)).map eF) bs)
   {_,_,[],rfl,P1,λc o e _=>e,rfl} (λi σ u _ {_,_,_,_,_,kt,_}=>(P0.trans (t kt)).seq Tx) ?_ ?_}
  .rintro i y σ u hy ⟨D,G,bs,rfl,U,kt,hB⟩;have hi:i<rs.9:=by have:=(Za.mp hy).1;rwa[Z4]at this
   have Mi:i<S.9:=1.0;rw[Z9,Z5 hi]at hy;cases hy;have JP:H4 rs[i]=ρ (.tup [.str S[i].1,.int (S[i].2:Int)]):=hT.2 i rs[i] (lR (ee S[i])) (Z5 hi) (by rw[Z9,Z9,Z5 Mi];rfl);have Rt:S.take (i+1)=S.take i++[S[i]]:=by rw[Ô,Z5 Mi];rfl
   have JS:bs.9<=2*i:=by
    rw[hB.len,Z4];exact Zn (lG d f.length _) (wdZ 2 (by rw[Zq];omega))
   generalize S[i]=q at JP Rt;have O2:=t kt;refine{rs[i],1,g8.of ((P0.trans O2) _ _ JP),rfl,_,1,_,1,rfl,?_};refine{1,.inl {rfl,_,aM.of U},2,by show 2<=sizeLine;decide,λr hr=>?_};refine{lt,_,1,rfl,a8.upd hr _ _ U,J _ 1.0,?_};have TC:∀c o,(upd u r (.tup [.str q.1,.int (q.2:Int)])) c=ρ o->c≠lt->(upd (upd u r (.tup [.str q.1,.int (q.2:Int)])) lt (.lst (bs++[.ref r]))) c=ρ o:=λc o e hc=>by rw[af hc];exact e
   have O3:∀c o,Ht c=ρ o->c≠lt->(upd (upd u r (.tup [.str q.1,.int (q.2:Int)])) lt (.lst (bs++[.ref r]))) c=ρ o:=λc o e hc=>TC _ _ (a8.upd hr _ _ (kt c o e hc)) hc
   have r0:Ht r=τ:=by
    cases z:Ht r with
    |none=>rfl
    |some o=>
     by_cases hc:r=lt
     .rw[hc,U]at hr;cases hr
     .rw[kt _ _ z hc]at hr;cases hr
   have Ru:aQ K (aO Ht (upd (upd u r (.tup [.str q.1,.int (q.2:Int)])) lt (.lst (bs++[.ref r])))) ((eB d f.length (S.take i)).map eF++[eF q]) (bs++[.ref r]):=by
    refine cW (aQ.same ((dm (a8.upd hr)).trans (bu P1 TC)) _ _ hB) ?_;have Rv:r≠lt:=λz=>by rw[z,U]at hr;cases hr
    exact{r,1,bO r0 (by rw[af Rv,a7]),.str q.1,[.int (q.2:Int)],rfl,⟨rfl,rfl⟩,.int (q.2:Int),[],rfl,⟨rfl,rfl⟩,rfl}
   have X:(upd (upd u r (.tup [.str q.1,.int (q.2:Int)])) lt (.lst (bs++[.ref r]))) lt=ρ (.lst (bs++[.ref r])):=a7;generalize upd (upd u r (.tup [.str q.1,.int (q.2:Int)])) lt (.lst (bs++[.ref r]))=H7 at O3 Ru X;have X4:a8 H1 H7:=OU.trans (OW.trans (P0.trans (t O3)))
   by_cases Mj:q.2=d
   .refine{2,rfl,true,congrArg V.bl (decide_eq_true (by rw[Mj])),dC ?_};refine{1,.inl {rfl,_,aM.of X},2,al,xs,rfl,.inl (X4.seq (.inl hc)),by show 2<=sizeLine;decide,λZ v=>?_};rw[xl]at *;refine{lt,_,1,rfl,a8.upd v _ _ X,J _ (by rw[Zd,Ŏ];omega),?_};have TF:∀c o,(upd H7 Z (.tup [.str q.1,.int (f.9:Int)])) c=ρ o->c≠lt->(upd (upd H7 Z (.tup [.str q.1,.int (f.9:Int)])) lt (.lst (bs++[.ref r]++[.ref Z]))) c=ρ o:=λc o e hc=>by rw[af hc];exact e
    have R9:Ht Z=τ:=by
     cases z:Ht Z with
     |none=>rfl
     |some o=>
      by_cases hc:Z=lt
      .rw[hc,X]at v;cases v
      .rw[O3 _ _ z hc]at v;cases v
    refine{_,_,1,a7,λc o e hc=>TF _ _ (a8.upd v _ _ (O3 c o e hc)) hc,?_};rw[Rt,jc,if_pos Mj,Zk];have em:([q,(q.1,f.9)]:List (Str×Nat)).map eF=[eF q]++[eF (q.1,f.9)]:=rfl;rw[em,<-ZU];refine cW (aQ.same ((dm (a8.upd v)).trans (bu P1 TF)) _ _ Ru) ?_;have Rv:Z≠lt:=λz=>by rw[z,X]at v;cases v
    exact{Z,1,bO R9 (by rw[af Rv,a7]),.str q.1,[.int (f.9:Int)],rfl,⟨rfl,rfl⟩,.int (f.9:Int),[],rfl,⟨rfl,rfl⟩,rfl}
   .refine{2,rfl,false,congrArg V.bl (decide_eq_false λz=>Mj (by have:=V.int.inj z;omega)),aU ?_};refine{_,_,1,X,O3,?_};rw[Rt,jc,if_neg Mj,Zk];exact Ru
  rintro σ u ⟨D,G,bs,rfl,U,kt,hB⟩;rw[Z4,yS,ZI]at hB;have O2:=t kt;have TH:=O2 _ _ O0
  have YM:as.9=j:=by
   rw[hR.len,Z4,Z4,Zq];omega
  have kp:∀b o,u b=ρ o->b≠lf->(upd u lf (.lst (as++[.ref lt]))) b=ρ o:=λb o e hb=>by rw[af hb];exact e
  refine{1,.inl {rfl,_,aM.of TH},1,lf,_,1,rfl,TH,J _ 1.0,?_}
  have Rw:Hb lt=τ:=by
   cases z:Hb lt with
   |none=>rfl
   |some o=>rw[Y _ _ z Tz.symm]at zb;cases zb
  have old:a8 (aO Ht u) (aO Hb u):=λc o e=>by
   unfold aO at e ⊢
   cases q:Hb c with
   |none=>
    cases q2:Ht c with
    |none=>rw[q2]at e;exact e
    |some z=>rw[q2]at e;cases e
   |some z=>
    by_cases hc:c=lf
    .rw[hc,st _ _ O0]at e;cases e
    .rw[st _ _ (Y _ _ q hc)]at e;cases e
  refine{_,_,_,_,as++[.ref lt],rfl,a7,λc o e hc=>kp _ _ (O2 _ _ (Y c o e hc)) hc,?_};rw[lB,Zk,Zk];refine cW (aQ.same ((dm O2).trans (bu OZ kp)) _ _ hR) ?_;exact{lt,bs,rfl,.inl (bO Rw (kp _ _ U Tz.symm)),aQ.same (old.trans (bu OZ kp)) _ _ hB}
 .rintro σ C ⟨v11,Rr,D,G,as,rfl,O0,Y,hR⟩;rw[ul,ZI]at hR;have JV:=OX.trans (keep Y);have hw:=lK AV;have hh:=xg rh;have Ml:d<g.9:=1.0;have LN:lQ (g.map V.int) (d:Int)=ρ (.int (g.getD d 0)):=bz (by rw[Z9,Z5 Ml,Z8,Z5 Ml];rfl);have LO:lQ (I.map V.str) (d:Int)=ρ (.str (I.getD d "")):=bz (by rw[Z9,Z5 hd,Z8,Z5 hd];rfl);refine{2,aw,_,_,1,rfl,JV.seq (.inl hw),LN,1,_,1,rfl,?_};show dA 15 (V.int (g.getD d 0-w)) _ _ _;refine{3,aw,1,JV.seq (.inl hw),λl6 X5=>?_};rw[LL (g.map V.int) d (by rw[Z4];omega),<-Ĭ];refine{1,by show 1<=sizeLine;decide,λl7 O4=>?_};refine{l6,l7,_,[.int w],rfl,rfl,.inl (a8.upd O4 _ _ a7),.inl a7,big _ (by rw[Z4,Zq];show min d g.9+1<=_;omega),λl8 M5=>?_};have Rx:a8 C (upd (upd (upd C l6 (.lst ((g.take d).map V.int))) l7 (.lst [.int w])) l8 (.lst ((g.take d).map V.int++[.int w]))):=((a8.upd X5).trans (a8.upd O4)).trans (a8.upd M5);have h8:(upd (upd (upd C l6 (.lst ((g.take d).map V.int))) l7 (.lst [.int w])) l8 (.lst ((g.take d).map V.int++[.int w]))) l8=ρ (.lst ((g.take d).map V.int++[.int w])):=a7;generalize upd (upd (upd C l6 (.lst ((g.take d).map V.int))) l7 (.lst [.int w])) l8 (.lst ((g.take d).map V.int++[.int w]))=H8 at Rx h8;refine{2,_,1,rfl,1,aw,1,(JV.trans Rx).seq (.inl hw),λl9 O5=>?_};have ed:((d:Int)+1)=((d+1:Nat):Int):=1.0;rw[ed,GH,<-Γ];refine{l8,l9,_,1,rfl,.inl (a8.upd O5 _ _ h8),.inl a7,big _ (by rw[Zd,Z4,Z4,Zq,Ğ];show min d g.9+1+(g.9-(d+1))<=_;omega),λlv X6=>?_};have eh:(g.take d).map V.int++[V.int w]++(g.drop (d+1)).map V.int=(g.take d++[w]++g.drop (d+1)).map V.int:=by rw[Zk,Zk];rfl
  rw[eh];have TK:a8 H8 (upd (upd H8 l9 (.lst ((g.drop (d+1)).map V.int))) lv (.lst ((g.take d++[w]++g.drop (d+1)).map V.int))):=(a8.upd O5).trans (a8.upd X6);have TL:(upd (upd H8 l9 (.lst ((g.drop (d+1)).map V.int))) lv (.lst ((g.take d++[w]++g.drop (d+1)).map V.int))) lv=ρ (.lst ((g.take d++[w]++g.drop (d+1)).map V.int)):=a7;generalize upd (upd H8 l9 (.lst ((g.drop (d+1)).map V.int))) lv (.lst ((g.take d++[w]++g.drop (d+1)).map V.int))=Hv at TK TL;have TN:=Rx.trans TK;have TQ:=JV.trans TN;refine{3,ah,_,_,1,rfl,TQ.seq (.inl hh),LO,by show 1<=sizeLine;decide,λl10 GJ=>?_};refine{ah,l10,_,[.str (I.getD d "")],rfl,rfl,hZ (TQ.trans (a8.upd GJ)) hh,.inl a7,big _ (by rw[Z4];show I.9+1<=_;omega),λlh Hk=>?_};have GK:I.map V.str++[V.str (I.getD d "")]=(cq I d).map V.str:=by unfold cq;rw[Zk];rfl
  rw[GK];have Ry:a8 Hv (upd (upd Hv l10 (.lst [.str (I.getD d "")])) lh (.lst ((cq I d).map V.str))):=(a8.upd GJ).trans (a8.upd Hk);have TR:(upd (upd Hv l10 (.lst [.str (I.getD d "")])) lh (.lst ((cq I d).map V.str))) lh=ρ (.lst ((cq I d).map V.str)):=a7;generalize upd (upd Hv l10 (.lst [.str (I.getD d "")])) lh (.lst ((cq I d).map V.str))=Hh at Ry TR;refine{2,by show 1<=sizeLine;decide,λP4 O6=>?_};refine{lv,P4,_,[.int (g.getD d 0-w)],rfl,rfl,.inl (a8.upd O6 _ _ (Ry _ _ TL)),.inl a7,big _ (by rw[Z4,Zd,Zd,Zq,Ğ];show min d g.9+1+(g.9-(d+1))+1<=_;omega),λlz X7=>?_};have ez:(g.take d++[w]++g.drop (d+1)).map V.int++[V.int (g.getD d 0-w)]=(bF g d w).map V.int:=by rw[CM Ml,Zk (l₂:=[_])];rfl
  rw[ez];have Rz:a8 Hh (upd (upd Hh P4 (.lst [.int (g.getD d 0-w)])) lz (.lst ((bF g d w).map V.int))):=(a8.upd O6).trans (a8.upd X7);have TU:(upd (upd Hh P4 (.lst [.int (g.getD d 0-w)])) lz (.lst ((bF g d w).map V.int))) lz=ρ (.lst ((bF g d w).map V.int)):=a7;generalize upd (upd Hh P4 (.lst [.int (g.getD d 0-w)])) lz (.lst ((bF g d w).map V.int))=Hz at Rz TU;refine{1,by show 3<=sizeLine;decide,λp hp=>?_};have sp:a8 Hz (upd Hz p (.tup [.ref lh,.ref lz,.ref lf])):=a8.upd hp;have RA:=TN.trans (Ry.trans Rz);refine k p _ ((JV.trans RA).trans sp) {p,1,a7,.ref lh,[.ref lz,.ref lf],rfl,km (sp _ _ (Rz _ _ TR)),.ref lz,[.ref lf],rfl,gb (sp _ _ TU),.ref lf,[],rfl,{lf,as,rfl,.inl (sp _ _ (RA _ _ O0)),aQ.same ((cS _ _).trans (RA.trans sp)) _ _ hR},rfl}
theorem d9(L:Lk K mg):aW P w K mg base cY 1 L.tP L.tW ["_law_script","_law_k"] (Nm K):=by
 refine L.dv.F.dP (N:=["_law_script","_law_k","_law_cell"]) (λg A outer s H n Q E nd o h=>?_)
 let{a,ns,p,rfl,j,k}:=h
 refine{_,(a6 (forA (aG (cB gH (0) (cx (1)) (cx (aF dJ (1) ae)))) (az (i:=2)) (a9 (ao (2))))
  (a9 (ao ae))),?_}
 ac_rfl
 refine{4,_,1,rfl,1,a,1,j,λl hl=>?_}
 let{d,em,_}:=z0 ns (ρ p) (ρ (p+1))
 rw[em];have f:a8 H (upd H l (.lst (d.map V.int))):=a8.upd hl;refine{l,rfl,{_,aM.of a7},cn (K:=K) (a:=l) (xs:=d.map V.int) (λi σ b=>b=upd H l (.lst (d.map V.int))/\∃e,σ=[ρ (.ref a),ρ (.int p),e]) ⟨rfl,τ,rfl⟩ (λi σ b _ q=>by rw[q.1];exact aM.of a7) ?_ ?_}
 .rintro i y σ b m ⟨rfl,e,rfl⟩
  let{c,1}:=Ze.mp (Zv m)
  exact{_,rfl,k c _ f}
 .rintro σ b ⟨rfl,e,rfl⟩;exact k 0 _ f
theorem uR(L:Lk K mg):aW P w K mg base cY 2 L.jo L.oF ["_law_script","_law_at","_law_signs_here","_law_most","_law_long"] (FK K):=by
 have T:=L.T;refine L.oW.F.dP (N:=["_law_script","_law_at","_law_signs_here","_law_most","_law_long","_law_words_here","_law_k","_law_cell","_law_size","_law_word"]) (λfI A outer s H vs Q E nd hr h=>?_)
 let{a,ns,p,g,m,n,rfl,hS,OH,Td,Y,X8,X9,RB,k}:=h
 have Lz:(A.deeper (İ "_law_words" (aD (top 80)) s.heap.objs.size L.jo fI)).units<À:=hr.kd
 refine{_,(a6 (aT (ck ju (ag (aX L) L.b0 (a5 (ag (d9 L) L.dv (a5 (0) (aC (1)))) (a5 ae (aC ae)))) ae) (a9 (ao (bC (wV rfl) (by rfl) T.list eV (aC (2))))) aB)
  (a6 (ai (i:=5) (bB dS))
  (a6 (forA (cy rfl T.range (aC (ak (iK rfl) (by rfl) T.min CH (a5 (3) (aC (b4 bA (bB (a5 ae (a5 ae (a5 ae (a5 ae (a5 ae (a5 ae (a5 ae (aC ae))))))))) (ag (aX L) L.b0 (a5 (ag (d9 L) L.dv (a5 (0) (aC (1)))) (a5 ae (aC ae)))) (λ_ _=>rfl))))))) (az (i:=6)) (a6 (ai (i:=7) (ag (d9 L) L.dv (a5 (0) (aC (aF dJ (1) (6))))))
  (a6 (ai (i:=8) (ak (iK rfl) (by rfl) T.min CH (a5 (4) (aC (b4 bA (bB (a5 ae (a5 ae (a5 ae (a5 ae (a5 ae (a5 ae (a5 ae (aC ae))))))))) (ag (aX L) L.b0 (a5 (7) (a5 ae (aC ae)))) (λ_ _=>rfl))))))
  (a6 (ai (i:=9) (fJ wdp wdD wdE wO fh (aC (bR rfl (aq ["_law_signs_here","_law_cell"] [2,7]) (cy rfl T.range (aC (8))) (λ_ _ _ _ _ _=>b8) (λ_ _ _ _ _ _=>(b4 sC (1) (ag (aX L) L.b0 (a5 (2) (a5 (aF dJ ae (0)) (aC (FZ T.len (1)))))) (λ_ _=>rfl)))))))
  (Bz (aT (PW.pt (Ew (ck (AD Lz) (5) (bB dS)) (Bu (ck ju (ag (aX L) L.b0 (a5 (7) (a5 ae (aC ae)))) ae)))) (a9 (ai (i:=9) (aF dX (cB mN (b4 bA (5) (JA EA ae) (λ_ _=>rfl)) eX (cx (aF gn (8) ae))) (cB mN (9) eX (cx ae))))) aB)
  (a9 (bH (fJ ZK ZS ZT cb (5) (aC (9))))))))))
  (a9 (ao (5)))))),?_}
 ac_rfl
 refine{2,a,ns,p,rfl,hS,λc1 H1 s1=>?_};refine⟨c1,13,16,rfl,⋯,⋯,⋯,λd1 _ _=>?_⟩;refine{rfl,1,rT (λ_=>?_) (λ_=>?_)}
 .refine{1,g,rfl,av 1.0,λl hl=>?_};refine k l ((ch g).map λc=>({#[c]}:Str)) _ (s1.trans (a8.upd hl)) (none_of s1 hl) ?_ ?_ ?_
  .rw[a7,Zj];rfl
  .rw[Z4,b7];exact RB
  .intro w hw
   let{c,hc,rfl}:=Ze.mp hw
   refine{{Zf 1,by show 1<=5;decide,λd hd=>?_},Y};rw[Zz.mp hd];exact hc
 refine{ZE _,λl hl=>?_};have fl:H l=τ:=none_of s1 hl;refine{1,⋯,λp8 Z=>?_};have s8:=(s1.trans (a8.upd (o:=.lst []) hl)).trans (a8.upd (o:=.lst [.int 1,.int 2,.int 1,.int 3,.int 0,.int 2,.int 4,.int 3]) Z);refine{2,a,ns,p,rfl,s8.seq hS,λc2 H2 s2=>?_};refine⟨c2,4,8,rfl,⋯,⋯,⋯,λd2 h0 h1=>?_⟩
 let{na,Xa,a0,a4}:=Nt d2 h0 h1
 refine{p8,_,d2,1,rfl,aM.of (s2 _ _ a7),Xa,m,na,rfl,?_}
 obtain⟨S,Xb,YN,YQ⟩:∃S:Int,(if na<m then na else m)=S/\0<=S/\S<=4:=by
  by_cases z:na<m
  .exact{na,if_pos z,a0,a4}
  .exact{m,if_neg z,OH,1.0}
 rw[Xb];have Xc:H2 l=ρ (.lst []):=s2 _ _ (a8.upd Z _ _ a7);have DZ:=s8.trans s2
 refine{S,rfl,1.0,1.0,cT (lo:=0) (n:=S.toNat) (λi σ H3=>∃(r:List Str) (v6 v7 v8 v9:Option V),σ=[ρ (.ref a),ρ (.int p),ρ (.str g),ρ (.int m),ρ (.int n),ρ (.ref l),v6,v7,v8,v9]/\a8 H H3/\H3 l=ρ (.lst (r.map V.str))/\r.9=i/\∀w∈r,jV g w/\(w.9:Int)<=n)
  {[],τ,τ,τ,τ,rfl,DZ,Xc,rfl,(λw h=>nomatch h)} ?_ ?_}
 .rintro i σ H3 hi ⟨r,v6,v7,v8,v9,rfl,s3,h3,vU,D⟩;refine{3,_,1,rfl,a,ns,1,s3.seq hS,λM H4 s4=>?_};have h4:=s4 _ _ h3;refine{1,⋯,λp9 O=>?_};refine⟨_,rfl,M,5,8,rfl,⋯,⋯,⋯,λd3 h0 h1=>?_⟩
  let{nb,Xd,b1,b5}:=Nu d3 h0 h1
  refine{p9,_,d3,1,rfl,aM.of a7,Xd,n,nb,rfl,?_}
  obtain⟨sz,RC,Xe,Xf,YR⟩:∃sz:Int,(if nb<n then nb else n)=sz/\1<=sz/\sz<=5/\sz<=n:=by
   by_cases z:nb<n
   .exact{nb,if_pos z,b1,b5,1.0}
   .exact{n,if_neg z,Y,X8,1.0}
  rw[RC];have TV:=a8.upd (o:=.lst [.int 3,.int 2,.int 4,.int 3,.int 2,.int 5,.int 3,.int 1]) O _ _ h4;have TX:=(s3.trans s4).trans (a8.upd (o:=.lst [.int 3,.int 2,.int 4,.int 3,.int 2,.int 5,.int 3,.int 1]) O);refine{rfl,1,sz,rfl,1.0,1.0,λlc wB=>?_};refine xX (λy=>∃t,y=.str t/\∃M,t={#[M]}/\M∈ch g) (f9 0 sz.toNat) wB (by rw[Z4,ZJ];exact av 1.0) (λ_ _=>trivial) (λx H5 Q' hx s5 q=>?_) (λys H5 s5 u hR h5=>?_)
  .let{j,hj,rfl}:=Ze.mp hx
   have Xg:j<sz.toNat:=Í.mp hj;refine{3,_,1,rfl,1,g,rfl,av 1.0,M,6+(0+(j:Int)),g.9,rfl,1.0,1.0,1.0,λU h0 h1=>?_};have hd:U.toNat<(ch g).9:=by rw[b7];omega
   have e1:(ch g)[U.toNat]?=ρ (ch g)[U.toNat]:=by simp[hd]
   have e2:=bz e1;rw[show ((U.toNat:Nat):Int)=U by omega]at e2;exact{g,U,1,rfl,av 1.0,e2,q _ H5 {_,rfl,1,ZQ hd} (a8.refl _)}
  let{X,rfl,G}:=wG hR
  rw[Z4,Z4,ZJ]at u;have I:=nB G;have OA:=Fo (z:="") ∅ G;refine{_,lc,X,rfl,rfl,aM.of h5,?_,?_}
  .rw[I];show X.9+X.9*0<=16777216;omega
  have f:jV g (û "" X):=vN ∅ 1.0 1.0 G;have R:(û "" X).length=sz.toNat:=by rw[OA,u]
  generalize û "" X=v at f R;clear I OA G u hR;have h6:=s5 _ _ TV;have s6:=TX.trans s5;clear wB h5 TV TX O h4;refine{λσ H7=>∃v,σ=[ρ (.ref a),ρ (.int p),ρ (.str g),ρ (.int m),ρ (.int n),ρ (.ref l),ρ (.int (0+(i:Int))),ρ (.int M),ρ (.int sz),ρ (.str v)]/\a8 H5 H7/\jV g v/\(v.9:Int)<=n,?_,?_}
  .refine{1,ZE _,λle B=>{l,le,_,1,rfl,aM.of (a8.upd B _ _ h6),aM.of a7,cR _,rfl,1,?_}};refine rT (λya=>?_) (λ_=>aU {v,rfl,a8.upd B,f,1.0});refine⟨_,rfl,M,12,4,rfl,⋯,⋯,⋯,λd4 _ _=>{rfl,1,rT (λ_=>?_) (λ_=>{v,rfl,a8.upd B,f,1.0})}⟩
   obtain⟨TY,wl,RD⟩:∃TY wl,r=TY++[wl]:=by
    refine{r.dropLast,r.getLast (by intro z;rw[z]at ya;exact absurd ya ⋯),(wbT _).symm}
   have J:=(D wl (by rw[RD];exact ZV _ (Zz.mpr rfl))).1;have e2:lQ (r.map V.str) (-1)=ρ (.str wl):=by rw[RD,Zk];exact xN _ _
   have JU:=Ĺ wl τ (ρ (sz-1));have E1:=Ĺ v τ (ρ 1);have YS:=J.hi;have YT:=f.hi;refine{2,l,_,_,1,rfl,aM.of (a8.upd B _ _ h6),e2,1,_,1,rfl,1,wl,rfl,av 1.0,2,v,rfl,av 1.0,_,1,rfl,av 1.0,?_};have C:=G3 (k:=(sz-1).toNat) J f 1.0;rw[show (((sz-1).toNat:Nat):Int)=sz-1 by omega]at C;exact{1,a8.upd B,C.1,by have:=C.2;omega}
  .rintro σ H7 ⟨v,rfl,s7,f,R⟩;have h7:=s7 _ _ h6;refine{1,.inl {rfl,_,aM.of h7},1,l,_,1,rfl,h7,by rw[Z4];exact bN 1.0,?_};refine{r++[v],_,_,_,1,λb o e=>?_,?_,by simp[vU],λw hw=>?_}
   .rw[af (aa e fl)];exact(s6.trans s7) _ _ e
   .rw[a7,Zk];rfl
   .rcases ZH.mp hw with z |z
    .exact D w z
    .have:w=v:=by simpa using z
     subst this;exact⟨f,R⟩
 .rintro σ H3 ⟨r,v6,v7,v8,v9,rfl,s3,h3,vU,D⟩;exact{_,rfl,k l r H3 s3 fl h3 1.0 D}
theorem RE(ns:List Int):∃g:List Int,lO (ns.map V.int) (ρ 1) (ρ 7)=g.map V.int/\g.9<=6:=by
 refine{_,by delta lO;rw[<-Γ,<-Ĭ],?_};rw[Zq,Ğ,Z4];have a:HT.uP ns.length 0 (ρ 1)=min 1 ns.9:=by unfold HT.uP;simp
 have b:HT.uP ns.length ns.length (ρ 7)=min 7 ns.9:=by unfold HT.uP;simp
 rw[a,b];omega
theorem z4(L:Lk K mg):aW P w K mg base cY 2 L.tQ L.tX ["_law_script","_law_signs_here"] (Iu K):=by
 have T:=L.T;refine L.u0.F.dP (N:=["_law_script","_law_signs_here","_law_words_here","_law_cell","_law_size"]) (λfI A outer s H vs Q E nd hr h=>?_)
 let{a,ns,g,rfl,hS,X9,RB,k}:=h
 refine{_,(a6 (ai (i:=2) (bB dS))
  (a6 (forA (aG (cB gH (0) (cx ae) (cx ae))) (az (i:=3)) (a6 (ai (i:=4) (aF dJ ae (ag (aX L) L.b0 (a5 (3) (a5 ae (aC ae))))))
  (a9 (bH (fJ ZK ZS ZT cb (2) (aC (fJ wdp wdD wdE wO fh (aC (bR rfl (aq ["_law_signs_here","_law_cell"] [1,3]) (cy rfl T.range (aC (4))) (λ_ _ _ _ _ _=>b8) (λ_ _ _ _ _ _=>(b4 sC (1) (ag (aX L) L.b0 (a5 (2) (a5 (aF dJ ae (0)) (aC (FZ T.len (1)))))) (λ_ _=>rfl))))))))))))
  (a9 (ao (2))))),?_}
 ac_rfl
 refine{ZE _,λl hl=>?_};have fl:H l=τ:=hl
 let{O,v}:=cJ (H:=H) (o:=.lst []) hl
 show dA 2 (V.ref l) _ _ _;generalize upd H l _=H1 at O v;refine{3,a,1,O.seq hS,λB f=>?_}
 let{I,em,R}:=RE ns
 rw[em]
 let{S,U}:=cJ (H:=H1) (o:=.lst (I.map V.int)) f
 generalize upd H1 B _=H2 at S U;have X:B≠l:=λz=>by rw[z,v]at f;cases f
 refine{B,rfl,{_,aM.of U},cn (K:=K) (a:=B) (xs:=I.map V.int) (λi σ r=>Qv a l g H i σ r/\r B=ρ (.lst (I.map V.int))) {{[],τ,τ,rfl,O.trans S,S _ _ v,rfl,(λw h=>nomatch h)},U} (λi σ r _ q=>aM.of q.2) ?_ ?_}
 .rintro i y σ r hy ⟨⟨Y,v3,v4,rfl,Z,J,m,n⟩,Xh⟩
  let{C,1}:=Ze.mp (Zv hy)
  have hi:i<I.9:=by have:=(Za.mp hy).1;rwa[Z4]at this
  refine⟨_,rfl,C,5,3,rfl,⋯,⋯,⋯,λd3 h0 v=>{_,1,rfl,?_}⟩;obtain⟨sz,RC,Xe,Xf⟩:∃sz:Int,3+d3=sz/\1<=sz/\sz<=5:={1,1.0,1.0};show dA 4 (V.int (3+d3)) _ _ _;rw[RC];refine{1,.inl {rfl,_,aM.of J},rfl,1,sz,rfl,1.0,1.0,λlc wB=>?_};refine xX (λy=>∃t,y=.str t/\∃C,t={#[C]}/\C∈ch g) (f9 0 sz.toNat) wB (by rw[Z4,ZJ];exact av 1.0) (λ_ _=>trivial) (λx H5 Q' hx M q=>?_) (λys H5 M c hR h5=>?_)
  .let{j,hj,rfl}:=Ze.mp hx
   have Xg:j<sz.toNat:=Í.mp hj;refine{3,_,1,rfl,1,g,rfl,av 1.0,C,6+(0+(j:Int)),g.9,rfl,1.0,1.0,1.0,λu h0 v=>?_};have hd:u.toNat<(ch g).9:=by rw[b7];omega
   have e1:(ch g)[u.toNat]?=ρ (ch g)[u.toNat]:=by simp[hd]
   have e2:=bz e1;rw[show ((u.toNat:Nat):Int)=u by omega]at e2;exact{g,u,1,rfl,av 1.0,e2,q _ H5 {_,rfl,1,ZQ hd} (a8.refl _)}
  let{D,rfl,p}:=wG hR
  rw[Z4,Z4,ZJ]at c;have d:=nB p;refine{_,lc,D,rfl,rfl,aM.of h5,?_,?_}
  .rw[d];show D.9+D.9*0<=16777216;omega
  have G:jV g (û "" D):=vN ∅ 1.0 1.0 p;generalize û "" D=wd at G;clear d p c hR;have h6:=M _ _ J;refine{l,_,1,rfl,h6,by rw[Z4];exact bN 1.0,?_};refine{{Y++[wd],_,1,λb o e=>?_,?_,by simp[m],λw hw=>?_},?_}
  .rw[af (aa e fl)];exact(Z.trans M) _ _ e
  .rw[a7,Zk];rfl
  .rcases ZH.mp hw with z |z
   .exact n w z
   .have:w=wd:=by simpa using z
    subst this;exact G
  .rw[af X];exact M _ _ Xh
 .rintro σ r ⟨⟨Y,v3,v4,rfl,Z,J,m,n⟩,_⟩;exact{1,k l Y r Z J (by rw[m,Z4];exact R) n}
theorem uS(L:Lk K mg):aW P w K mg base cY 1 L.oh L.oJ ["_law_signs_here","_law_turn"] KY:=by
 refine L.oY.F.dP (N:=["_law_signs_here","_law_turn","_law_one","_law_two"]) (λfI A outer s H vs Q E nd hr h=>?_)
 let{g,t,rfl,DL,RB,t0,t5,k}:=h
 refine{_,(a6 (ai (i:=2) (b4 sC (0) ae (λ_ _=>rfl)))
  (a6 (ai (i:=3) (b4 sC (0) ae (λ_ _=>rfl)))
  (a6 (aT (ck gO (1) ae) (a9 (ao (cM (a5 (cB gH (bB (a5 (aF j9 (3) ae) (aC (aF dX (2) (aF j9 (3) ae))))) eX (cx (aF dJ (1) ae))) (aC ae))))) aB)
  (a9 (ao (cM (a5 (cB gH (bB (a5 (aF j9 (3) ae) (a5 (aF dX (2) (aF j9 (3) ae)) (a5 (aF dX (aF j9 (2) ae) (aF j9 (3) ae)) (aC (aF dX (aF dX (3) (2)) (aF j9 (3) ae))))))) eX (cx (b4 bA (bB (a5 ae (a5 ae (aC ae)))) (aF gn (1) ae) (λ_ _=>rfl)))) (aC ae)))))))),?_}
 ac_rfl
 have T:0<(ch g).9:=by rw[b7];omega
 have U:1<(ch g).9:=by rw[b7];omega
 have e0:lQ (ch g) (0:Int)=ρ (ch g)[0]:=bz (j:=0) (Z5 T);have e1:lQ (ch g) (1:Int)=ρ (ch g)[1]:=bz (j:=1) (Z5 U);have m:=iz.one (ZQ T);have e:=iz.one (ZQ U);refine⟨_,rfl,g,0,_,rfl,rfl,av 1.0,e0,?_⟩;refine⟨_,rfl,g,1,_,rfl,rfl,av 1.0,e1,?_⟩;generalize ({#[(ch g)[0]]}:Str)=a at m;generalize ({#[(ch g)[1]]}:Str)=b at e;refine{1,_,1,rfl,1,rT (λx=>?_) (λx=>?_)}
 .have x:=of_decide_eq_true x;have c:iz g (é b 4) 4:=e.mul 4;refine⟨_,rfl,b,4,rfl,rfl,e.ok 4 ⋯,_,rfl,_,rfl,b,4,rfl,rfl,e.ok 4 ⋯,_,_,rfl,rfl,m.sum c ⋯,by show 2<=sizeLine;decide,λl hl=>?_⟩;have r:=m.app c;generalize é b 4=d at c r hl;generalize a++d=q at r hl
  let{y,B}:=cJ (H:=H) (o:=.lst [V.str d,V.str q]) hl
  generalize upd H l _=C at y B;refine{1,_,1,rfl,((t+1).toNat:Int),congrArg V.int 1.0,l,1,aM.of B,λD u=>?_};rw[xF,show [V.str d,V.str q]=[d,q].map V.str from rfl,<-Ĭ]
  let{v,f}:=cJ (H:=C) (o:=.lst (([d,q].take (t+1).toNat).map V.str)) u
  generalize upd C D _=M at v f;refine{by show 2<=sizeLine;decide,λp G=>k p D _ 7 _ (y.trans (v.trans (a8.upd G))) a7 (a8.upd G _ _ f) (by rw[Zq];show min _ 2<=4;omega) (λw hw=>?_) ⋯ ⋯};rcases ZD.mp (ś hw) with z |z
  .rw[z];exact c.word ⋯ ⋯
  .rw[Zz.mp z];exact r.word ⋯ ⋯
 .have x:=of_decide_eq_false (wgY.mpr x);have c:iz g (é b 3) 3:=e.mul 3;have X:iz g (é a 2) 2:=m.mul 2;have Y:=e.app m;refine⟨_,rfl,b,3,rfl,rfl,e.ok 3 ⋯,_,rfl,_,rfl,b,3,rfl,rfl,e.ok 3 ⋯,_,_,rfl,rfl,m.sum c ⋯,_,rfl,a,2,rfl,rfl,m.ok 2 ⋯,_,rfl,b,3,rfl,rfl,e.ok 3 ⋯,_,_,rfl,rfl,X.sum c ⋯,_,rfl,_,rfl,_,_,rfl,rfl,e.sum m ⋯,_,rfl,b,3,rfl,rfl,e.ok 3 ⋯,_,_,rfl,rfl,Y.sum c ⋯,by show 4<=sizeLine;decide,λl hl=>?_⟩;have r:=m.app c;have O:=X.app c;have R:=Y.app c;generalize é b 3=d at c r O R hl;generalize a++d=q at r hl;generalize é a 2++d=I at O hl;generalize b++a++d=J at R hl
  let{y,B}:=cJ (H:=H) (o:=.lst [V.str d,V.str q,V.str I,V.str J]) hl
  generalize upd H l _=C at y B;refine{by show 3<=sizeLine;decide,λZ S=>?_}
  let{v,f}:=cJ (H:=C) (o:=.lst [V.int 1,V.int 4,V.int 3]) S
  generalize upd C Z _=M at v f
  let{n,hn,YV}:=Ir (t-2) 1.0 1.0
  refine{1,_,1,rfl,Z,_,_,1,rfl,aM.of f,hn,(n:Int),rfl,l,1,aM.of (v _ _ B),λD u=>?_};rw[xF,show [V.str d,V.str q,V.str I,V.str J]=[d,q,I,J].map V.str from rfl,<-Ĭ]
  let{s3,h3}:=cJ (H:=M) (o:=.lst (([d,q,I,J].take n).map V.str)) u
  generalize upd M D _=H3 at s3 h3;refine{by show 2<=sizeLine;decide,λp G=>k p D _ 6 _ (y.trans (v.trans (s3.trans (a8.upd G)))) a7 (a8.upd G _ _ h3) (by rw[Zq];show min _ 4<=4;omega) (λw hw=>?_) ⋯ ⋯};rcases ZD.mp (ś hw) with z |z
  .rw[z];exact c.word ⋯ ⋯
  rcases ZD.mp z with z |z
  .rw[z];exact r.word ⋯ ⋯
  rcases ZD.mp z with z |z
  .rw[z];exact O.word ⋯ ⋯
  .rw[Zz.mp z];exact R.word ⋯ ⋯
end
end K34
namespace _L
theorem DR{Ok:Hp->Prop}{Q:Hp->Prop}(R:Nat->V->Hp->Prop)(I:∀i y T g ys,R i y T->T l=ρ (.lst ys)->(∀b o,T b=ρ o->b≠l->g b=ρ o)->R i y g)(U:jS J Ok xs)(hl:H l=τ)(hz:xs.9<=sizeLine)(t:∀r,a8 H r->Ok r)
 (he:∀i x C ys,xs[i]?=ρ x->a8 H C->C l=ρ (.lst ys)->∃p a b c,x=.ref p/\g8 K C p [a,b,c]/\∀Q',(∀y r,a8 C r->R i y r->Q' y r)->te (ρ a::ρ b::ρ c::σf) C Q')
 (hd:∀ys r,a8 H r->r l=ρ (.lst ys)->ys.9=xs.9->(∀i y,ys[i]?=ρ y->R i y r)->Q r):sE K J l σf rV te H Q:=by
 refine{λi m d g=>m=xs.9-i/\i<=xs.9/\a8 H g/\g l=ρ (.lst d)/\d.9=i/\∀j y,d[j]?=ρ y->R j y g,{xs.9,by simp,ZE _,a8.upd hl,a7,rfl,λj y h=>by simp at h},?_};rintro i m d g ⟨rfl,hi,n,q,f,E⟩;refine{q,?_}
 by_cases k:i<xs.9
 .refine .inr {U.go i g (t _ n) k,by rw[f];lia,λx C y=>?_}
  let{e,G}:=U.ur i g x C (t _ n) k y
  subst e
  let{p,a,b,c,rfl,L,M}:=he i x _ d G n q
  refine{p,a,b,c,rfl,L,?_};delta rV;dsimp only;rw[if_pos rfl];refine M _ λy v w A=>{w _ _ q,xs.9-(i+1),(),rfl,k,λb o e=>?_,a7,by rw[Zd,f];rfl,λj z s=>?_}
  .rw[af (aa e hl)];exact w _ _ (n _ _ e)
  .have u:=w _ _ q;have kp:∀b o,v b=ρ o->b≠l->(upd v l (.lst (d++[y]))) b=ρ o:=λb o e N=>by rw[af N];exact e
   by_cases B:j<d.9
   .rw[ZN B]at s;exact I j z v _ _ (I j z _ _ _ (E j z s) q λb o e _=>w _ _ e) u kp
   .rw[ZL ()]at s
    have D:j-d.9=0:=by
     have:=(Za.mp s).1;simp at this
     lia
    rw[D]at s;cases s;have:j=i:=();rw[this];exact I i y v _ _ A u kp
 .have e:i=xs.9:=();subst e;exact .inl {U.stop g (t _ n),hd d g n q f E}
theorem GL{Ok:Hp->Prop}{Q:Hp->Prop}(t:List gi)(hJ:jS J Ok xs)(hl:H l=τ)(hz:xs.9<=sizeLine)(C:t.9=xs.9)(T:∀g,a8 H g->Ok g)
 (he:∀(i:Nat) (x:V) (d:gi) j,xs[i]?=ρ x->t[i]?=ρ d->a8 H j->∃p a b c,x=.ref p/\g8 K j p [a,b,c]/\∀I,(∀y g,a8 j g->bh K (aO j g) d y->I y g)->te (ρ a::ρ b::ρ c::U) j I)
 (hd:∀g,a8 H g->bh K (aO H g) (.lst t) (.ref l)->Q g):sE K J l U rV te H Q:=by
 refine DR (λi y g=>∀d,t[i]?=ρ d->∃j o,a8 H j/\j l=ρ o/\bh K (aO j g) d y) ?_ hJ hl hz T (λi x j n s h k=>?_) (λn g q u m v=>?_)
 .intro i y E G n r w kp d f
  let{j,o,h,k,r}:=r d f
  exact{j,o,h,k,bh.same (bu k kp) d y r}
 .have hi:i<t.9:=by rw[C];exact(Za.mp s).1
  let{p,a,b,c,e,z,A}:=he i x t[i] j s (Z5 hi) h
  refine{p,a,b,c,e,z,λI B=>A I λy g q r=>B y g q λd f=>?_};rw[Z5 hi]at f;cases f;exact{j,_,h,k,r}
 .refine hd g q {l,n,rfl,.inl (bO hl u),aQ.mL t n (by rw[C,m]) λi d y f D=>?_}
  let{j,o,h,k,r}:=v i y D d f
  exact bh.same (fu h) d y r
end _L
namespace _L
open PySem.Spec PyProof.Rows PySem.W
section
variable{t:Nat}{C:Addr}
noncomputable abbrev fk(C t:Addr):Obj:={cls:=.ref C,data:=.fields #[.ref t,.none,.none,.none,.bool false,.none]}
noncomputable abbrev pY(vs:List Value):Obj:={cls:=.type "tuple",data:=.seq vs.6}
end
end _L
namespace _L
open PySem.Spec PyProof.Rows
noncomputable def XN(x C:Addr):HO:=.ext λh=>∃t,h.get? x=ρ (fk C t)
def LQ(K:Z6)(CB:Addr)(t:TA):TE:=λσ H Q=>t σ H λvs H1=>∃x C nm m,vs=[.ref x,m]/\H1 x=ρ (XN x C)/\cg K C CB nm/\Q .non H1
def LR(K:Z6)(C:Addr)(sp:Sp)(E:XK)(t:TA):TS:=λ_ σ H=>t σ H λvs H1=>vs.9<=sizeLine/\∀x,H1 x=τ ->
 sp (.ref x::vs) (upd H1 x (XN x C)) (λv H2=>v=.non/\((H2 x=ρ (XN x C)/\E (.ref C) τ (del H2 x))\/∃d,H2 x=ρ (XD x C d)/\E (.ref C) (ρ d) (del H2 x))) E0
section
variable{prog:ZC}{w:World}{A:Around}{R:à->Shared->Prop}{h:Heap}{g:Array õ}{d:Drawn}{t:Nat}{os:Ì}{nm q:Str}{C CB N:Addr}{bs:List Value}{hdct:Bool}{sn:List Str}{sub:List Value}{ab:Bool}{col:Option Bool}{dd:Option Addr}{k0 k1 k2 k3 k5:Option Value}
theorem GN{rest:List Value}{init:Value}{p:Around}(l:h.get? C=ρ (Ý nm q C N bs (pQ CB) hdct sn sub ab col dd k0 k1 k2 k3 k5 "ValueError.__new__"))
 (hi:Looks (model prog w) h (δ (.ref C) "__init__") (ρ init)) (J:∀self,Looks (model prog w) h (bindSpecial init self) (init,[self])) (j:rest.9<=sizeLine)
 (T:codeAny (model prog w) p (.call init {.ref (h.7+1)::rest,[]}) (InitBack (h.7+1) R) {(h.push (pY rest)).push (fk C h.7),g,d,t,os}) :
 wpAny (model prog w) p (È.«type.__call__» {.ref C::rest,[]}) (λfin s'=>match fin with |.done f=>R (.ok f) s' |.again I=>I.quiet=true/\codeAny (model prog w) A I R s') (λe s'=>R (.error e) s') ⟨h,g,d,t,os⟩:=by
 have F:=γ
 repeat (first |with_reducible refine ÿ l ?_ |with_reducible refine wpAny_madeBy_exc l ?_ |wp_step)
 refine codeAny_call_builtin_code (Ų _ F.quiet) (J1 l ?_);refine J4 l ?_ j;show wpAny _ _ _ _ _ _;have k:∀b o,h.get? b=ρ o->((h.push (pY rest)).push (fk C h.7)).get? b=ρ o:=λb o e=>Zb _ (Zb _ e)
 have a:=Zb {cls:=.ref C,data:=.fields #[.ref h.7,.none,.none,.none,.bool false,.none]}
  (Zb {cls:=.type "tuple",data:=.seq rest.6} l)
 have c:((h.push {cls:=.type "tuple",data:=.seq rest.6}).push {cls:=.ref C,data:=.fields #[.ref h.7,.none,.none,.none,.bool false,.none]}).get? (h.7+1)=ρ {cls:=.ref C,data:=.fields #[.ref h.7,.none,.none,.none,.bool false,.none]}:=by heap_get
 have i:(Zo C::pQ CB).contains (.ref C)=true:=by simp
 have m:=hi.keeps k;have n:=(J (.ref (h.7+1))).keeps k;unfold š
 repeat (first |with_reducible refine ÿ c ?_ |(with_reducible refine ō a ?_;rw[i]) |wp_step)
 show wpAny _ _ (δ (.ref C) _) _ _ _;refine m.at ?_;refine ZX (Z7 (n.at ?_));refine Z7 (â (Þ T λr s' z=>?_));rcases r with e |(v |_ |_ |_)<;>first |exact z |exact z.elim |skip
 let{rfl,z}:=z
 wp_walk
 exact z
theorem z5{rest:List Value}{init:Value}(l:h.get? C=ρ (Ý nm q C N bs (pQ CB) hdct sn sub ab col dd k0 k1 k2 k3 k5 "ValueError.__new__"))
 (hi:Looks (model prog w) h (δ (.ref C) "__init__") (ρ init)) (o:∀self,Looks (model prog w) h (bindSpecial init self) (init,[self])) (j:rest.9<=sizeLine)
 (p:codeAny (model prog w) (A.under (.builtin "type.__call__" {.ref C::rest,[]})) (.call init {.ref (h.7+1)::rest,[]}) (InitBack (h.7+1) R) {(h.push (pY rest)).push (fk C h.7),g,d,t,os}) :
 codeAny (model prog w) A (.call (.ref C) {rest,[]}) R ⟨h,g,d,t,os⟩:=by
 have f1:=tc_lookup;have f2:=PySem.tc_bind (.ref C);have a:(⟨h,g,d,t,os⟩:Shared).TypeIs (.ref C) "type":={_,l,rfl};refine μ ?_;show wpAny _ _ (callAny (.ref C) _) _ _ _
 repeat (any_goals (first |assumption |with_reducible refine ÿ l ?_ |wp_step))
 refine{rfl,?_};exact codeAny_call_builtin_at (Ų _ ∅) entry_typeCall (wpAny_check_type_call_sub l (GN l hi o j p))
end
section
variable{CB C:Addr}{name:Str}{ta tv:TE}
def O7(K:Z6)(CB:Addr)(ta tv:TE)(name:Str):TS:=λD σ H=>tv σ H λy H1=>ta σ H1 λz H2=>∃x C nm,z=.ref x/\H2 x=ρ (XN x C)/\cg K C CB nm/\findIn K (.ref C) name=ρ τ /\
 ∀d,H2 d=τ->D.nx σ (upd (upd H2 d (.xd [(name,y)])) x (XD x C d))
end
section
variable{P:ZC}{w:World}{H:Hp}{h:Heap}{x C t:Addr}
theorem LU(e:h.get? x=ρ (fk C t)):bT P w H h x (XN x C):={⟨t,e⟩,{_,e},λc d ⟨a,b⟩ k=>{a,k _ b}}
end
section
variable{X:Cx}{CB C f:Addr}{fd:Ë}{ps:List Str}{sp:Sp}{E:XK}{k:Nat}{p pos gN:Pos}{e:Expr}{es:List Expr}{t:TA}{x nm:Str}
theorem Inv.newExc(I:Inv X g σ H s)(us:List Value)(C:Addr) :
 Inv X g σ (upd H (s.8+1) (XN (s.8+1) C)) {s with heap:=(s.heap.push (pY us)).push (fk C s.8)}:=by
 have c:=I.kept (h':=s.heap.push (pY us)) (t':=s.toks) λb u q=>Zb _ q;refine c.laid (a:=s.8+1) (t':=s.toks) (λb u q=>Zb _ q) (Ŷ (ã _ _)) (LU (t:=s.8) ?_);have:=Zr (s.heap.push (pY us)) (o:=fk C s.8) rfl;rwa[ã]at this
theorem GO(hT:Br X E)(hc:X.calm=true)(U:cg X.K C CB nm)(hi:findIn X.K (.ref C) "__init__"=ρ (ρ (.ref f)))(J:isFn X.K (.ref f)=true)
 (F:aW X.prog X.w X.K X.mg X.base cY k f fd ps sp) (hr:d5 (k+1) X.A) (hb:Binds X.K fd ps []) (hg:Gl X x) (hm:X.mg x=ρ (.ref C)) (ha:PA X (e::es) t)
 (T:(x==("__debug__":Str))=false:=by decide) (he:starEach (e::es) X.5=(false,eval e X.5)::starEach es X.5:=by rfl) (hpl:(backTo gN (starEach es X.5)).any (·.1)=false:=by rfl) :
 PS X (.Raise (ρ (.Call (.Name x p) (e::es) [] gN)) τ pos) (LR X.K C sp E t):=by
 refine{?_};intro a s σ H D I h
 let{Z,N,bs,sn,sub,ab,col,dd,k0,k1,k2,k3,k5,lk}:=U.lk
 refine qm (C:=C) (CB:=CB) (nm:=nm) (q:=Z) (N:=N) (bs:=bs) (hdct:=true) (sn:=sn) (sub:=sub) (ab:=ab) (col:=col) (dd:=dd) (k0:=k0) (k1:=k1) (k2:=k2) (k3:=k3) (k5:=k5) (I.ok.hd hc) ?_;refine ę (i6 I hg hm ?_ T);refine ť (h₀:=X.base) I.ok.mod.Jq U.kp (cj (ha gN a s σ H _ I h) λc i ⟨vs,H1,j,r,m,q⟩=>{j.gE,?_}) he hpl;have B:=j.bc.fresh (í i.8);have Q:=q (i.8+1) B;have G:=Inv.newExc j c C;have R:Vals (V.ref (i.8+1)::vs) (Zo (i.8+1)::c):=.cons rfl r
 have hl:(Zo (i.8+1)::c++[]).9=ps.9:=by
  have S:=R.9;rw[F.len _ _ _ _ Q]at S;rw[Ó];exact S.symm
 have n:=hb _ (Zo (i.8+1)::c) G.gE hl;rw[Ó]at n
 let{L,g,dr,tk,os}:=i
 refine â (z5 (j.gE _ _ lk) (ő j.gE hi) (λself=>bind_fn j.gE self (beq_iff_eq.mp J)) (by show c.9<=sizeLine;rw[<-r.9];exact m) ?_);refine Þ (F.run _ X.stack _ _ {Zo (L.7+1)::c,[]} (Zo (L.7+1)::c) _ _ E0 (hr.make C c []) (G.HL.make C c []) n R Q) λrr Y b=>?_
 cases rr with
 |error e=>exact Ä b
 |ok fl=>
  cases fl with
  |next=>exact Ä b
  |brk=>exact Ä b
  |cont=>exact Ä b
  |ret u=>
   let{v,H',l,rv,ev,q3}:=G.after b
   subst ev;refine{rv,?_};have o:X.s₀.8<=L.7+1:=Zn j.sz (í _);rcases q3 with⟨y,M⟩ |⟨d,y,M⟩
   .let{{O,z},_}:=l.bc _ _ y
    exact{_,τ,O,rfl,l.gE _ _ lk,z,hT a σ _ Y _ C τ (l.del y) {o,fx,_,_,z,by show 1<6;decide,.inl rfl} M}
   .let{{O,z},_}:=l.bc _ _ y
    exact{_,ρ d,O,rfl,l.gE _ _ lk,z,hT a σ _ Y _ C (ρ d) (l.del y) {o,fx,_,_,z,by show 1<6;decide,.inl rfl} M}
end
section
variable{prog:ZC}{w:World}{A:Around}{E:Value->Shared->Prop}{s:Shared}
theorem wC{it:Addr}{s1:Shared}{Q:Option Value->Shared->Prop}(g:A.handled=τ)(j:∀h',wh5 it s1.heap h'->Q τ {s1 with heap:=h'}) :
 wpAny (model prog w) A.in1 (do let e <-newExc (.type "StopIteration") [];raiseNew e:Sem PySem.Fin) (λfin s'=>∃v,fin=Fin.done (Flow.ret v)/\wpAny (model prog w) A (pure (ρ v)) Q E s')
  (λe s'=>wpAny (model prog w) A (do if <-š e (.type "StopIteration") then pure τ else throw e) Q E s') s1:=by
 refine Z7 ?_;simp only[newExc,newTuple];refine Z7 (Ģ ?_ (by size_fits));refine Z7 (m:=firstArgMember _ _) (Ż (a:=Ï) (by first |rfl |(simp only[firstArgMember];rfl)) ?_);refine Ģ ?_ (by size_fits);simp only[raiseNew];refine Z7 (wpAny_handled ?_);rw[show A.in1.handled=τ from g];refine Z7 (Zc (wpAny_throw ?_));refine Z7 (wpAny_isInstance (T:="StopIteration") (b:=true) {_,Zr _ rfl,rfl} isSubtype_stop ?_);exact Zc (j _ (((Heap.ExtBut.refl _ _).push _).push _))
theorem next_end{it a:Addr}{slot i n ep:Nat}{o:Obj}{g:Array (Int×Value)}{t:Ã}{Q:Option Value->Shared->Prop}(l:A.handled=τ)(hit:cH s.heap it a (.int slot 0) i n ep)
 (p:s.heap.get? a=ρ o) (hd:o.data=.set g ep t) (r:t.fits g.size=true) (hn:g.size=n)
 (C:∀(I:Around) (J:Value->Shared->Prop) (j:Option (Value×Nat)->Shared->Prop),j τ s->wpAny (model prog w) I (setNext a slot i ep) j J s)
 (T:∀h',wh5 it s.heap h'->Q τ {s with heap:=h'}):wpAny (model prog w) A (pyNext (.ref it)) Q E s:=by
 have b:s.TypeIs (.ref it) "set_iterator":={_,hit,rfl};unfold pyNext;refine Z7 (ŉ (wcg (name:=Ĩ "__next__") b bW (Č bW b fX ?_ (gD _))));unfold È.«set_iterator.__next__»;refine Z7 (m:=slotArgs "__next__" 0 _) (Zc ?_);refine Z7 (we5 hit rfl ?_);dsimp only;refine Z7 (Ş p hd r ?_);rw[if_neg (by rw[hn];simp)];simp only[Zy];refine Z7 (C _ _ _ ?_);dsimp only;refine Z7 (ŝ hit (show 2<5 by decide) λd e c=>?_);exact wC (it:=it) l λh' x=>T h' (c.extBut.trans x)
theorem GP{a I:Addr}{g:Array (Int×Value)}{ep:Nat}{t:Ã}(U:A.handled=τ)(p:a≠I)(T:t.fits g.size=true)(first:Nat->Nat)(ord:Nat->Value->Prop)
 (hi:∀i,i<g.size->∃x,ord i x/\∀(s:Shared) (o:Obj),s.heap.get? a=ρ o->o.data=.set g ep t->∀(C:Around) (J:Value->Shared->Prop) (l:Option (Value×Nat)->Shared->Prop),l (ρ (x,first (i+1))) s->wpAny (model prog w) C (setNext a (first i) i ep) l J s)
 (he:∀(s:Shared) (o:Obj),s.heap.get? a=ρ o->o.data=.set g ep t->∀(C:Around) (J:Value->Shared->Prop) (l:Option (Value×Nat)->Shared->Prop),l τ s->wpAny (model prog w) C (setNext a (first g.size) g.size ep) l J s)
 (j:∀i (s:Shared) (Q:Value->Shared->Prop) (E:Value->Shared->Prop),cH s.heap I a (.int (first i) 0) i g.size ep->Q (.ref I) s->wpAny (model prog w) A (pyIter (.ref I)) Q E s) :
 Walks prog w A I [I,a] [I] g.size ord (λi h=>cH h I a (.int (first i) 0) i g.size ep/\sy h a g ep t) where
 sub:=λb d=>by simp at d;simp[d]
 frame:=λi h n st hk=>{hk I (by simp) _ st.1,let ⟨o,e,r⟩:=st.2;{o,hk a (by simp) o e,r}}
 item:=λi s Q E q st f=>by
  let{x,u,v}:=hi i q
  let{c,o,e,hex,hd}:=st
  refine next_item c e hd T rfl (v s o e hd) λn k m=>?_;exact f x n s.toks u {k,o,(m.2 a p).trans e,hex,hd} λb o d e=>(m.2 b (λh=>d (by simp[h]))).trans e
 done:=λs Q E st f=>by
   let{c,o,e,hex,hd}:=st
   exact next_end U c e hd T rfl (he s o e hd) λn x=>f n s.toks λb o d e=>x b o (λh=>d (by simp[h])) e
 self:=λi s Q E st f=>j i s Q E st.1 f
theorem C7{a:Addr}{g:Array (Int×Value)}{ep:Nat}{t:Ã}(C:t.fits g.size=true)(I:(!w.params.followText "set-order" && (!t.plain&&decide (g.size>1)))=false)(first:Nat->Nat)(J:first 0=0)(ord:Nat->Value->Prop)
 (hi:∀i,i<g.size->∃x,ord i x/\∀(s:Shared) (o:Obj),s.heap.get? a=ρ o->o.data=.set g ep t->∀(l:Around) (p:Value->Shared->Prop) (j:Option (Value×Nat)->Shared->Prop),j (ρ (x,first (i+1))) s->wpAny (model prog w) l (setNext a (first i) i ep) j p s)
 (he:∀(s:Shared) (o:Obj),s.heap.get? a=ρ o->o.data=.set g ep t->∀(l:Around) (p:Value->Shared->Prop) (j:Option (Value×Nat)->Shared->Prop),j τ s->wpAny (model prog w) l (setNext a (first g.size) g.size ep) j p s) :
 wfT prog w "set" a a g.size ord (λh=>sy h a g ep t) where
 type:=λ_ {o,e,hex,_}=>⟨o,e,hex.1⟩
 there:=λ_ {_,e,_}=>{Zg e,Zg e}
 keep:=λ_ _ ⟨o,e,r⟩ hk=>{o,hk a (.inl rfl) o e,r}
 notList:=⋯
 notTuple:=⋯
 hint:=λ_ _ _ _ {o,e,hex,_} b=>yV ⟨o,e,hex.1⟩ b
 iter:=λA s c ⟨o,e,hex,hd⟩=>{_,_,(λ_ _ b=>AY e hex hd C I b),GP c (Zt (Zg e)) C first ord hi he (λi s Q E hit b=>C6 hit b),
  {(by rw[J];exact Zr _ rfl),o,Zb _ e,hex,hd}}
theorem GQ{a:Addr}{g:Array (Int×Value)}{ep:Nat}{t:Ã}(j:t.fits g.size=true)(l:w.params.followText "set-order"=true) :
 wfT prog w "set" a a g.size (λi v=>((Ū (w.params.setOrder a ep) g)[i]?).map (·.2)=ρ v) (λh=>sy h a g ep t):=by
 have m:(Ū (w.params.setOrder a ep) g).size=g.size:=by
  have:=(w4 (w.params.setOrder a ep) g).length_eq;rwa[ZR,ZR]at this
 refine C7 j (by rw[l];rfl) (λ_=>0) rfl _ (λi hi=>?_) (λs o b hd d f k q=>?_)
 .obtain⟨e,c⟩:∃e,(Ū (w.params.setOrder a ep) g)[i]?=ρ e:={_,ZO 1.0};refine{e.2,by rw[c];rfl,λs o b hd d f k q=>p7 b hd j l ?_};rw[c];exact q
 .refine p7 b hd j l ?_;rw[Ķ 1.0];exact q
theorem DS{a:Addr}{g:Array (Int×Value)}{ep:Nat}{t:Ã}(j:t.fits g.size=true)(T:jw t g.size)(l:w.params.followText "set-order"=false)(hl:t.led=true)(r:(!t.plain&&decide (g.size>1))=false) :
 wfT prog w "set" a a g.size (λi v=>(g[i]?).map (·.2)=ρ v) (λh=>sy h a g ep t):=by
 have c:∀i,i<=g.size->æ t.place (if i=0 then 0 else t.place.getD (i-1) 0+1)=i:=λi hi=>by
  have P:=nQ T.up (if i=0 then 0 else t.place.getD (i-1) 0+1);generalize æ t.place (if i=0 then 0 else t.place.getD (i-1) 0+1)=p at P;have B:=T.sz;have e:=P.le
  by_cases z:i=0
  .subst z;rw[if_pos rfl]at P
   by_cases m:p=0
   .exact m
   .exact absurd (P.lo 0 _ 1.0 (ZO 1.0)) (Ť _)
  .rw[if_neg z]at P;have f:t.place[i-1]?=ρ (t.place[i-1]'1.0):=ZO 1.0;have n:t.place.getD (i-1) 0=t.place[i-1]'1.0:=by simp[wg0,show i-1<t.place.size by omega]
   rw[n]at P
   have C:i<=p:=by
    by_cases q:i<=p
    .exact q
    .have:=P.hi (i-1) _ 1.0 f;omega
   by_cases u:p=i
   .exact u
   .have b:i<t.place.size:=1.0;have k:t.place[i]?=ρ (t.place[i]'(b)):=ZO b;have D:=P.lo i _ 1.0 k;have E:=T.up (i-1) i _ _ 1.0 f k;omega
 refine C7 j (by rw[l,r];rfl) (λi=>if i=0 then 0 else t.place.getD (i-1) 0+1) rfl _ (λi hi=>?_) (λs o d hd x y A q=>?_)
 .have b:i<t.place.size:=by rw[T.sz];exact hi
  refine{g[i].2,by rw[ZO hi];rfl,λs o d hd x y A q=>mz d hd j l hl r ?_};rw[c i 1.0,ZO hi,ZO b];have:t.place[i]+1=(if i+1=0 then 0 else t.place.getD (i+1-1) 0+1):=by simp[wg0,b]
  rw[<-this]at q;exact q
 .refine mz d hd j l hl r ?_;rw[c g.size (Zf _),Ķ (Zf _)];exact q
theorem DT{it a T:Addr}{n ep:Nat}{o p:Obj}{ps:Array Value}{m:Nat}{g:Array (Int×Value)}{t:Ã}{Q:Option Value->Shared->Prop}(r:A.handled=τ)(hit:cH s.heap it a (.ref T) n n ep)
 (C:s.heap.get? a=ρ o) (hd:o.data=.set g ep t) (I:t.fits g.size=true) (hn:g.size=n) (j:s.heap.get? T=ρ p) (l:p.data=.seq ps m) (J:ps[n]?=τ)
 (U:∀h',wh5 it s.heap h'->Q τ {s with heap:=h'}):wpAny (model prog w) A (pyNext (.ref it)) Q E s:=by
 have b:s.TypeIs (.ref it) "set_iterator":={_,hit,rfl};unfold pyNext;refine Z7 (ŉ (wcg (name:=Ĩ "__next__") b bW (Č bW b fX ?_ (gD _))));unfold È.«set_iterator.__next__»;refine Z7 (m:=slotArgs "__next__" 0 _) (Zc ?_);refine Z7 (we5 hit rfl ?_);dsimp only;refine Z7 (Ş C hd I ?_);rw[if_neg (by rw[hn];simp)];refine Z7 ?_;unfold ι;refine Z7 (ż j ?_);rw[l];refine Zc ?_;dsimp only;simp only[Zy];rw[J];dsimp only;refine Z7 (ŝ hit (show 0<5 by decide) λf c d=>?_);refine Z7 (ŝ c (show 2<5 by decide) λh i e=>?_);exact wC (it:=it) r λh' x=>U h' ((d.trans e).extBut.trans x)
theorem Bb{a I T:Addr}{g:Array (Int×Value)}{ep:Nat}{t:Ã}{ys:List Nat}(hh:A.handled=τ)(C:a≠I)(J:T≠I)(hf:t.fits g.size=true)(U:ys.Perm (ZF g.size)) :
 Walks prog w A I [I,a,T] [I] g.size (HD ys g) (λi h=>cH h I a (.ref T) i g.size ep/\sy h a g ep t/\TupAt h T ys) where
 sub:=λb f=>by simp at f;simp[f]
 frame:=λi h l st hk=>{hk I (by simp) _ st.1,(let ⟨o,e,r⟩:=st.2.1;{o,hk a (by simp) o e,r}),hk T (by simp) _ st.2.2}
 item:=λi s Q E u st j=>by
  let{c,{o,e,hex,hd},m}:=st
  have hl:ys.9=g.size:=by rw[U.length_eq,ZJ]
  have n:ys[i]?=ρ ys[i]:=Z5 1.0;have v:ys[i]<g.size:=Í.mp (U.mem_iff.mp (ZQ _));have q:g[ys[i]]?=ρ g[ys[i]]:=ZO v;refine B1 c e hd hf rfl m rfl (p:=ys[i]) (by rw[wcD,Z9,n];rfl) q λl k d=>?_;exact j _ l s.toks {_,_,n,q,rfl} {k,{o,(d.2 a C).trans e,hex,hd},(d.2 T J).trans m} λb o f e=>(d.2 b (λh=>f (by simp[h]))).trans e
 done:=λs Q E st j=>by
   let{c,{o,e,hex,hd},m}:=st
   have hl:ys.9=g.size:=by rw[U.length_eq,ZJ]
   exact DT hh c e hd hf rfl m rfl (by rw[wcD,Z9,Ž 1.0];rfl) λl x=>j l s.toks λb o f e=>x b o (λh=>f (by simp[h])) e
 self:=λi s Q E st j=>C6 st.1 j
theorem xH{R:à->Shared->Prop}{a S:Addr}{o:Obj}{j:Array (Int×Value)}{ep r:Nat}{t:Ã}{res:Value}(hh:A.handled=τ)(J:s.heap.get? a=ρ o)(hex:o.ExactSet)(hd:o.data=.set j ep t)(hf:t.fits j.size=true)(p:j.size<É)
 (hp:(!w.params.followText "set-order" && (!t.plain&&decide (j.size>1)))=true) (U:S≠a) (hS:s.heap.get? S=ρ {cls:=.type "list",data:=.seq #[] r})
 (hR:∀h' tk d g C (ys:List Nat),(∀b o,b≠S->s.heap.get? b=ρ o->h'.get? b=ρ o)->h'.get? S=ρ {cls:=.type "list",dict:=τ,data:=.seq g C,slots:=#[]}->ys.Perm (ZF j.size)->ItemsOf (HD ys j) g j.size->R (.ok (.ret res)) {s with heap:=h',toks:=tk,drawn:=d}) :
 wpAny (model prog w) A.in1 (wcH (.ref S) (.ref a) res)
  (λfin s'=>match fin with |.done f=>R (.ok f) s' |.again C=>C.quiet=true/\codeAny (model prog w) A C R s') (λe s'=>R (.error e) s') s:=by
 have G:=Zg J;have m:=Zg hS;unfold wcH;refine Z7 (wpAny_typeOf (T:="set") ⟨o,J,hex.1⟩ ?_);have Z:wf1 (.ref S) (.ref a)=false:=by simp[wf1,U]
 simp only[Z,show (ï "set" == ï "list")=false by decide,show (ï "set" == ï "tuple")=false by decide,Bool.or_false,ġ,if_false];refine Z7 (AZ J hex hd hf p hp λys d u=>?_);generalize H:(s.heap.push {cls:=.type "tuple",data:=.seq (ys.map λi:Nat=>rawInt i).6})=D;have L:D.7=s.8+1:=by rw[<-H,ã]
 have k1:∀b o,s.heap.get? b=ρ o->D.get? b=ρ o:=λb o e=>H ▸ Zb _ e;have tup:TupAt D s.heap.objs.size ys:=H ▸ Zr _ rfl;generalize M:D.push {cls:=.type "set_iterator",data:=.fields #[.ref s.8,.int 0 0,.ref a,.int j.size 0,.int ep 0]}=E;have v:∀b o,s.heap.get? b=ρ o->E.get? b=ρ o:=λb o e=>M ▸ Zb _ (k1 b o e)
 have x:cH E (s.8+1) a (.ref s.8) 0 j.size ep/\sy E a j ep t/\TupAt E s.heap.objs.size ys:=
  {M ▸ L ▸ Zr _ rfl,{o,v _ _ J,hex,hd},M ▸ Zb _ tup}
 have X:=Bb (prog:=prog) (w:=w) (A:=A.in1) (I:=s.8+1) (ep:=ep) (t:=t) (ys:=ys) hh (Zt (Ă G)) (Zt (Ď s.8)) hf u;have N:S≠s.8+1:=Zt (Ă m);have O:S≠s.8:=Zt m
 have y:S∉[s.8+1,a,s.8]:=by
  simp only[ZD,þ,or_false,not_or];exact⟨N,U,O⟩
 have key:∀(h:Heap) (k tk:Nat),(cH h (s.8+1) a (.ref s.8) 0 j.size ep/\sy h a j ep t/\TupAt h s.heap.objs.size ys)->(∀b o,b≠S->s.heap.get? b=ρ o->h.get? b=ρ o) ->
  h.get? S=ρ {cls:=.type "list",data:=.seq #[] k}->codeAny (model prog w) A (.builtin "list.extend.loop" {[.ref S,.ref (s.8+1),res],[]}) R {s with heap:=h,toks:=tk,drawn:=d}:=by
  intro h k tk Q hk n;refine codeAny_extend_loopS X.toS (Χ p) S y res j.size 0 _ #[] k rfl (ZE _) Q n (ItemsOf.nil _) λs' g C Y V z=>?_;rw[whz Y];refine hR s'.heap s'.toks d g C ys (λb o p e=>Y.heap b o (λhmem=>?_) (hk b o p e)) V u z;rcases ZD.mp hmem with e' |hmem
  .exact p e'
  .exact absurd (Zg e) (by rw[Zz.mp hmem];exact Nat.not_lt.mpr (í _))
 have c:=v _ _ hS;refine Z7 (ZX (yV {o,v _ _ J,hex.1} ?_));refine wfl (λ_=>?_) (λ_=>Zc {ĉ weM _,key _ r _ x (λb o _ e=>v b o e) c});refine Z7 (ŷ ?_);refine Z7 ?_;show wpAny _ _ (wgG S (·.push .none) >>= λ_=>wgG S (·.pop)) _ _ _;refine Z7 (Ÿ c rfl ?_);have l:=ħ (ê (·.push Ï)) c rfl;refine Ÿ (hz:=by seq_fits) l rfl ?_;have q:=ħ (ê (·.pop)) l rfl;refine Zc {ĉ weM _,key _ _ _ ?_ (λb o p e=>?_) q}
 .refine X.frame 0 _ _ x λb p o e=>?_;have B:b≠S:=λh=>y (h ▸ p);exact(ZY _ _ (Á B)).trans ((ZY _ _ (Á B)).trans e)
 .exact(ZY _ _ (Á p)).trans ((ZY _ _ (Á p)).trans (v b o e))
theorem uT{a:Addr}{o:Obj}{p:Array (Int×Value)}{ep:Nat}{t:Ã}{R:List Value->Shared->Prop}(I:A.handled=τ)(C:s.heap.get? a=ρ o)(hex:o.ExactSet)(hd:o.data=.set p ep t)(J:t.fits p.size=true)(T:p.size<É)
 (U:(!w.params.followText "set-order" && (!t.plain&&decide (p.size>1)))=true)
 (h:∀(h':Heap) (tk:Nat) d (ys:List Nat) (r:Array Value),(∀b o,s.heap.get? b=ρ o->h'.get? b=ρ o)->ys.Perm (ZF p.size)->ItemsOf (HD ys p) r p.size->R r.toList {s with heap:=h',toks:=tk,drawn:=d}) :
 wpAny (model prog w) A (collect (.ref a)) R E s:=by
 have n:=Zg C;unfold collect;refine Z7 (wfH (ä entry_proto_collect' ?_));rw[ą PySem.F.plain_proto_collect _];show wpAny _ A.in1 (newList [] >>= λl=>again (.builtin "list.__iadd__" {[l,.ref a],[]})) _ _ s;refine Z7 (Ģ ?_);refine Zc {ĉ wf8 _,ä entry_list_iadd' ?_};rw[ą wf8 _];have k:(s.heap.push {cls:=.type "list",data:=.seq ([]:List Value).toArray}).get? s.8=ρ {cls:=.type "list",data:=.seq #[]}:=Zr _ rfl;show wpAny _ A.in1 (wcH (.ref s.8) (.ref a) (.ref s.8)) _ _ _
 have key:=xH (prog:=prog) (w:=w) (A:=A) (s:={s with heap:=s.heap.push {cls:=.type "list",data:=.seq ([]:List Value).toArray}}) (res:=.ref s.8)
  (R:=λ(q:à) (u:Shared)=>∃(h':Heap) (tk:Nat) (d:Drawn) (ys:List Nat) (c:Array Value) (m:Nat),q=.ok (.ret (.ref s.8))/\u={s with heap:=h',toks:=tk,drawn:=d} /\
    (∀b o,s.heap.get? b=ρ o->h'.get? b=ρ o)/\h'.get? s.8=ρ {cls:=.type "list",dict:=τ,data:=.seq c m,slots:=#[]}/\ys.Perm (ZF p.size)/\ItemsOf (HD ys p) c p.size)
  I (Zb _ C) hex hd J T U (ö n) k
  (λh' tk d c m ys hk i j g=>{h',tk,d,ys,c,m,rfl,rfl,λb o e=>hk b o (Zt (Zg e)) (Zb _ e),i,j,g})
 refine Å key (λfin u x=>?_) λe u x=>?_
 .cases fin with
  |done f=>
   let{h',tk,d,ys,c,m,e,rfl,hk,i,j,g}:=x
   cases e;show wpAny _ A (load s.8 >>= _) _ _ _;refine Z7 (ż i ?_);exact Zc (h h' tk d ys c hk j g)
  |again v=>
   refine{x.1,Þ x.2 λq z y=>?_}
   let{h',tk,d,ys,c,m,rfl,rfl,hk,i,j,g}:=y
   show wpAny _ A (load s.8 >>= _) _ _ _;refine Z7 (ż i ?_);exact Zc (h h' tk d ys c hk j g)
 .let{_,_,_,_,_,_,B,_}:=x
  cases B
theorem z6{a:Addr}{C:List Int}{R:List Value->Shared->Prop}(I:A.handled=τ)(U:jU (prog:=prog) (w:=w) s.heap a (λk=>C.any (· == k)) C.length (q9 w))(hn:C.Nodup)(hz:C.9<=sizeLine)
 (h:∀(h':Heap) (tk:Nat) d (us:List Value) (ns:List Int),(∀b o,s.heap.get? b=ρ o->h'.get? b=ρ o)->IntsAre us ns->ns.Perm C->R us {s with heap:=h',toks:=tk,drawn:=d}) :
 wpAny (model prog w) A (collect (.ref a)) R E s:=by
 let{o,m,M,t,B,hex,hd,D,hmem,O,G,x,T,hl}:=U
 have key:∀(h':Heap) (tk:Nat) d (us:List Value),(∀b o,s.heap.get? b=ρ o->h'.get? b=ρ o)->us.Perm (m.toList.map (·.2))->R us {s with heap:=h',toks:=tk,drawn:=d}:=by
  intro h' tk d us hk u
  have hi:∀v∈us,∃n t,v=ĳ n t:=λv Q=>by
   let{e,H,rfl}:=Ze.mp (u.mem_iff.mp Q)
   let{{k,hk,_},_}:=D e H
   let{t,q}:=wer hk
   exact⟨k,t,q⟩
  refine h h' tk d us (us.map numOf) hk (intsAre_map us hi) (qU hn (λz hz=>?_) ?_)
  .let{e,H,q}:=(hmem z).mp (Ē.mpr {z,hz,by simp})
   let{t,q}:=wer q
   refine Ze.mpr {e.2,u.mem_iff.mpr (Ze.mpr ⟨e,H,rfl⟩),?_};rw[q];rfl
  .rw[Z4,u.length_eq,Z4,ZR,x];exact Zf _
 by_cases i:w.params.followText "set-order"=true
 .refine wcT (GQ G i) I ⟨o,B,hex,hd⟩ (by rw[x];exact hz) λh' tk r hk g=>?_;refine key h' tk s.drawn r.toList hk ?_;have u:=w4 (w.params.setOrder a M) m;rw[pC (l:=(Ū (w.params.setOrder a M) m).toList) (f:=(·.2)) (by rw[g.1,u.length_eq,ZR]) λj v e=>by rw[á];exact g.2 j v e];exact u.map _
 .have i:w.params.followText "set-order"=false:=by simpa using i
  by_cases u:(!t.plain&&decide (m.size>1))=false
  .refine wcT (DS G T i (by rw[hl];delta q9;rw[i];rfl) u) I ⟨o,B,hex,hd⟩ (by rw[x];exact hz) λh' tk r hk g=>?_;refine key h' tk s.drawn r.toList hk ?_;rw[pC (l:=m.toList) (f:=(·.2)) (by rw[g.1,ZR]) λj v e=>by rw[á];exact g.2 j v e]
  .refine uT I B hex hd G O (by rw[i];simpa using u) λh' tk d N r hk y g=>?_;refine key h' tk d r.toList hk ?_;have J:N.9=m.size:=by rw[y.length_eq,ZJ]
   rw[pC (l:=N) (f:=λp=>(m.getD p (0,.none)).2) (by rw[g.1,J]) λj v e=>by
    let{p,c,S,V,X}:=g.2 j v e
    rw[S,X];show ρ (m.getD p (0,.none)).2=_;rw[ς,V]
    rfl]
   refine(y.map _).trans (.of_eq (wdd λj=>?_));rw[Z9,Z9,á (xs:=m)]
   by_cases L:j<m.size
   .rw[wgo L,ZO L];show ρ (m.getD j (0,.none)).2=_;rw[ς,ZO L];rfl
   .rw[Ž (by simp;omega),Ķ 1.0];rfl
end
section
variable{X:Cx}
theorem xI(hc:X.calm=true):cu X (.builtin "sorted") (λxs H Q=>∃d g,xs=[.ref d]/\H d=ρ (Ey X.prog X.w d g)/\g.Pairwise (· < ·)/\g.9<64 /\
 ∀l,H l=τ->Q (.ref l) (upd H l (.lst (g.map V.int)))):=by
 intro a s σ H xs R Q I r h
 let{d,g,rfl,hd,p,B,q}:=h
 let{u,rfl,C}:=vals1 r
 cases C;have D:=I.ok.hd hc;have E:=(show bT X.prog X.w H s.heap d (Ey X.prog X.w d g) from I.bc d _ hd).1;have i:g.9<=sizeLine:=by rw[Ö];omega
 refine wcW wh3 wgw wgx (wgy _) ?_;unfold È.«sorted»;refine Z7 (m:=checkCount "sorted" 1 1 _) (Zc ?_);refine Z7 (z6 (A:=X.A.in1) D E (rX p) i λf t v j ns k x y=>?_);have hl:j.9=g.9:=by rw[<-y.length_eq,<-x.nums,Z4]
 refine Z7 (Ξ ?_ (by rw[hl];exact i));have c:(f.push (seqObj "list" j.toArray 0)).get? f.7=ρ (seqObj "list" j.toArray 0):=Zr _ rfl;refine Z7 (ZX (Č wfE {_,c,rfl} wfg (list_sort_tree c x 1.0 λout n G J L=>{1,?_}) (wfF _)));have M:=Ch (J.trans y) L p;subst M;have N:Inv X a σ H {s with drawn:=v}:=⟨I.ok,I.os,I.bare,I.base,I.loc,I.cell,I.free,I.gz,I.pin,I.bc,I.len⟩;have z:Inv X a σ H {s with heap:=f,toks:=t,drawn:=v}:=N.kept k
 let{e,O}:=wga (out:=out) c
 refine Zc {1,{.ref f.7,upd H f.objs.size (.lst (n.map V.int)),z.laid (t':=t) (λb o q=>?_) (Zf _) {?_,_,e,vg G,?_},rfl,q _ (z.bc.fresh (Zf _))}}
 .have lt:b<f.7:=Zg q;rw[wfG (Zt lt) (by rw[ω];exact Ă lt)];exact Zb _ q
 .rw[Z4];exact i
 .rw[Ĳ];exact O
end
end _L
namespace _L
open PySem.Spec PyProof.Rows PySem.W Builtin Builtin.ObjectAttr
section
variable{prog:ZC}{w:World}{A:Around}{E:Value->Shared->Prop}{s:Shared}{K:Z6}{x C CB:Addr}{name:Str}{v:Value}
theorem GR{Q:Unit->Shared->Prop}(X:K.In s.heap)(hx:s.heap.get? x=ρ (fk C t))(hc:clsIn K C=ρ cd)(hm:cd.mro=.ref C::pQ CB)(hh:cd.hasDict=true)(ha:findIn K (.ref C) name=ρ τ)
 (hs:findIn K (.ref C) "__setattr__"=ρ (ρ (.builtin "object.__setattr__")))
 (h:∀h' d tk,s.8<=d->(∀b o,b≠x->s.heap.get? b=ρ o->h'.get? b=ρ o)->h'.get? x=ρ {cls:=.ref C,dict:=ρ d,data:=.fields #[.ref t,.none,.none,.none,.bool false,.none]}->h'.Ns1 d (λy=>if y=name then ρ v else τ)->Q .unit {s with heap:=h',toks:=tk}) :
 wpAny (model prog w) A (setAttr (.ref x) name v) Q E s:=by
 have J:InstAt s.heap x (fk C t) C τ:=⟨hx,rfl,rfl,trivial⟩;refine wey X J hs (w6 (s:={s with toks:=s.toks+1}) X J hc hm ha ?_);unfold storeInOwnDict;refine Z7 (Zc ?_);rw[if_neg (by simp)];unfold ownDictForStores instanceDict;refine Z7 (Z7 (΢ hx ?_));dsimp only;refine Z7 (we8 (s:={s with toks:=s.toks+1}) (wdg X hc) ?_);rw[hh];have TZ:(s.heap.push {cls:=.type "dict",data:=.dict #[]}).get? x=ρ (fk C t):=Zb _ hx;have U0:x≠s.8:=Zt (Zg hx);simp only[wge,ġ,if_false,Bool.not_false,Ŋ];rw[if_neg (by simp[typeHasDict])];refine Z7 (wpAny_alloc ?_);refine Z7 (wpAny_update TZ ?_);refine Zc ?_
 have Mh:((s.heap.push {cls:=.type "dict",data:=.dict #[]}).update x λo=>{cls:=o.cls,dict:=ρ s.8,data:=o.data,slots:=o.slots}).get? s.8
  =ρ {cls:=.type "dict",data:=.dict #[]}:=(wgp _ _ _ _ U0.symm).trans (Heap.get?_push_at rfl rfl)
 have QO:((s.heap.push {cls:=.type "dict",data:=.dict #[]}).update x λo=>{cls:=o.cls,dict:=ρ s.8,data:=o.data,slots:=o.slots}).Ns s.heap.objs.size (λ_=>τ):=
  {_,#[],_,Mh,rfl,λe he=>absurd he (by simp),λ_=>rfl}
 show wpAny _ _ (storeInDict s.heap.objs.size (.str name s.toks) name v) _ _ _;unfold storeInDict newKeyGuard;refine Z7 (Zc (Z7 (wgB (wgO QO) λh' C4 JF=>?_)))
 let{oD,WZ,X0,Rn,Ro,Rp}:=C4.count (wfh name v Within.nil)
 refine Z7 (weS Rn (by rw[Ro];exact weT (Zn Rp (by rw[ZP,wdH,Ö];omega))) ?_)
 wp_walk
 refine h h' s.heap.objs.size _ (Zf _) (λb ob Xi hb=>?_) ?_ C4
 .exact(JF.2 b (Zt (Zg hb))).trans ((wgp _ _ _ _ Xi).trans (Zb _ hb))
 .exact(JF.2 x U0).trans (ħ _ TZ rfl)
end
section
variable{prog:ZC}{w:World}{A:Around}{s:Shared}{K:Z6}{x C CB:Addr}{R:à->Shared->Prop}{nm q:Str}{N:Addr}{bs:List Value}{sn:List Str}{sub:List Value}{ab:Bool}{col:Option Bool}{dd:Option Addr}{k0 k1 k2 k3 k5:Option Value}
theorem uo(X:K.In s.heap)(j:s.heap.get? x=ρ (fk C t))(hk:K.lookup C=ρ (Ý nm q C N bs (pQ CB) true sn sub ab col dd k0 k1 k2 k3 k5 "ValueError.__new__"))
 (h:∀h' t',(∀b o,b≠x->s.heap.get? b=ρ o->h'.get? b=ρ o)->h'.get? x=ρ (fk C t')->R (.ok (.ret .none)) {s with heap:=h'}) :
 codeAny (model prog w) A (.call (.builtin "ValueError.__init__") {[.ref x,u],[]}) R s:=by
 have F:=γ;have f:=X _ _ hk;have J:InstAt s.heap x (fk C t) C τ:=⟨j,rfl,rfl,trivial⟩;have sub:Looks (model prog w) s.heap (š (.ref x) (.type "ValueError")) true:=J.type.andThen (Η X (by unfold mroIn clsIn;rw[hk];rfl));refine ĩ F.init.plain F.initEntry ?_;simp only[ū,F.initKind,F.initSplit,F.initRow];refine Z7 (sub.here ?_);simp only[wge,ġ,if_false];have a:=F.noStar
 let{c,g,d,l,os}:=s
 repeat (first |with_reducible refine ÿ f ?_ |wp_step)
 have i:x≠c.7:=Zt (Zg j);refine h _ c.objs.size (λb o k e=>?_) ?_
 .rw[ZY _ _ (Á k)];exact Zb _ e
 .exact ħ _ (Zb _ j) rfl
end
section
variable{prog:ZC}{w:World}{A:Around}{E:Value->Shared->Prop}{s:Shared}{K:Z6}{x C CB:Addr}{nm q:Str}{N:Addr}{bs:List Value}{sn:List Str}{sub:List Value}{ab:Bool}{col:Option Bool}{dd:Option Addr}{k0 k1 k2 k3 k5:Option Value}
theorem Bc{Q:Value->Shared->Prop}(X:K.In s.heap)(g:s.heap.get? x=ρ (fk C t))(hk:K.lookup C=ρ (Ý nm q C N bs (pQ CB) true sn sub ab col dd k0 k1 k2 k3 k5 "ValueError.__new__"))
 (h:∀h' t',(∀b o,b≠x->s.heap.get? b=ρ o->h'.get? b=ρ o)->h'.get? x=ρ (fk C t')->Q .none {s with heap:=h'}) :
 wpAny (model prog w) A (call (.builtin "ValueError.__init__") [.ref x,u]) Q E s:=â (uo X g hk h)
end
end _L
namespace _L
open PySem.Spec PyProof.Rows
section
variable{X:Cx}{CB:Addr}{pos:Pos}{name:Str}{ta tv:TE}{o value:Expr}{pos':Pos}
theorem Jo(ha:PE X o ta)(T:PE X value tv)(hs:ë value (ρ (.Attribute o name pos')) pos.line X.5=pure false):PS X (.Assign [.Attribute o name pos'] value pos) (O7 X.K CB ta tv name):=by
 refine{?_};intro g s σ H D I h;refine wcd (cj (T g s σ H _ I h) λu L ⟨y,M,O,Q,q⟩=>cj (ha g L σ M _ O q) λR G S=>?_) hs
 let{z,m,i,V,x,C,Y,Z,l,U,hn,q2}:=S
 subst Z;obtain rfl:R=Zo x:=V
 let{{t,ht},_}:=i.bc x _ l
 let{qn,N,bs,sn,sub,ab,r,dd,k0,k1,k2,k3,k5,lk}:=U.lk
 refine GR (CB:=CB) i.gE ht (cd:={name:=Y,bases:=bs,mro:=.ref C::pQ CB,ns:=N,qualname:=qn,hasDict:=true,slotNames:=sn,subclasses:=sub,abstract:=ab,collection:=r,hasDel:=false}) (by unfold clsIn;rw[lk]) rfl rfl hn U.sa λA d tk hd k ex ns=>{σ,_,?_,q2 d (i.bc.fresh hd)};have U1:d≠x:=λz=>by rw[z]at hd;exact absurd (Zx (i.bc.lt l) hd) (Ø _)
 have c:=i.bc.fresh hd
 have un:Un (qW X.stack) [] m (upd (upd m d (.xd [(name,y)])) x (XD x C d)) G.heap A:=by
  have nx:∀{b:Addr} {o:HO},m b=ρ o->(∀ψ,o≠.ext ψ)->b≠x:=λe n z=>by rw[z,l]at e;exact n _ (Zi e).symm
  have B:∀{b:Addr},m b=τ->b≠x:=λe z=>by rw[z,l]at e;cases e
  refine{λb o q n _ _=>k b o (B n) q,λb o q n _ _=>{o.slots,k b o (B n) q},λb o q n _=>?_,λb o q _=>?_,λb vs q=>?_,λb o v q=>?_,λb ps q=>?_}
  .rw[af (B n),af (λz=>by rw[z]at q;exact absurd (Zx (Zg q) hd) (Ø _))];exact n
  .by_cases z:b=x
   .rw[z];exact{_,ex}
   .exact{o,k b o z q}
  .rw[af (nx q λψ z=>by cases z),af (aa q c)];exact q
  .rw[af (nx q λψ z=>by cases z),af (aa q c)];exact q
  .exact{#[],by rw[af (nx q λψ z=>by cases z),af (aa q c),q];simp}
 have bc:j1 X.prog X.w (upd (upd m d (.xd [(name,y)])) x (XD x C d)) A:=λa o e=>by
  by_cases z:a=x
  .subst z;rw[a7]at e;cases e;exact Qn ex
  .rw[af z]at e
   by_cases J:a=d
   .subst J;rw[a7]at e;cases e;refine{_,ns,λf=>?_}
    by_cases p:f=name
    .have j:(f==name)=true:=beq_iff_eq.mpr p;simp only[wfn,j,if_pos p];exact Q
    .have j:(f==name)=false:=beq_eq_false_iff_ne.mpr p;simp only[wfn,j,if_neg p]
     trivial
   .rw[af J]at e;refine(i.bc a o e).qX (λb u j q=>k b u ?_ q) (λb q=>?_) λb vs q=>?_
    .rintro rfl;rcases j with rfl |j
     .exact z rfl
     .rw[l]at j;cases j
    .have:b≠x:=λE=>by rw[E,l]at q;cases q
     rw[af this,af (aa q c)];exact q
    .have:b≠x:=λE=>by rw[E,l]at q;cases q
     rw[af this,af (aa q c)];exact q
 exact i.vo (s':={G with heap:=A,toks:=tk}) rfl un bc i.bare λb z=>absurd z (by simp)
end
section
variable{X:Cx}{CB f:Addr}{p pos apos:Pos}{e e2:Expr}{t:TA}{Dn:Str}
theorem GU(r:Gl X Dn)(J:X.mg Dn=ρ (.ref CB))(B:Jy X.K CB)(ha:PA X [e,e2] t)(g:(Dn==("__debug__":Str))=false:=by decide)
 (he:starEach [e,e2] X.5=(false,eval e X.5)::starEach [e2] X.5:=by rfl) (hpl:(backTo pos (starEach [e2] X.5)).any (·.1)=false:=by rfl)
 (j:eval (.Call (.Attribute (.Name Dn p) "__init__" apos) [e,e2] [] pos) X.5=(do
   let l <-eval (.Name Dn p) X.5
   standAt apos.atName
   let (f,first) <-holding [l] (ķ l "__init__" pl)
   callWith pos f first (backTo pos (starEach [e,e2] X.5)) (backToKw pos (Ĝ [] X.5))):=by rfl) :
 PE X (.Call (.Attribute (.Name Dn p) "__init__" apos) [e,e2] [] pos) (LQ X.K CB t):=by
 refine{?_};intro a s σ H Q I h;refine wdA (pl:=pl) (i6 I r J ?_ g) j;refine PySem.W.method_cls I.gE B.sp (PySem.W.cls_value I.gE B.rd B.fc rfl ?_);refine wdL (cj (ha pos a _ σ H _ (I.tok _) h) λG i n=>?_) he hpl
 let{L,v,c,w,x,C,M,m,y,d,U,q}:=n
 subst y
 let{O,R,rfl,A,S}:=vals2 w
 cases A
 let{{t,j},_}:=c.bc x _ d
 let{T,N,bs,V,sub,ab,D,Y,Z,k1,k2,k3,k5,lk}:=U.lk
 refine Bc c.gE j lk λh' t' k ex=>{.non,v,?_,rfl,q};have:=c.write (x:=x) (e:=x) (o:=XN x C) (h':=h') (t':=i.toks) (by rw[d];exact Õ) (.inl rfl) (λb u E z=>k b u E z) {_,ex} (LU ex);rw[K8 d]at this;exact this
end
section
variable{X:Cx}{CB C:Addr}{E:XK}{p pos gN:Pos}{e:Expr}{es:List Expr}{t:TA}{x nm:Str}
theorem fW(J:Br X E)(hc:X.calm=true)(U:cg X.K C CB nm)(hi:findIn X.K (.ref C) "__init__"=ρ (ρ (.builtin "ValueError.__init__")))(T:Gl X x)(hm:X.mg x=ρ (.ref C))(ha:PA X (e::es) t)
 (l:(x==("__debug__":Str))=false:=by decide) (he:starEach (e::es) X.5=(false,eval e X.5)::starEach es X.5:=by rfl) (hpl:(backTo gN (starEach es X.5)).any (·.1)=false:=by rfl) :
 PS X (.Raise (ρ (.Call (.Name x p) (e::es) [] gN)) τ pos) (HH C E t):=by
 refine{?_};intro a s σ H D I h
 let{y,N,bs,sn,sub,ab,col,dd,k0,k1,k2,k3,k5,lk}:=U.lk
 refine qm (C:=C) (CB:=CB) (nm:=nm) (q:=y) (N:=N) (bs:=bs) (hdct:=true) (sn:=sn) (sub:=sub) (ab:=ab) (col:=col) (dd:=dd) (k0:=k0) (k1:=k1) (k2:=k2) (k3:=k3) (k5:=k5) (I.ok.hd hc) ?_;refine ę (i6 I T hm ?_ l);refine ť (h₀:=X.base) I.ok.mod.Jq U.kp (cj (ha gN a s σ H _ I h) λA c ⟨Q,B,d,r,f,q⟩=>{d.gE,?_}) he hpl
 obtain⟨u,rfl⟩:∃u,A=[u]:=by
  have:=r.9;rw[f]at this;exact List.length_eq_one_iff.mp this.symm
 have m:=Inv.newExc d [u] C;have i:(upd B (c.8+1) (XN (c.8+1) C)) (c.8+1)=ρ (XN (c.8+1) C):=a7;have j:=d.bc.fresh (í c.8)
 let{k,g,R,G,os}:=c
 refine â (z5 (d.gE _ _ lk) (ő d.gE hi) (λself=>Looks.of_pure (γ.init.bind self)) (by show 1<=sizeLine;decide) ?_)
 let{{S,L},_}:=m.bc _ _ i
 refine uo m.gE L lk λh' t' M ex=>{rfl,?_};have w:=m.write (x:=k.7+1) (e:=k.7+1) (o:=XN (k.7+1) C) (h':=h') (t':=G) (by rw[i];exact Õ) (.inl rfl) (λb u O z=>M b u O z) {_,ex} (LU ex);rw[Be]at w;have n:=w.del (x:=k.7+1) a7;rw[Bo j]at n;have v:X.s₀.8<=k.7+1:=Zn d.sz (í _);exact{_,τ,t',rfl,n.gE _ _ lk,ex,J a σ _ _ _ C τ n {v,j,_,_,ex,by show 1<6;decide,.inl rfl} q}
end
end _L
namespace K34
section
variable{P:ZC}{w:World}{K:Z6}{mg:Str->Option Value}{base:Heap}
theorem mD(L:Lk K mg):aW P w K mg base (z9 P w) 1 L.nW L.oo ["sheet","many","steps","weight"] (L4 K L.aA L.eO):=by
 have T:=L.T;refine L.dn.F.FX (N:=["sheet","many","steps","weight"]) (λU A outer s H vs Q E nd hr h=>?_)
 let{x,many,v,w,hs,c,X,b,rfl,S,Y,Z,t,m0,m1,k}:=h
 refine{_,(a6 (aT (ck ju (za T.len (2)) ae) (a9 (fW cX rfl L.gM L.hU rfl L.gL (aC fh))) aB)
  (a6 (aT (ck gO (3) ae) (a9 (fW cX rfl L.gM L.hU rfl L.gL (aC fh))) aB)
  (a9 (aT (ck gO (ak (g9 rfl) (by rfl) T.sum x6 (aC (eG rfl (aq ["sheet"] [0]) (aq ["sheet"] [0]) ⋯ (aG (2)) (λ_ _ _ _ _ _=>b8) (λ_ _ _ _ _ _=>(b4 (dU (K:=K) rfl) (rG (K:=K) rfl (2) rfl) (1) (λ_ _=>rfl)))))) (aF dW (1) (3))) (a9 (fW cX rfl L.gM L.hU rfl L.gL (aC fh))) aB)))),?_}
 ac_rfl
 let{dx,ah,bw,cl,hx,rh,u,rl}:=id S
 let{T6,eb,hb}:=fE u
 cases eb
 let{a,o,rfl,p,J}:=eM Y
 have g:o.9=b.9:=by rw[J.1,Z4,Z4]
 have no:eQ c many b w=false->∀y,a8 H y->E (.ref L.eO) τ y:=λh=>by
  rcases k with⟨r,_⟩ |⟨_,i⟩
  .rw[h]at r;cases r
  .exact i
 by_cases B:b=[]
 .subst B;have r0:o=[]:=Đ g;subst r0;exact{1,a,1,.inl p,rfl,true,Eb _,dC {rfl,no rfl H (a8.refl _)}}
 have YW:o.length≠0:=by rw[g];exact λz=>B (Đ z)
 have j:b.isEmpty=false:=by cases b with |nil=>exact absurd rfl B |cons _ _=>rfl
 refine{1,a,1,.inl p,rfl,false,congrArg V.bl (decide_eq_false λz=>by have:=V.int.inj z;rw[Z4]at this;omega),aU ?_}
 by_cases M:w<1
 .refine{1,_,1,rfl,true,congrArg V.bl (decide_eq_true M),dC {rfl,no ?_ H (a8.refl _)}};unfold eQ;rw[decide_eq_false (show ¬1<=w by omega),Ŀ,ĭ]
 refine{1,_,1,rfl,false,congrArg V.bl (decide_eq_false M),aU ?_};refine{1,a,rfl,{_,p},λlc C=>?_};refine fR (prs:=b.map ee) (λ_=>true) (λq=>match q.2 with |.int e=>.int (c.getD e.toNat 0) |_=>.non) (aJ K a (o.map V.ref)) J C (av 1.0) (λy s'=>s'.seq p) (λq d O _ _ D=>D d (a8.refl _)) (λq d O hq _ l D=>?_) (λd l R=>?_)
 .let{f,G,rfl}:=Ze.mp hq
  have m:=t f G;have I:lQ (c.map V.int) (f.2:Int)=ρ (.int (c.getD f.2 0)):=bz (by rw[Z9,Z5 m,Z8,Z5 m];rfl)
  have q2:O (.int (c.getD f.2 0)) d:=by
   have:=D d (a8.refl _);rwa[show (ee f).2=.int (f.2:Int) from rfl]at this
  exact{1,x,L.aA,dx,_,1,l _ _ hx,L.au.cl,L.au.bY,bL ah bw cl,1,bw,_,_,1,rfl,l.seq hb,I,q2}
 have e7:((b.map ee).filter λ_=>true).map (λq=>match q.2 with |.int e=>V.int (c.getD e.toNat 0) |_=>.non)=(b.map λq=>c.getD q.2 0).map V.int:=by
  rw[ù.mpr (λ_ _=>rfl),Zj,Zj];rfl
 rw[e7]at R;refine{lc,1,aM.of R,2,_,1,rfl,.inl {1.0,1.0},_,1,rfl,?_}
 by_cases n:aL c b<many*w
 .refine{true,congrArg V.bl (decide_eq_true n),dC {rfl,no ?_ d l}};unfold eQ;rw[decide_eq_false (show ¬many*w<=aL c b by omega),ĭ,ĭ]
 .refine{false,congrArg V.bl (decide_eq_false n),aU ?_};rcases k with⟨_,r⟩ |⟨i,_⟩
  .exact r d l
  .unfold eQ at i;rw[j,decide_eq_true (show 1<=w by omega),decide_eq_true (show many*w<=aL c b by omega)]at i;cases i
theorem GV(L:Lk K mg):aW P w K mg base (z9 P w) 4 L.C0 L.C2 ["sheet","many","desk","numbers","weight"] (IJ K L.aA L.eO):=by
 have T:=L.T;refine L.rN.F.FX (N:=["sheet","many","desk","numbers","weight","line","chosen","others","rest","lines","weights","twin"]) (λfI A outer s H vs Q E nd hr h=>?_)
 let{x,a,many,u,w,ns,C,j,f,rfl,S,hA,Jk,Wv,m0,m1,k}:=h
 refine{_,(a6 (aT (bj (aP (ag (jO L) L.hE (a5 (2) (aC (aZ (0) rfl)))))) (a9 (fW cX rfl L.gM L.hU rfl L.gL (aC fh))) aB)
  (a6 (ai (i:=5) (b4 bA (aZ (0) rfl) (2) (λ_ _=>rfl)))
  (a6 (aT (bj (aP (ak (gP rfl) (by rfl) T.all zZ (aC (bR rfl (aq ["line"] [5]) (aG (3)) (λ_ _ _ _ _ _=>b8) (λ_ _ _ _ _ _=>(ag (jO L) L.hE (a5 (0) (aC (1)))))))))) (a9 (fW cX rfl L.gM L.hU rfl L.gL (aC fh))) aB)
  (a6 (qo (i:=6) rfl (aq ["numbers"] [3]) nd rfl rfl (aq ["numbers"] [3]) ⋯ (nA (by rfl) T.enum (aC (5))) (λ_ _ _ _ _ _=>dh (eZ (fg (K:=K) rfl) (0) (2) rfl)) (λ_ _ _ _ _ _=>(1)))
  (a6 (qo (i:=7) rfl (aq ["numbers"] [3]) nd rfl rfl (aq ["numbers"] [3]) ⋯ (nA (by rfl) T.enum (aC (5))) (λ_ _ _ _ _ _=>dh (eZ (lV (K:=K) rfl) (0) (2) rfl)) (λ_ _ _ _ _ _=>(1)))
  (a6 (ai (i:=8) (aF gn (b4 bA (aZ (0) rfl) (2) (λ_ _=>rfl)) (4)))
  (a6 (bH (lE (mD L) (hr.mono ⋯) rfl L.dn.g L.dn.F.kp L.dn.b .nil (vx cX) (a5 (0) (a5 (1) (a5 (6) (aC (4)))))))
  (a6 (bH (lE (mD L) (hr.mono ⋯) rfl L.dn.g L.dn.F.kp L.dn.b .nil (vx cX) (a5 (0) (a5 (1) (a5 (7) (aC (8)))))))
  (a6 (ai (i:=9) (aF ja (aZ (0) rfl) (bB (aC (7)))))
  (a6 (ir (6) (zC (9) (2) set_list))
  (a6 (ai (i:=10) (aF ja (aZ (0) rfl) (bB (aC (8)))))
  (a6 (ir (4) (zC (10) (2) set_list))
  (a6 (ai (i:=11) (za T.len (aZ (0) rfl)))
  (a9 (ao (jb L.u3 (fH L) (hr.mono ⋯) rfl L.rP L.eN.b .nil lU (a5 (aF ja (aZ (0) rfl) (bB (aC (b4 bA (aZ (0) rfl) (2) (λ_ _=>rfl))))) (a5 (10) (aC (bR rfl (aq ["desk","twin"] [2,11]) (aG (9)) (λ_ _ _ _ _ _=>b8) (λ_ _ _ _ _ _=>(ag (uN L) L.oO (a5 (0) (a5 (1) (aC (2)))))))))))))))))))))))))),?_}
 ac_rfl
 refine Fw λR1 c1=>?_
 let{dx,M,bw,cl,hx,rh,AV,rl}:=id S
 have hh:=xg rh;have hw:=lK AV
 let{OC,t,ec,hc,ux}:=id rl
 cases ec;have xl:t.9=f.9:=by rw[ux.len,Z4]
 have hn:=Wv.n;have vU:=Wv.w;have uF:=Wv.l
 have no:cE j f many u ns w=false->∀H',a8 H H'->E (.ref L.eO) τ H':=λh=>by
  rcases k with⟨k1,_⟩ |⟨_,k2⟩
  .rw[h]at k1;cases k1
  .exact k2
 cases h1:eA u f.length with
 |false=>
  refine{2,x,L.aA,dx,_,1,hx,L.au.cl,L.au.dj,bI M bw cl,u,cl,t,rfl,.inl hc,false,congrArg V.bl (by rw[xl];exact h1),dC {rfl,no ?_ H (a8.refl _)}};unfold cE;rw[h1,Ŀ]
 |true=>
 obtain⟨d,rfl,hd⟩:∃d:Nat,u=(d:Int)/\d<f.9:=by
  unfold eA at h1;rw[è]at h1;have a1:=of_decide_eq_true h1.1;have a2:=of_decide_eq_true h1.2;exact{u.toNat,(),()}
 refine{2,x,L.aA,dx,_,1,hx,L.au.cl,L.au.dj,bI M bw cl,_,cl,t,rfl,.inl hc,true,congrArg V.bl (by rw[xl];exact h1),aU ?_};refine c1 _ _ (Fw λR2 c2=>?_);rw[Zy]at k;have U1:d<t.9:=();have U2:t[d]?=ρ t[d]:=Z5 U1
 let{dd,U3,rd}:=ux.get d _ U2
 have P5:f[d]?=ρ f[d]:=Z5 hd;rw[Z9,P5]at U3;cases U3;have Mh:f.getD d []=f[d]:=by rw[Z8,P5];rfl
 have Hl:f[d]∈f:=ZQ hd;have DM:=Wv.m _ Hl;have GD:=Wv.e _ Hl
 have U4:cE j f many (d:Int) ns w=(ns.all (λi=>eA i f[d].9)&&(eQ j many (aI ns f[d]) w&&eQ j many (aH ns f[d]) (j.getD d 0-w))):=by
  unfold cE;rw[h1,ν,Zy,Mh]
 unfold eR at k;rw[Mh]at k;rw[U4]at k no;refine{1,x,L.aA,dx,_,1,hx,L.au.cl,L.au.dj,bI M bw cl,1,cl,t,_,t[d],rfl,rfl,.inl hc,bz U2,?_}
 let{al,ys,el,O,zc}:=rd
 rw[el];have yl:ys.9=f[d].9:=by rw[zc.len,Z4]
 generalize f[d]=p at U4 Hl DM GD zc yl k no;refine c2 _ _ (Fw λR3 c3=>?_);refine{1,a,rfl,{_,hA},λl1 JU=>?_};refine comp_map (λv=>match v with |.int i=>V.bl (eA i ys.9) |_=>.non) (aJ K a (ns.map V.int)) JU (by rw[Z4];exact av ()) (λH' s'=>s'.seq hA) (λz H2 Q' hz s2 R=>?_) (λH2 s2 h2=>?_)
 .let{i,1}:=Ze.mp hz
  exact{2,i,al,ys,rfl,s2.seq (.inl O),R H2 (a8.refl _)}
 have e2:(ns.map V.int).map (λv=>match v with |.int i=>V.bl (eA i ys.9) |_=>.non)=(ns.map λi=>eA i p.9).map V.bl:=by
  rw[Zj,Zj,yl];rfl
 rw[e2]at h2
 have O8:((ns.map λi=>eA i p.9).all id)=ns.all (λi=>eA i p.9):=by
  rw[œ];rfl
 cases h3:ns.all (λi=>eA i p.9) with
 |false=>
  refine{l1,1,aM.of h2,false,congrArg V.bl (O8.trans h3),dC {rfl,no ?_ H2 s2}};rw[h3,Ŀ]
 |true=>
 refine{l1,1,aM.of h2,true,congrArg V.bl (O8.trans h3),aU ?_};refine c3 _ _ (Fw λR4 c4=>?_);rw[h3,ν]at k no;refine{1,al,ys,rfl,s2.seq (.inl O),λlc wB=>?_};refine wc (λi=>jY (.int (i:Nat)) (ns.map V.int)) (s2.seq (.inl O)) wB (av ()) (λi y H3 Q' _ s3 R=>?_) (λi y H3 Q' _ s3 R=>{1,R H3 (a8.refl _)}) (λH3 s3 U5=>?_)
 .exact{2,a,1,.inl ((s2.trans s3).seq hA),rfl,dF ns,1,R H3 (a8.refl _)}
 have Xj:(λi:Nat=>jY (.int (i:Nat)) (ns.map V.int))=λi:Nat=>decide ((i:Int)∈ns):=funext λi=>iH _ ns;rw[Xj]at U5;have GC:=s2.trans s3;refine c4 _ _ (Fw λR5 c5=>?_);refine{1,al,ys,rfl,GC.seq (.inl O),λlo Ke=>?_};refine wc (λi=>!jY (.int (i:Nat)) (ns.map V.int)) (GC.seq (.inl O)) Ke (av ()) (λi y H4 Q' _ s4 R=>?_) (λi y H4 Q' _ s4 R=>{1,R H4 (a8.refl _)}) (λH4 s4 U6=>?_)
 .exact{2,a,1,.inl ((GC.trans s4).seq hA),rfl,dF ns,1,R H4 (a8.refl _)}
 have RF:(λi:Nat=>!jY (.int (i:Nat)) (ns.map V.int))=λi:Nat=>!decide ((i:Int)∈ns):=funext λi=>congrArg (!·) (iH _ ns);rw[RF]at U6;have B:=GC.trans s4;refine c5 _ _ (Fw λR6 c6=>?_);have Xk:=s4 _ _ U5;have rC:bh K H4 (bx (aI ns p)) (.ref lc):={lc,1,.inl Xk,nN _ (aQ.same B _ _ zc)};have rO:bh K H4 (bx (aH ns p)) (.ref lo):={lo,1,.inl U6,nN _ (aQ.same B _ _ zc)};have Xl:(aI ns p).9<=5000:=Zn (fm _ _ _) DM;have Xm:(aH ns p).9<=5000:=Zn (fm _ _ _) DM;have ce:∀q∈aI ns p,q.2<j.9:=λq hq=>by rw[vU];exact GD q (fo hq)
 have oe:∀q∈aH ns p,q.2<j.9:=λq hq=>by rw[vU];exact GD q (fo hq)
 have Ml:d<j.9:=();have LN:lQ (j.map V.int) (d:Int)=ρ (.int (j.getD d 0)):=bz (by rw[Z9,Z5 Ml,Z8,Z5 Ml];rfl);refine{1,x,L.aA,dx,_,1,B _ _ hx,L.au.cl,L.au.bY,bL M bw cl,1,bw,_,_,1,rfl,B.seq (.inl hw),LN,1,_,1,rfl,?_};show dA 8 (V.int (j.getD d 0-w)) _ _ _;refine c6 _ _ (Fw λR7 c7=>?_);have S4:=S.same B;refine{4,x,many,.ref lc,w,C,j,f,aI ns p,rfl,S4,rC,(),ce,m0,m1,?_}
 cases h5:eQ j many (aI ns p) w with
 |false=>exact .inr {rfl,λH5 s5=>no (by rw[h5,Ŀ]) H5 (B.trans s5)}
 |true=>
 refine .inl {rfl,λH5 s5=>?_};refine c7 _ _ (Fw λR8 c8=>?_);rw[h5,ν]at k no;refine{4,x,many,.ref lo,j.getD d 0-w,C,j,f,aH ns p,rfl,S4.same s5,bh.same s5 _ _ rO,(),oe,m0,m1,?_}
 cases h6:eQ j many (aH ns p) (j.getD d 0-w) with
 |false=>exact .inr {rfl,λH6 s6=>no h6 H6 ((B.trans s5).trans s6)}
 |true=>
 refine .inl {rfl,λH6 s6=>?_};refine c8 _ _ ?_;obtain⟨_,kk⟩:True/\_:=⟨trivial,k⟩;rcases kk with⟨_,k⟩ |⟨k1,_⟩
 rotate_left
 .rw[h6]at k1;cases k1
 have Mm:=s5.trans s6;have Jp:=B.trans Mm;have Xn:=bh.same Mm _ _ rC;have Xo:=bh.same Mm _ _ rO;have big:∀n:Nat,n<=20000->n<=sizeLine:=λn hn=>Zn hn (by rw[Ö];decide);refine{1,x,L.aA,dx,_,1,Jp _ _ hx,L.au.cl,L.au.dj,bI M bw cl,1,by show 1<=sizeLine;decide,λl7 O4=>?_};refine{cl,l7,t,[.ref lo],rfl,rfl,hZ (Jp.trans (a8.upd O4)) hc,.inl a7,big _ (by show t.9+1<=_;lia),λU I=>?_};have U7:a8 H6 (upd H6 l7 (.lst [V.ref lo])):=a8.upd O4;generalize upd H6 l7 _=X at U7 I;have YX:a8 X (upd X U (.lst (t++[V.ref lo]))):=a8.upd I
 have OI:zj (t++[V.ref lo]).length (d:Int)=ρ d:=by
  have Y:(t++[V.ref lo]).9=t.9+1:=by rw[Zd];rfl
  unfold zj;rw[Y,if_pos (),if_pos (),Zy]
 refine{3,U,_,_,d,rfl,rfl,a7,OI,?_};have M5:(upd (upd X U (.lst (t++[V.ref lo]))) U _) U=ρ (.lst ((t++[V.ref lo]).set d (V.ref lc))):=a7
 have P6:a8 H6 (upd (upd X U (.lst (t++[V.ref lo]))) U (.lst ((t++[V.ref lo]).set d (V.ref lc)))):=λc o e=>by
  have J:=U7 _ _ e;rw[af (aa J I),af (aa J I)];exact J
 generalize upd (upd X U _) U _=H8 at M5 P6;have P7:=Jp.trans P6
 have Xp:aQ K H8 (((f++[aH ns p]).set d (aI ns p)).map bx) ((t++[V.ref lo]).set d (V.ref lc)):=by
  have r1:aQ K H8 (f.map bx++[bx (aH ns p)]) (t++[V.ref lo]):=cW (aQ.same P7 _ _ ux) (bh.same P6 _ _ Xo)
  have e:((f++[aH ns p]).set d (aI ns p)).map bx=(f.map bx++[bx (aH ns p)]).set d (bx (aI ns p)):=by
   rw[wgJ,Zk];rfl
  rw[e];exact r1.set d (bh.same P6 _ _ Xn)
 refine{1,x,L.aA,dx,_,1,P7 _ _ hx,L.au.cl,L.au.bY,bL M bw cl,1,by show 1<=sizeLine;decide,λl9 O5=>?_};refine{bw,l9,_,[.int (j.getD d 0-w)],rfl,rfl,hZ (P7.trans (a8.upd O5)) hw,.inl a7,big _ (by rw[Z4];show j.9+1<=_;lia),λlw LD=>?_};have U8:a8 H8 (upd H8 l9 (.lst [.int (j.getD d 0-w)])):=a8.upd O5;generalize upd H8 l9 _=RG at U8 LD;have LV:j.map V.int++[V.int (j.getD d 0-w)]=(j++[j.getD d 0-w]).map V.int:=by rw[Zk];rfl
 rw[LV]
 have RH:zj ((j++[j.getD d 0-w]).map V.int).length (d:Int)=ρ d:=by
  have Y:((j++[j.getD d 0-w]).map V.int).9=j.9+1:=by rw[Z4,Zd];rfl
  unfold zj;rw[Y,if_pos (),if_pos (),Zy]
 refine{3,lw,_,_,d,rfl,rfl,a7,RH,?_}
 have RJ:((j++[j.getD d 0-w]).map V.int).set d (.int w)=(bF j d w).map V.int:=by
  unfold bF;rw[wgJ]
 rw[RJ];have U9:(upd (upd RG lw (.lst ((j++[j.getD d 0-w]).map V.int))) lw _) lw=ρ (.lst ((bF j d w).map V.int)):=a7
 have RK:a8 H8 (upd (upd RG lw (.lst ((j++[j.getD d 0-w]).map V.int))) lw (.lst ((bF j d w).map V.int))):=λc o e=>by
  have J:=U8 _ _ e;rw[af (aa J LD),af (aa J LD)];exact J
 generalize upd (upd RG lw _) lw _=H9 at U9 RK;have D:=P7.trans RK;refine{1,x,L.aA,dx,_,1,D _ _ hx,L.au.cl,L.au.dj,bI M bw cl,cl,t,rfl,.inl (D.seq (.inl hc)),?_};rw[xl];have Ua:d<C.9:=();have LO:lQ (C.map V.str) (d:Int)=ρ (.str (C.getD d "")):=bz (by rw[Z9,Z5 Ua,Z8,Z5 Ua];rfl);refine{1,x,L.aA,dx,_,1,D _ _ hx,L.au.cl,L.au.ib,eu M bw cl,1,x,L.aA,dx,_,1,D _ _ hx,L.au.cl,L.au.ib,eu M bw cl,1,M,_,_,1,rfl,D.seq (.inl hh),LO,by show 1<=sizeLine;decide,λl10 GJ=>?_};refine{M,l10,_,[.str (C.getD d "")],rfl,rfl,hZ (D.trans (a8.upd GJ)) hh,.inl a7,big _ (by rw[Z4];show C.9+1<=_;lia),λlh Hk=>?_};have Ub:a8 H9 (upd H9 l10 (.lst [.str (C.getD d "")])):=a8.upd GJ;generalize upd H9 l10 _=Uc at Ub Hk;have GK:C.map V.str++[V.str (C.getD d "")]=(cq C d).map V.str:=by unfold cq;rw[Zk];rfl
 rw[GK];have P8:=Ub.trans (a8.upd (o:=.lst ((cq C d).map V.str)) Hk);have O9:(upd Uc lh _) lh=ρ (.lst ((cq C d).map V.str)):=a7;generalize upd Uc lh _=Mo at P8 O9;have JW:=RK.trans P8;have Z:=JW _ _ M5;have RL:=aQ.same JW _ _ Xp;have zl:((t++[V.ref lo]).set d (V.ref lc)).9=f.9+1:=by rw[ě,Zd,xl];rfl
 refine{2,U,rfl,{_,aM.of Z},λlt zb=>?_}
 have Oa:∀l∈(f++[aH ns p]).set d (aI ns p),l.9<=5000:=λl hl=>by
  rcases ų hl with z |z
  .rcases ZH.mp z with z |z
   .exact Wv.m l z
   .rw[Zz.mp z];exact Xm
  .rw[z];exact Xl
 refine yI (K:=K) ((((f++[aH ns p]).set d (aI ns p)).map (eB d f.9)).map bx) (aJ K U ((t++[V.ref lo]).set d (V.ref lc))) zb (big _ (by rw[zl];lia)) (by rw[Z4,Z4,ě,Zd,zl];rfl) (λH' s'=>aM.of (s' _ _ Z)) (λi y dt Mp Q' hy J6 G R=>?_) (λMp G Xq=>?_)
 .let{d',J,r}:=RL.get i y hy
  rw[Z9]at J J6;rw[Z9]at J6
  cases e:((f++[aH ns p]).set d (aI ns p))[i]? with
  |none=>rw[e]at J;cases J
  |some l=>
   rw[e]at J J6;cases J;cases J6;exact{3,y,d,f.9,l,rfl,bh.same G _ _ r,Oa l (Zv e),λz LW JX Xr=>R z LW JX Xr}
 intro y dy ny Rh Ww;have sm:a8 Mp (upd (upd Mp dy (.own y)) y (.ins L.aA dy [])):=fq ny Rh;have GW:=D.trans P8;refine{y,dy,.ref lh,.ref lw,.ref lt,cq C d,bF j d w,((f++[aH ns p]).set d (aI ns p)).map (eB d f.9),rfl,a7,km (sm _ _ (G _ _ O9)),gb (sm _ _ (G _ _ (P8 _ _ U9))),bh.same ((cS _ _).trans sm) _ _ Xq,?_,?_,?_,?_,λa' b' c' LW RM q1 q2 q3 RN=>{rfl,?_}}
 .unfold cq;rw[Zd];show C.9+1<=_;lia
 .unfold bF;rw[ě,Zd];show j.9+1<=_;lia
 .rw[Z4,ě,Zd];show f.9+1<=_;lia
 .intro l hl
  let{l',Ob,rfl}:=Ze.mp hl
  have:=lG d f.length l';have:=Oa l' Ob
  lia
 .have JX:a8 Mp LW:=λc o e=>RN _ _ (sm _ _ e) (aa e ny);refine k y LW (GW.trans (G.trans JX)) ?_;have Jj:H y=τ:=none_of (GW.trans G) ny;have nw:=λ(dd:gi) (v:V) (r:bh K (aO _ LW) dd v)=>bh.same (fu ((GW.trans G).trans sm)) dd v r;exact{dy,a',b',c',bO Jj RM,nw _ _ q1,nw _ _ q2,nw _ _ q3}
theorem iC(L:Lk K mg):aW P w K mg base (z9 P w) 7 L.fv L.fw ["band","many","wide"] (Gg L.aN L.fU):=by
 have T:=L.T;refine L.cz.F.FX (N:=["band","many","wide","most","weights","in_all"]) (λY A outer s H vs Q E nd hr h=>?_)
 let{x,many,n,g,O,ss,ls,rfl,B,r,t,u,y,k,R}:=h
 refine{_,(a6 (Et wgZ rfl (lC rfl T.range (a5 ae (aC (aF dJ (bV (v:=.int 8) (by rfl) L.uf.choose_spec {_,rfl}) ae)))) (az (i:=3)) (a6 (ai (i:=4) (ag (qV L) L.mY (a5 (0) (a5 (1) (a5 (2) (aC (3)))))))
  (a6 (ai (i:=5) (ak (DI rfl) (by rfl) T.sum x6 (aC (BC (K:=K) rfl wf4 wd4 weZ vy (4)))))
  (a6 (aT (ck i5 (5) (bV (v:=.int 40) (by rfl) L.jX.choose_spec {_,rfl})) (a9 (fW cX rfl L.iB L.C3 rfl L.xt (aC fh))) aB)
  (a9 (aT (ck i5 (5) ae) (a9 (ao (4))) aB))))))
  (a9 (fW cX rfl L.iB L.C3 rfl L.xt (aC fh)))),?_}
 ac_rfl
 refine⟨_,_,rfl,rfl,1,9,rfl,⋯,?_⟩;refine cT (lo:=1) (n:=8) (λi σ q=>∃z v4 C:Option V,σ=[ρ (.ref x),ρ (.int many),ρ (.int (n:Int)),z,v4,C]/\a8 H q/\∀(m:Int) (h:Str->Int),1<=m->m<1+(i:Int)->jB g O ss ls many n m h->(ls.map h).sum=0) {τ,τ,τ,rfl,a8.refl _,λm h S Z=>()} ?_ ?_
 .rintro i σ q hi ⟨z,v4,C,rfl,j,l⟩;refine{4,x,many,n,1+(i:Int),g,O,ss,ls,rfl,B.same j,r,t,u,y,(),λd f U s3 fd D G=>?_};refine{1,.inr (.inr (.inl {rfl,.inl {_,D}})),d,1,rfl,D,λv hv=>?_};have I:=a8.upd (o:=ni v d) hv;have J:=I _ _ D;have p:(upd U v _) v=ρ (ni v d):=a7;generalize upd U v _=X at I J p;have a:=j.trans (s3.trans I);refine{v,d,_,ls.map f,rfl,p,J,zY f ls,?_}
  by_cases b:(40:Int)<(ls.map f).sum
  .refine{1,_,1,rfl,true,congrArg V.bl (decide_eq_true b),dC {rfl,?_}};exact R {1+(i:Int),(),(),l,.inr ⟨f,G,b⟩} X a
  refine{1,_,1,rfl,false,congrArg V.bl (decide_eq_false b),aU ?_}
  by_cases M:(0:Int)<(ls.map f).sum
  .refine{1,_,1,rfl,true,congrArg V.bl (decide_eq_true M),dC {1,?_}};exact k d f X a (none_of j fd) J {{1+(i:Int),(),(),G,l},M,()}
  .refine{1,_,1,rfl,false,congrArg V.bl (decide_eq_false M),aU ?_};refine{_,_,1,a,λm h S Z c=>?_}
   by_cases e:m=1+(i:Int)
   .subst e;have:=pP G c;have:=sL c.nn
    lia
   .exact l m h S () c
 .rintro σ q ⟨z,v4,C,rfl,j,l⟩;exact{rfl,R ⟨9,⋯,⋯,l,.inl rfl⟩ q j}
theorem pZ(L:Lk K mg):aW P w K mg base cY 5 L.gv L.jF ["self","weights","splits","kept","last"] (IK K L.bf L.aA):=by
 have T:=L.T;refine L.jM.F.dP (N:=["self","weights","splits","kept","last"]) (λfI A outer s H vs Q E nd hr h=>?_)
 let{x,f,d,z,u,v,m,p,ks,hs,ws,Y,rfl,D,hd,Ts,QY,S,n1,n2,n3,n4,n5,k}:=h
 refine{_,(a6 (gQ (0) (bC zG (by rfl) T.dict JK (aC (1))) rfl)
  (a6 (gQ (0) (Gf rfl (aq [] []) (aq [] []) (aq [] []) {⋯,⋯,⋯} (aG (2)) (λ_ _ _ _ _ _=>b8) (λ_ _ _ _ _ _=>(cM (a5 (0) (a5 (bC (lW (K:=K) rfl) (by rfl) T.list eV (aC (1))) (aC (2))))))) rfl)
  (a6 (gQ (0) (bC dg (by rfl) T.list eV (aC (3))) rfl)
  (a9 (gQ (0) (ag (jQ L) L.hF (aC (4))) rfl))))),?_}
 ac_rfl
 let{c,rfl,hc}:=fE QY
 let{b,xs,rfl,hb,Z}:=Ts
 have xl:xs.9=p.9:=by rw[Z.len,Z4]
 have G:∀{d:Addr} {ys:List V} {H':Hp},aM K H d ys->(∀b o,H b=ρ o->b≠x->H' b=ρ o)->aM K H' d ys:=λhS kp=>(jg kp).seq (Bp D hS);refine{1,d,1,hd,λa I=>?_};have B:x≠a:=aa D I;refine{1,x,L.bf,f,[],rfl,by rw[af B];exact D,L.bX.cl,L.bX.bY,(show 0<1000 by decide),?_};rw[JH];have k1:∀d o,H d=ρ o->d≠x->(upd (upd H a (.dK (b9 m))) x (.ins L.bf f (vJ a))) d=ρ o:=λd o e hd=>by rw[af hd];exact a8.upd I _ _ e
 have x1:(upd (upd H a (.dK (b9 m))) x _) x=ρ (.ins L.bf f (vJ a)):=a7;have a1:(upd (upd H a (.dK (b9 m))) x (.ins L.bf f (vJ a))) a=ρ (.dK (b9 m)):=by rw[af B.symm,a7]
 generalize upd (upd H a _) x _=H1 at k1 x1 a1 ⊢;have RO:=aQ.same (jg k1) _ _ (aQ.off D _ _ Z);have Ud:aM K H1 b xs:=G (.inl hb) k1;refine{1,b,rfl,{_,Ud},λj G8=>?_};refine GL (K:=K) (p.map uE) (aJ K b xs) G8 (av ()) (by rw[Z4,xl]) (λH' s'=>s'.seq Ud) (λi v dd n hv l U=>?_) (λn U r3=>?_)
 .let{d',e',r}:=RO.get i v hv
  rw[l]at e';cases e';rw[Z9]at l
  cases e:p[i]? with
  |none=>rw[e]at l;cases l
  |some sp=>
   rw[e]at l;cases l
   let{r0,ys,rfl,hT,h2}:=r
   let{v1,YY,rfl,{rfl,_},h3}:=h2
   let{v2,VN,rfl,r2,h4}:=h3
   let{v3,T1,rfl,{rfl,_},h5}:=h4
   cases(show T1=[] from h5)
   let{l2,rfl,E1}:=fE r2
   refine{r0,_,_,1,g8.of (U _ _ hT),λQ' qq=>?_};refine{2,l2,1,.inl (U.seq E1),λl3 J=>?_};refine{1,by show 3<=sizeLine;decide,λt ht=>?_};have s4:a8 (upd n l3 (.lst ((nI sp.2.1).map V.int))) (upd (upd n l3 (.lst ((nI sp.2.1).map V.int))) t (.tup [.int (sp.1:Int),.ref l3,.int sp.2.2])):=a8.upd ht;refine qq _ _ ((a8.upd J).trans s4) ?_;exact BQ (d:=sp.1) (ns:=sp.2.1) (w:=sp.2.2) (bO (none_of (a8.upd J) ht) a7) (bO J (s4 _ _ a7))
 have YZ:x≠j:=aa x1 G8;have x3:=U _ _ x1;have a3:=U _ _ a1;refine{1,x,L.bf,f,vJ a,rfl,x3,L.bX.cl,L.bX.t7,(show 1<1000 by decide),?_};rw[Fd];have k3:∀d o,H d=ρ o->d≠x->(upd n x (.ins L.bf f (sV a j))) d=ρ o:=λd o e hd=>by rw[af hd];exact U _ _ (k1 _ _ e hd)
 have x4:(upd n x _) x=ρ (.ins L.bf f (sV a j)):=a7;have a4:(upd n x (.ins L.bf f (sV a j))) a=ρ (.dK (b9 m)):=by rw[af B.symm];exact a3
 have old:a8 (aO H1 n) (aO H n):=λd o e=>by
  unfold aO at e ⊢
  cases q:H d with
  |none=>
   cases M:H1 d with
   |none=>rw[M]at e;exact e
   |some z=>rw[M]at e;cases e
  |some z=>
   by_cases hd:d=x
   .rw[hd,x1]at e;cases e
   .rw[k1 _ _ q hd]at e;cases e
 have r4:bh K (aO H (upd n x (.ins L.bf f (sV a j)))) (.lst (p.map uE)) (.ref j):=bh.same (old.trans (bu D λd o e hd=>by rw[af hd];exact e)) _ _ r3;generalize upd n x _=X at k3 x4 a4 r4 ⊢;refine{1,c,1,.inl (G hc k3),λg O=>?_};have C:x≠g:=aa x4 O
 have Xs:H g=τ:=by
  cases q:H g with
  |none=>rfl
  |some o=>have:=k3 _ _ q C.symm;rw[O]at this;cases this
 refine{1,x,L.bf,f,sV a j,rfl,by rw[af C];exact x4,L.bX.cl,L.bX.Fy,(show 2<1000 by decide),?_};rw[BL];have s5:∀d o,X d=ρ o->d≠x->(upd (upd X g (.lst ((nI ks).map V.int))) x (.ins L.bf f (vK a j g))) d=ρ o:=λd o e hd=>by rw[af hd];exact a8.upd O _ _ e
 have x5:(upd (upd X g (.lst ((nI ks).map V.int))) x _) x=ρ (.ins L.bf f (vK a j g)):=a7;have c5:(upd (upd X g (.lst ((nI ks).map V.int))) x (.ins L.bf f (vK a j g))) g=ρ (.lst ((nI ks).map V.int)):=by rw[af C.symm,a7]
 generalize upd (upd X g _) x _=H5 at s5 x5 c5 ⊢;have k5:∀d o,H d=ρ o->d≠x->H5 d=ρ o:=λd o e hd=>s5 _ _ (k3 _ _ e hd) hd
 have S5:c9 K L.aA H5 z hs ws Y:=by
  let{dz,ah,bw,cl,hz,rh,AV,rl}:=id S
  have Xu:z≠x:=λq=>by rw[q,D]at hz;have:=Zi hz;injection this with _ _ M;cases M
  have go:=λ(dd:gi) (v:V) (r:bh K H dd v)=>bh.same (jg k5) dd v (bh.off D dd v r);exact{dz,ah,bw,cl,k5 _ _ hz Xu,go _ _ rh,go _ _ AV,go _ _ rl}
 refine{1,z,hs,ws,Y,rfl,S5,n1,n2,n3,n4,λy R s6 S6=>?_};refine{1,x,L.bf,f,vK a j g,rfl,s6 _ _ x5,L.bX.cl,L.bX.Fz,(show 3<1000 by decide),?_};rw[yh];have up:∀{Ha:Hp},(∀d o,Ha d=ρ o->d≠x->(upd R x (.ins L.bf f (qZ a j g y))) d=ρ o)->a8 (aO H Ha) (aO H (upd R x (.ins L.bf f (qZ a j g y)))):=λh=>bu D h;have u6:∀d o,R d=ρ o->d≠x->(upd R x (.ins L.bf f (qZ a j g y))) d=ρ o:=λd o e hd=>by rw[af hd];exact e
 have u4:∀d o,X d=ρ o->d≠x->(upd R x (.ins L.bf f (qZ a j g y))) d=ρ o:=λd o e hd=>u6 _ _ (s6 _ _ (s5 _ _ e hd)) hd
 have RP:a8 (aO H5 R) (aO H R):=λd o e=>by
  unfold aO at e ⊢
  cases q:H d with
  |none=>
   cases M:H5 d with
   |none=>rw[M]at e;exact e
   |some z=>rw[M]at e;cases e
  |some z=>
   by_cases hd:d=x
   .rw[hd,x5]at e;cases e
   .rw[k5 _ _ q hd]at e;cases e
 exact k a j g y _ a7 I (u4 _ _ a4 B.symm) (bh.same (up u4) _ _ r4) (gb (bO Xs (u6 _ _ (s6 _ _ c5) C.symm))) (S6.same (RP.trans (up u6))) λd o e hd=>u6 _ _ (s6 _ _ (k5 _ _ e hd)) hd
theorem rx(L:Lk K mg):aW P w K mg base cY 2 L.gW L.kP ["_law_kept","_law_lines","_law_many"] (Lp K):=by
 have T:=L.T;refine L.lj.F.dP (N:=["_law_kept","_law_lines","_law_many","_law_desk"]) (λX A outer s H vs Q E nd hr h=>?_)
 let{v,Y,b,many,c,rfl,rk,rl,ko,Z,JO,Ji,k}:=h
 have x:(A.deeper (İ "_law_is_kept" (aD (top 89)) s.heap.objs.size L.gW X)).units<À:=hr.kd
 refine{_,(a6 (aT (PW.pt (cp (bj (aP (ak bb (by rfl) T.ji di (a5 (0) (aC (cw (v:=.ty "list") (by rfl) T.list eV rfl)))))) (cp (ck (AW x) (0) (bB dS)) (cU (ck (AD x) (ak (xI rfl) (by rfl) T.sorted nE (aC (bC (DH (K:=K) rfl rfl) (by rfl) T.set KC (aC (0))))) (0)))))) (a9 (ao bU)) aB)
  (a6 (aT (bj (aP (ak (gP rfl) (by rfl) T.all zZ (aC (bR rfl (aq ["_law_lines"] [1]) (aG (0)) (λ_ _ _ _ _ _=>b8) (λ_ _ _ _ _ _=>(ag (cP L) L.cK (a5 (0) (a5 ae (aC (aF gn (ak (iu (K:=K) rfl) (by rfl) T.len Ī (aC (1))) ae))))))))))) (a9 (ao bU)) aB)
  (a6 (forA (aG (0)) (az (i:=3)) (a9 (aT (ck gO (za T.len (eG rfl (aq ["_law_kept"] [0]) (aq ["_law_kept"] [0]) ⋯ (aG (b4 bA (1) (3) (λ_ _=>rfl))) (λ_ _ _ _ _ _=>dh (eZ (fg (K:=K) rfl) (1) (2) rfl)) (λ_ _ _ _ _ _=>(1)))) (2)) (a9 (ao bU)) aB)))
  (a9 (ao bU))))),?_}
 ac_rfl
 dsimp only[T3,T4,SV]
 let{m,1,Xv,_}:=id rk
 have r:=lK rk
 let{To,xs,e,B,C}:=id rl
 cases e;have xl:xs.9=c.9:=by rw[C.len,Z4]
 have t:b.Pairwise (· < ·):=wfq.sublist ko.ab.sub;have T5:b.9<=c.9:=by have:=ko.ab.sub.length_le;rwa[ZJ]at this
 have D:(nI b).map V.int≠[]:=λz=>Z (Đ (by have:=congrArg ð z;rw[Z4,eC]at this;exact this));refine{1,_,_,_,true,rfl,dD.rd Xv,rfl,true,rfl,aU ?_};refine{1,ZE _,λe1 Rm=>?_};have R:a8 H (upd H e1 (.lst [])):=a8.upd Rm;refine{m,e1,1,rfl,R.seq (.inl r),aM.of a7,D,false,rfl,aU ?_};generalize upd H e1 _=H1 at R;refine{1,m,nI b,rfl,R.seq (.inl r),by rw[eC];omega,λp hp=>?_};rw[vQ (rX (BP t))]
 let{s2,h2}:=cJ (H:=H1) (o:=Ey P w p (nI b)) hp
 refine{p,nI b,rfl,h2,BP t,by rw[eC];omega,λl hl=>?_};generalize upd H1 p _=H2 at s2 h2 hl
 let{s3,h3}:=cJ (H:=H2) (o:=.lst ((nI b).map V.int)) hl
 generalize upd H2 l _=H3 at s3 h3;have f:=R.trans (s2.trans s3);refine{1,l,m,_,1,rfl,aM.of h3,f.seq (.inl r),dF _,dF _,false,by rw[SW (nI b)];rfl,aU ?_};refine{1,m,rfl,{_,f.seq (.inl r)},λlc wB=>?_};refine comp_map (λ_=>V.bl true) (aJ K m ((nI b).map V.int)) wB (by rw[Z4,eC];exact av 1.0) (λH' s'=>(f.trans s').seq (.inl r)) (λz H4 Q' hz s4 G=>?_) (λH4 s4 h4=>?_)
 .let{n,hn,rfl}:=sT hz
  have I:=(ko.st n hn).1;exact⟨_,rfl,_,rfl,Y,xs,rfl,.inl ((f.trans s4).seq (.inl B)),_,_,rfl,rfl,(n:Int),0,_,rfl,1.0,by rw[xl];omega,G H4 (a8.refl _)⟩
 rw[A8]at h4;refine{lc,1,aM.of h4,true,congrArg V.bl (A9 _),aU ?_};have J:=f.trans s4;refine{1,m,rfl,{_,J.seq (.inl r)},cn (K:=K) (a:=m) (xs:=(nI b).map V.int) (λj σ S=>∃v3:Option V,σ=[ρ (.ref m),ρ (.ref Y),ρ (.int many),v3]/\a8 H S) ⟨τ,rfl,J⟩ (λj σ S _ {_,_,g}=>g.seq (.inl r)) ?_ ?_}
 .rintro j y σ S hy ⟨v3,rfl,g⟩
  let{n,hn,rfl}:=sT (Zv hy)
  let{I,Xw}:=ko.st n hn
  have u:c[n]?=ρ (c.getD n []):=by rw[Z8,Z5 I];rfl
  have DM:=Ji _ (Zv u);generalize c.getD n []=M at Xw u DM
  let{y0,Jj,rd}:=C.at (i:=n) (d:=bx M) (by rw[Z9,u];rfl)
  let{ay,rs,rfl,hS,O}:=eM rd
  have yS:rs.9=M.9:=by rw[O.1,Z4,Z4]
  refine{2,Y,xs,_,1,rfl,g.seq (.inl B),bz Jj,ay,rfl,{_,g.seq hS},λld P5=>?_};refine fR (prs:=M.map ee) (λq=>jY q.2 ((nI b).map V.int)) (λq=>q.2) (aJ K ay (rs.map V.ref)) (O.same g) P5 (av 1.0) (λH' s'=>(g.trans s').seq hS) (λq U Q' hq s7 G=>?_) (λq U Q' _ _ _ G=>{1,G U (a8.refl _)}) (λU s7 h7=>?_)
  .let{q',OS,rfl}:=Ze.mp hq
   exact{2,m,1,.inl ((g.trans s7).seq (.inl r)),rfl,dF _,1,G U (a8.refl _)}
  have e7:(((M.map ee).filter λq=>jY q.2 ((nI b).map V.int)).map λq=>q.2).9=(fA b M).length:=by
   rw[Z4,Ļ,Z4];unfold fA;refine congrArg ð (wdj λq _=>?_);show jY (.int (q.2:Int)) _=_;rw[iH];exact decide_eq_decide.mpr Fa
  refine{ld,1,.inl (aM.of h7),1,_,1,rfl,false,congrArg V.bl (decide_eq_false (by rw[e7];omega)),aU {_,rfl,g.trans s7}}
 .rintro σ S ⟨v3,rfl,g⟩;exact k _ g
theorem uq(L:Lk K mg):aW P w K mg base cY 6 L.mc L.mm ["_law_plan","_law_blocks","_law_many"] (LJ K L.bf L.aA):=by
 have T:=L.T;refine L.mw.F.dP (N:=["_law_plan","_law_blocks","_law_many","_law_here","_law_told"]) (λfI A outer s H vs Q E nd hr h=>?_)
 let{x,db,o,ev,many,n,g,bw,ss,ls,f,q,ks,hs,ws,lns,rfl,P,BK,u,so,sub,nd,pm,w1,Ue,m0,m8,k}:=h
 refine{_,(a6 (aT (PW.pt (cp (bj (aP (ak wa (by rfl) T.ji di (a5 (0) (aC (bV (v:=.ref L.bf) (by rfl) L.Gi rfl)))))) (cU (bj (aP (ag (rj L) L.kZ (a5 (aZ (0) rfl) (a5 (1) (aC (2)))))))))) (a9 (ao bU)) aB)
  (a6 (aT (bj (aP (ak bb (by rfl) T.ji di (a5 (aZ (0) rfl) (aC (cw (v:=.ty "list") (by rfl) T.list eV rfl)))))) (a9 (ao bU)) aB)
  (a6 (ai (i:=3) (ag (uO L) L.oX (a5 (aZ (0) rfl) (aC (1)))))
  (a6 (forA (aG (aZ (0) rfl)) (az (i:=4)) (a6 (aT (bj (aP (ag (pX L) L.jL (a5 (4) (a5 (3) (aC (2))))))) (a9 (ao bU)) aB)
  (a9 (ai (i:=3) (ag (rp L) L.lg (a5 (b4 fb (3) ae (λ_ _=>rfl)) (a5 (b4 fb (3) ae (λ_ _=>rfl)) (a5 (b4 fb (3) ae (λ_ _=>rfl)) (a5 (b4 fb (4) ae (λ_ _=>rfl)) (a5 (b4 fb (4) ae (λ_ _=>rfl)) (aC (b4 fb (4) ae (λ_ _=>rfl)))))))))))))
  (a6 (aT (PW.pt (cp (bj (aP (ag (rx L) L.lj (a5 (aZ (0) rfl) (a5 (b4 fb (3) ae (λ_ _=>rfl)) (aC (2))))))) (cU (bj (aP (ag (iX L) L.gy (a5 (AB (0) L.bX.cl L.jr (mC L)) (aC (3))))))))) (a9 (ao bU)) aB)
  (a9 (ao (ag (iX L) L.gy (a5 (AB (0) L.bX.cl L.jr (mC L)) (aC (3))))))))))),?_}
 ac_rfl
 let{I,a,b,c,d,J,ha,rb,rc,S}:=id P
 let{b',xs,e,hb,JS}:=id rb
 cases e;have M:=u.m;have Ug:=uC a b c d;refine{_,rfl,x,L.bf,I,1,J,L.bX.cl,L.Ly,L.Jb,true,rfl,aU ?_};refine{1,x,L.bf,I,_,1,J,L.bX.cl,L.bX.bY,Ug,2,a,db,o,ev,f,_,ls,many,rfl,ha,BK,u.nn,u.le,u.fit,u.ps,M,λH1 s1=>{true,rfl,aU ?_}};refine{1,x,L.bf,I,_,1,s1 _ _ J,L.bX.cl,L.bX.t7,nD a b c d,_,_,_,true,rfl,dD.rd (hZ s1 hb),rfl,true,rfl,aU ?_};refine{1,x,L.bf,I,_,1,s1 _ _ J,L.bX.cl,L.bX.bY,Ug,1,a,db,o,ev,f,g,bw,ss,ls,n,rfl,s1 _ _ ha,BK.same s1,so,sub,λp H2 s2 r2=>?_};have O:=s1.trans s2
 refine{1,x,L.bf,I,_,1,O _ _ J,L.bX.cl,L.bX.t7,nD a b c d,b,rfl,{_,O.seq (.inl hb)},cn (K:=K) (a:=b) (xs:=xs) (Qy K x db many n g bw ss ls f q hs ws lns H)
  {p,τ,_,_,1,O,r2,fi.start nd pm w1 (λp hp=>sub.subset hp) BK.nd u.nn u.fit,CT u.rn} (λj σ H3 _ {_,_,_,_,_,_,D,_,_,_}=>D.seq (.inl hb)) ?_ ?_}
 .rintro j y σ H3 hy ⟨p,v4,R,U,G,rfl,D,r3,lo,V⟩
  let{dd,B,ry}:=JS.get j y hy
  rw[Z9]at B
  cases e:q[j]? with
  |none=>rw[e]at B;cases B
  |some z=>
  rw[e]at B;cases B
  let{dk,ns,w}:=z
  have hj:j<q.9:=(Za.mp e).1;have ej:q[j]=(dk,ns,w):=by rw[Z5 hj]at e;exact Zi e
  rw[List.drop_eq_getElem_cons hj,ej]at V
  let{ok,nl,V}:=V
  have X:=lo.whole M Ue
  let{t,1,ht,_,1,{rfl,_},_,1,rn,_,1,{rfl,_},rfl}:=id ry
  have Xx:=bh.same D _ _ ry;refine{3,t,p,dk,ns,w,many,R,U,G,rfl,Xx,r3,X,ok,nl.1,nl.2,m0,m8,λH4 s4=>{true,rfl,aU ?_}};have r:=D.trans s4;have r4:=bh.same s4 _ _ r3
  let{an,1,Tp,_}:=id rn
  have hA:=lK rn
  let{_,_,e2,hp,uh,1,rh,uw,1,Y,ul,1,rl,rfl}:=id r4
  cases e2
  let{ah,rfl,_}:=nL rh
  let{aw,rfl,_}:=fE Y
  let{al,1,_,_}:=id rl
  have C:=g8.of (K:=K) hp;have Z:=g8.of (K:=K) (r _ _ ht);refine⟨_,rfl,p,_,0,_,rfl,rfl,C,rfl,_,rfl,p,_,1,_,rfl,rfl,C,rfl,_,rfl,p,_,2,_,rfl,rfl,C,rfl,_,rfl,t,_,0,_,rfl,rfl,Z,rfl,_,rfl,t,_,1,_,rfl,rfl,Z,rfl,_,rfl,t,_,2,_,rfl,rfl,Z,rfl,?_⟩;refine{ah,aw,al,an,dk,w,nI ns,U,R,G,rfl,rh,Y,rl,r.seq (.inl hA),X,(lo.b.split ok).2,λp' H5 s5 r5=>?_};refine{p',_,_,_,1,r.trans s5,r5,?_,V};rw[List.take_succ_eq_append_getElem hj,ej];exact lo.step ok nl
 .rintro σ H3 ⟨p,v4,R,U,G,rfl,D,r3,lo,V⟩;have Xy:xs.9=q.9:=by rw[JS.len,Z4]
  rw[Xy,List.drop_length]at V
  let{rfl,rfl,rfl}:=V
  have X:=lo.whole M Ue;have uF:=X.l;have vU:=X.w;have Z0:=u.ln
  let{_,_,e2,hp,uh,1,rh,uw,1,Y,ul,1,rl,rfl}:=id r3
  cases e2
  let{al,1,_,_}:=id rl
  have C:=g8.of (K:=K) hp;have Oa:∀l∈G,l.9<=10000:=λl hl=>by have:=X.m l hl;omega
  have P9:(qZ a b c d).lookup ("sheet":Str)=τ:=Ff (by show ("sheet":Str)∉[("weights":Str),"splits","kept","last"];decide+kernel);refine⟨_,rfl,x,L.bf,I,_,_,rfl,D _ _ J,L.bX.cl,L.bX.Fy,zX a b c d,_,rfl,p,_,2,_,rfl,rfl,C,rfl,_,rfl,_,al,ks,many,G,rfl,bh.same D _ _ rc,rl,u.ko,u.ne,1.0,λl hl=>X.m l hl,λH4 s4=>{true,rfl,aU ?_}⟩;have r:=D.trans s4;refine{1,x,I,1,r _ _ J,P9,x,bZ f ls,q,ks,R,U,G,rfl,P.same r,1.0,1.0,1.0,Oa,λy5 H5 s5 S5=>{1,y5,.ref p,R,U,G,rfl,S5.same (cS _ _),bh.same (s4.trans s5) _ _ r3,1.0,1.0,1.0,λH6 s6=>{true,rfl,aU ?_}}};have Mm:=s4.trans (s5.trans s6);have Jp:=D.trans Mm;exact{1,x,I,1,Jp _ _ J,P9,x,bZ f ls,q,ks,R,U,G,rfl,P.same Jp,1.0,1.0,1.0,Oa,λy7 H7 s7 S7=>{1,y7,.ref p,R,U,G,rfl,S7.same (cS _ _),bh.same (Mm.trans s7) _ _ r3,1.0,1.0,1.0,λH8 s8=>k _ (Jp.trans (s7.trans s8))}}
end
end K34
namespace _S
inductive DU(K:Z6)(C:Addr)(vs:List V)(H:Hp)(Q:VK)(eK:XK):Prop
 |mk (x:Addr) (d:Nat) (hs:List Str) (ws:List Int) (lns:List (List (Str×Nat))) (_:vs=[.ref x,.int (d:Int)]) (_:c9 K C H x hs ws lns) (_:d<lns.9) (_:(∀l∈lns,∀q∈l,q.2<lns.9)) (_:lns.getD d []≠[]) (_:lns.9<=1000) (_:∀(l:Addr) (rs:List Nat) (H':Hp),a8 H H'->H l=τ->H' l=ρ (.lst ((nI rs).map V.int))->Reach lns rs->Q (.ref l) H')
inductive GX(K:Z6)(C CP CS CX CO:Addr)(vs:List V)(H:Hp)(Q:VK)(E:XK):Prop
 |mk (x:Addr) (many:Int) (n:Nat) (g:Str) (bw ss ls:List Str) (_:vs=[.ref x,.int many,.int (n:Int)]) (_:bE C H x g bw ss ls) (_:(∀w∈bw,1<=w.9)) (_:(ch g).Nodup) (_:2<=g.9) (_:g.9<=10) (_:ss.9<=900) (_:eT g.length many n) (_:(D2 g bw ss many n->∀(y:Addr) (f0 f:Str->Int) (rJ:List zV) (ks:List Nat) (hs:List Str) (ws:List Int) (lns:List (List (Str×Nat))) (H':Hp),a8 H H'->pO K CP CS (aO H H') y (bZ f ls) rJ ks hs ws lns->BU g bw ss ls many n f0->(∀p∈ls,f p<=f0 p)->GA g bw ss ls many n f rJ ks hs ws lns->Q (.ref y) H')) (_:SY CX g bw ss many n H E) (_:(D2 g bw ss many n->rM g bw ss ls many n->∀H',a8 H H'->E (.ref CO) τ H'))
inductive RQ(C:Addr)(n1 n2:Str)(dP Xz:V->Prop)(vs:List V)(H:Hp)(Q:VK)(eK:XK):Prop
 |mk (x u v) (_:vs=[.ref x,u,v]) (_:dP u) (_:Xz v) (_:H x=ρ (XN x C)) (_:∀d,H d=τ->Q .non (upd (upd H d (.xd [(n1,u),(n2,v)])) x (XD x C d)))
end _S
namespace K34
section
variable{P:ZC}{w:World}{K:Z6}{mg:Str->Option Value}{base:Heap}
theorem rz(L:Lk K mg):aW P w K mg base cY 1 L.kz L.kJ ["sheet","desk"] (DU K L.aA):=by
 have T:=L.T;refine L.kU.F.dP (N:=["sheet","desk","reached","waiting","line","word","end"]) (λfI A outer s H vs Q E nd n h=>?_)
 let{x,d,hs,ws,c,rfl,S,hd,he,ya,hn,k}:=h
 have hu:=eP n
 refine{_,(a6 (ai (i:=2) dZ)
  (a6 (ai (i:=3) (bB (aC (1))))
  (a6 (iI Ŗ (ck i5 (za T.len (3)) ae) (a6 (ai (i:=4) (b4 bA (aZ (0) rfl) (EV ZK wgC PySem.F.type_list_pop Ku (3)) (λ_ _=>rfl)))
  (a9 (forA (aG (4)) (dY rfl (aK (az (i:=5)) (aK (az (i:=6)) cI))) (a9 (aT (zB (vA hu (6) (2))) (a6 (eJ hu (2) (6) bU rfl)
  (a9 (bH (fJ ZK ZS ZT cb (3) (aC (6)))))) aB))))))
  (a9 (ao (bC (mM rfl) (by rfl) T.list eV (aC (2)))))))),?_}
 ac_rfl
 let{dx,ah,bw,cl,hx,rh,AV,rl}:=id S
 let{OC,xs,ec,hc,ux}:=id rl
 cases ec;have xl:xs.9=c.9:=by rw[ux.len,Z4]
 refine λrd RT=>?_;refine{1,by show 1<=sizeLine;decide,λwl vU=>?_};have J:rd≠wl:=aa a7 vU;have s0:a8 H (upd (upd H rd (.dK [])) wl (.lst [.int (d:Int)])):=(a8.upd RT).trans (a8.upd vU);have Uh:(upd (upd H rd (.dK [])) wl (.lst [.int (d:Int)])) rd=ρ (.dK (dB [])):=by rw[af J,a7];rfl
 have Ui:(upd (upd H rd (.dK [])) wl (.lst [.int (d:Int)])) wl=ρ (.lst ((nI [d]).map V.int)):=a7;have Uj:H wl=τ:=none_of (a8.upd RT) vU;generalize upd (upd H rd _) wl _=H0 at s0 Uh Ui
 refine{λq σ Y=>∃(f Z:List Nat) (v4 M v6:Option V),q=2*(c.9-f.9)+Z.9/\σ=[ρ (.ref x),ρ (.int (d:Int)),ρ (.ref rd),ρ (.ref wl),v4,M,v6]/\a8 H Y/\Y rd=ρ (.dK (dB f))/\Y wl=ρ (.lst ((nI Z).map V.int))/\f.Nodup/\(∀r∈f,r<c.9)/\(∀w∈Z,w<c.9)/\(∀r∈f,r∉Z->∀q∈c.getD r [],q.2∈f)/\(d∉Z->∀q∈c.getD d [],q.2∈f)/\Z.9<=f.9+1,
  {_,[],[d],τ,τ,τ,rfl,rfl,s0,Uh,Ui,ξ,λr h=>absurd h þ,λw h=>by rw[Zz.mp h];exact hd,λr h=>absurd h þ,λh=>absurd (Zz.mpr rfl) h,Zf _},?_}
 rintro q σ Y ⟨f,Z,v4,M,v6,rfl,rfl,s3,OM,O,nd,RU,Uk,Oc,OB,R⟩;have yS:=kn nd RU
 by_cases Ul:Z=[]
 .subst Ul;refine{1,wl,1,.inl (aM.of O),_,1,rfl,false,rfl,aU ?_};refine{1,rd,1,OM,λl hl=>?_};rw[HV];refine k l f _ (s3.trans (a8.upd hl)) (none_of s3 hl) a7 {λr n=>Oc r n þ,RU,λz=>?_,nd}
  cases e:c.getD d [] with
  |nil=>exact ya e
  |cons q qs=>
   have:=OB þ q (by rw[e];exact Zm ..);rw[z]at this;cases this
 let{z,u,rfl,hz,DY}:=HW Ul
 refine{1,wl,1,.inl (aM.of O),_,1,rfl,true,congrArg V.bl (decide_eq_true (by rw[Z4,eC,Zd];show (0:Int)<((_+1:Nat):Int);lia)),dC ?_};have XA:z<c.9:=Uk z (ZV _ (Zz.mpr rfl));have Um:c[z]?=ρ (c.getD z []):=by rw[Z8,Z5 XA];rfl
 have QL:∀q∈c.getD z [],q.2<c.9:=he _ (Zv Um)
 let{v,NX,XE}:=ux.at (i:=z) (d:=bx (c.getD z [])) (by rw[Z9,Um];rfl)
 let{a,rr,rfl,hS,hT}:=eM XE
 have T7:rr.9=(c.getD z []).9:=by rw[hT.1,Z4,Z4]
 refine{λσ' H'=>∃(ad:List Nat) (M v6:Option V),σ'=[ρ (.ref x),ρ (.int (d:Int)),ρ (.ref rd),ρ (.ref wl),ρ (.ref a),M,v6]/\a8 H H'/\H' rd=ρ (.dK (dB (f++ad)))/\H' wl=ρ (.lst ((nI (u++ad)).map V.int))/\(f++ad).Nodup/\(∀r∈f++ad,r<c.9)/\(∀q∈c.getD z [],q.2∈f++ad),?_,?_}
 .rintro σ' H' ⟨ad,M,v6,rfl,s',QW,XF,Uo,G8,j⟩;have Ob:=kn Uo G8;rw[Zd]at Ob;refine{_,?_,f++ad,u++ad,_,M,v6,rfl,rfl,s',QW,XF,Uo,G8,λw hw=>?_,λr n U q I=>?_,λU q I=>?_,?_}
  .rw[Zd,Zd,Zd];show _<2*(c.9-f.9)+(u.9+1)
   lia
  .rcases ZH.mp hw with hw |hw
   .exact Uk w (ĝ _ hw)
   .exact G8 w (ZV _ hw)
  .rcases ZH.mp n with n |n
   .by_cases B:r=z
    .rw[B]at I;exact j q I
    .refine ĝ _ (Oc r n (λm=>?_) q I);rcases ZH.mp m with m |m
     .exact U (ĝ _ m)
     .exact B (Zz.mp m)
   .exact absurd (ZV _ n) U
  .by_cases B:d=z
   .rw[B]at I;exact j q I
   .refine ĝ _ (OB (λm=>?_) q I);rcases ZH.mp m with m |m
    .exact U (ĝ _ m)
    .exact B (Zz.mp m)
  .rw[Zd]at R;rw[Zd,Zd];have:u.9+1<=f.9+1:=R
   lia
 refine{1,x,L.aA,dx,_,1,s3 _ _ hx,L.au.cl,L.au.dj,bI ah bw cl,1,.inl {rfl,_,aM.of O},wl,_,1,rfl,O,hz,?_};rw[DY];have s4:a8 H (upd Y wl (.lst ((nI u).map V.int))):=λb o e=>by rw[af (aa e Uj)];exact s3 _ _ e
 have JR:(upd Y wl (.lst ((nI u).map V.int))) rd=ρ (.dK (dB f)):=by rw[af J];exact OM
 have JT:(upd Y wl _) wl=ρ (.lst ((nI u).map V.int)):=a7;generalize upd Y wl _=H4 at s4 JR JT;refine{cl,xs,_,1,rfl,s4.seq (.inl hc),bz NX,?_};refine{1,a,rfl,{_,s4.seq hS},cn (K:=K) (a:=a) (xs:=rr.map V.ref) (QJ c f u x rd wl a d z H) {[],_,1,s4,by rw[Ó];exact JR,by rw[Ó];exact JT,by rw[Ó];exact nd,by rw[Ó];exact RU,λq I=>by rw[wfS]at I;cases I} (λi σ H5 _ q=>q.s.seq hS) ?_ ?_}
 .rintro i y σ H5 hy ⟨ad,M,v6,rfl,s5,C,X,D,G,j⟩;have hi:i<rr.9:=by have:=(Za.mp hy).1;rwa[Z4]at this
  have Mi:i<(c.getD z []).9:=();rw[Z9,Z5 hi]at hy;cases hy;have JP:H rr[i]=ρ (.tup [.str (c.getD z [])[i].1,.int ((c.getD z [])[i].2:Int)]):=hT.2 i rr[i] (lR (ee (c.getD z [])[i])) (Z5 hi) (by rw[Z9,Z9,Z5 Mi];rfl);have Ma:(c.getD z []).take (i+1)=(c.getD z []).take i++[(c.getD z [])[i]]:=by rw[Ô,Z5 Mi];rfl
  have Je:=QL _ (ZQ Mi);generalize (c.getD z [])[i]=q at JP Ma Je;have XG:=kn D G;refine{rr[i],1,g8.of (s5 _ _ JP),rfl,_,1,_,1,rfl,?_};have g:=dI.k (k:=(Â (q.2:Int):Key)) C;rw[zU]at g
  by_cases m:q.2∈f++ad
  .rw[if_pos m]at g;refine{_,rfl,1,rd,1,g,false,rfl,aU ?_};refine{ad,_,1,s5,C,X,D,G,λp t=>?_};rw[Ma]at t;rcases ZH.mp t with t |t
   .exact j p t
   .rw[Zz.mp t];exact m
  .rw[if_neg m]at g;refine{_,rfl,1,rd,1,g,true,rfl,dC ?_};refine{2,rd,1,jT.k (k:=Â (q.2:Int)) C (bN (by delta dB;rw[Z4];lia)),?_};rw[Kx m];have Up:(upd H5 rd (.dK (dB (f++ad++[q.2])))) wl=ρ (.lst ((nI (u++ad)).map V.int)):=by rw[af J.symm];exact X
   refine{1,.inl {rfl,_,aM.of Up},1,wl,_,1,rfl,Up,?_,?_}
   .rw[Zd]at R XG;rw[Z4,eC,Zd];have:u.9+1<=f.9+1:=R;exact bN ()
   refine{ad++[q.2],_,1,λb o e=>by rw[af (aa e Uj),af (aa e RT)];exact s5 _ _ e,by rw[af J,a7,ZU],by rw[a7,<-ZU,vH (u++ad),Zk];rfl,?_,λr n=>?_,λp t=>?_}
   .rw[<-ZU];refine wez.mpr {D,by simp,λa ha b hb e=>?_};rw[Zz.mp hb]at e;rw[e]at ha;exact m ha
   .rw[<-ZU]at n;rcases ZH.mp n with n |n
    .exact G r n
    .rw[Zz.mp n];exact Je
   .rw[<-ZU];rw[Ma]at t;rcases ZH.mp t with t |t
    .exact ĝ _ (j p t)
    .rw[Zz.mp t];exact ZV _ (Zz.mpr rfl)
 .rintro σ H5 ⟨ad,M,v6,rfl,s5,C,X,D,G,j⟩;rw[Z4,T7,ZI]at j;exact⟨ad,M,v6,rfl,s5,C,X,D,G,j⟩
theorem pf(L:Lk K mg):aW P w K mg base cY 6 L.iR L.iT ["band","many","wide","weights"] (FR L.aN):=by
 have T:=L.T;refine L.iV.F.dP (N:=["band","many","wide","weights","sheet","lots","homes","closed","place"]) (λfI A outer s H vs Q E nd hr h=>?_)
 let{x,d,many,n,f,g,ws,ss,ls,rfl,B,NU,RV,DL,GB,B7,NV,hd,D,Z,RD,k}:=h
 have hu:=eP hr
 refine{_,(a6 (ai (i:=4) (ag (ly L) L.iA (a5 (0) (a5 (1) (a5 (2) (aC (3)))))))
  (a6 (cN (i:=5) rfl (aq ["sheet"] [4]) nd rfl rfl (cy rfl T.range (aC (za T.len (aZ (4) rfl)))) (λ_ _ _ _ _ _=>b8) (λ_ _ _ _ _ _=>(ag (rz L) L.kU (a5 (1) (aC (0))))))
  (a6 (cN (i:=6) rfl (aq ["sheet"] [4]) nd rfl rfl (aG (Jh rfl (by rfl) T.min (by rfl) T.len (aC (5)))) (λ_ _ _ _ _ _=>b8) (λ_ _ _ _ _ _=>(b4 (dU (K:=K) rfl) (rG (K:=K) rfl (1) rfl) (0) (λ_ _=>rfl))))
  (a6 (ai (i:=7) dZ)
  (a6 (forA (yJ (3)) (az (i:=8)) (a9 (eJ hu (7) (8) (xV (eZ vr (8) (6) rfl) (bS hu (3) (8) (λ_ _=>rfl)) ae) rfl)))
  (a9 (ao (7)))))))),?_}
 ac_rfl
 have nd:ls.Nodup:=B.nd.sublist B.lv.sub;have uF:ls.9<=900:=Zn B.lv.sub.length_le B7;refine{4,x,d,many,n,bZ f ls,f,g,ws,ss,ls,rfl,B,DL,GB,B7,NV,.inl hd,fY f ls,λy H1 s1 S1=>?_};have S:=S1.same (cS _ _);have hB:=ia.first (g:=g) (ws:=ws) (ss:=ss) (n:=n) (many:=many) D Z;have Rb:(aj ls f).9<=ls.9:=ă _ _;have I:=hB.l;have Tv:(1:Int)<=many:=by have:=NV.a;lia
 generalize Uq:aj ls f=m at S hB Rb I;generalize RW:bt g ws ss ls n m=G at S hB I
 have RX:m≠[]:=λz=>by
  have h1:=vF D;rw[Uq,z]at h1;have:(0:Int)=(ls.map f).sum:=h1
  lia
 have Te:0<m.9:=List.length_pos_iff.mpr RX
 have RY:∀i,i<G.9->G.getD i []≠[]:=λi hi z=>by
  have U:G[i]?=ρ (G.getD i []):=by rw[Z8,Z5 hi];rfl
  have h1:=hB.b i _ U;rw[z]at h1;have h2:many*(m.map f).getD i 0<=0:=h1;have hw:=hB.w;have h3:=hB.p _ (iM (ws:=m.map f) (i:=i) ());have:=Int.mul_pos (show 0<many by lia) (show 0<(m.map f).getD i 0 by lia)
  lia
 let{dx,ah,bw,cl,hx,rh,AV,rl}:=id S
 have hh:=xg rh;refine{1,y,L.aA,dx,_,1,hx,L.au.cl,L.au.ib,eu ah bw cl,ah,1,.inl (.inl hh),1,(),by rw[Z4];lia,λll RZ=>?_};have en:(((m.map V.str).9:Nat):Int).toNat=m.9:=by rw[Z4,Zy]
 rw[en];refine tK (λi v H'=>∃q r,v=.ref q/\q≠ll/\H' q=ρ (.lst ((nI r).map V.int))/\Reach G r) (λi v Ha Hb ys h hl kp=>?_) (f9 0 m.9) RZ (av (by rw[Z4,ZJ];lia)) (λ_ _=>Õ) (λi v H3 ys Q' hv s3 JE qq=>?_) (λys H3 s3 h3 zc hR=>?_)
 .let{q,r,rfl,U,Mj,X}:=h
  exact{q,r,rfl,U,kp _ _ Mj U,X}
 .have hi:i<m.9:=by have:=(Za.mp hv).1;rwa[Z4,ZJ]at this
  rw[Z9,wgo hi]at hv
  have hv:v=.int (i:Int):=by
   rw[<-Zi hv];show V.int (0+(i:Int))=_;rw[Ą]
  subst hv;refine{2,y,i,m,_,G,rfl,S.same s3,(),λl hl q U=>by rw[I];exact hB.e l hl q U,RY i (),(),λl r H' s' fl Ob t=>?_};exact qq _ H' s' {l,r,rfl,(λz=>by rw[z,JE]at fl;cases fl),Ob,t}
 let{ps,rfl,Od}:=HY (ys:=ys) (R:=λq=>∃r,H3 q=ρ (.lst ((nI r).map V.int))/\Reach G r) λv hv=>by
  let{i,hi,e}:=ĥ hv
  let{q,r,e1,_,e2,e3}:=hR i v (by rw[Z5 hi,e])
  exact⟨q,e1,r,e2,e3⟩
 have hpl:ps≠[]:=λz=>by
  rw[Z4,Z4,ZJ,z]at zc;have:0=m.9:=zc
  lia
 refine{1,ll,ps,rfl,aM.of h3,hpl,λq U=>by let{r,e,_}:=Od q U;exact{_,aM.of e},λq U=>?_}
 let{r,X,t}:=Od q U
 have yS:=kn t.nd t.lt;refine{q,rfl,{_,aM.of X},λlh Hk=>?_};refine cV (λ_=>true) (λv=>match v with |.int d=>.str (m.getD d.toNat "") |_=>.non) (aJ K q _) Hk (av (by rw[Z4,eC];lia)) (λH' s'=>aM.of (s' _ _ X)) (λv H8 Q' hy s8 qq=>qq H8 (a8.refl _)) (λv H4 Q' hy _ s4 qq=>?_) (λH4 s4 h4=>?_)
 .let{n',C4,rfl}:=sT hy
  have Oe:n'<m.9:=by rw[<-I];exact t.lt n' C4
  have Y:=s3.trans s4;exact{1,y,L.aA,dx,_,1,Y _ _ hx,L.au.cl,L.au.ib,eu ah bw cl,1,ah,_,_,1,rfl,Y.seq (.inl hh),bz (v:=.str (m.getD n' "")) (by rw[Z9,Z5 Oe,Z8,Z5 Oe];rfl),qq H4 (a8.refl _)}
 have e4:(((nI r).map V.int).filter λ_=>true).map (λv=>match v with |.int d=>V.str (m.getD d.toNat "") |_=>.non)=(r.map λd=>m.getD d "").map V.str:=by
  rw[ù.mpr (λ_ _=>rfl)];unfold nI;rw[Zj,Zj,Zj];rfl
 rw[e4]at h4;have Y:=s3.trans s4;refine λdl C=>?_;have M:=s1.trans Y;have Mb:d≠dl:=aa (M _ _ hd) C;have J6:(upd H4 dl (.dK [])) d=ρ (.dK (b9 (bZ f ls))):=a8.upd C _ _ (M _ _ hd);refine{1,d,1,.inl J6,λo H5 h5 S0=>?_};have OO:H5 dl=ρ (.dK []):=by rw[S0 dl (Á Mb),a7]
 have XH:lh≠d:=λz=>by rw[z]at h4;rw[M _ _ hd]at h4;cases h4
 have XI:H5 lh=ρ (.lst ((r.map λd=>m.getD d "").map V.str)):=by rw[S0 lh XH];exact a8.upd C _ _ h4
 have k5:∀c O,H c=ρ O->c≠d->H5 c=ρ O:=λc O e hc=>by rw[S0 c hc];exact a8.upd C _ _ (M _ _ e)
 have S2:H dl=τ:=none_of M C;have S3:dl≠lh:=λz=>by rw[z]at C;rw[h4]at C;cases C
 have J:=fO d o (b9 (bZ f ls));rw[show ((b9 (bZ f ls)).map λkv=>kV kv.1)=ls.map V.str by delta b9 bZ;rw[Zj,Zj];rfl]at J;refine ke J (λj σ H6=>∃(v8:Option V),σ=[ρ (.ref x),ρ (.int many),ρ (.int (n:Int)),ρ (.ref d),ρ (.ref y),ρ (.ref ll),ρ (.ref lh),ρ (.ref dl),v8]/\H6 dl=ρ (.dK (b9 (bZ (cO (r.map λd=>m.getD d "") f) (ls.take j))))/\∀c O,H5 c=ρ O->c≠dl->H6 c=ρ O) {τ,rfl,OO,λc O e _=>e} (λj σ H6 _ {_,_,_,kk}=>kk _ _ h5 Mb) ?_ ?_
 .rintro j v σ H6 hy ⟨v8,rfl,h6,kk⟩
  let{p,Hi,rfl,hj,xC,lB}:=eD hy
  have B9:p∉(bZ (cO (r.map λd=>m.getD d "") f) (ls.take j)).map (·.1):=by rw[lH];exact gd nd Hi
  have put:∀u,u=cO (r.map λd=>m.getD d "") f p->putK (b9 (bZ (cO (r.map λd=>m.getD d "") f) (ls.take j))) (ZA p:Key) (.int u)=b9 (bZ (cO (r.map λd=>m.getD d "") f) (ls.take (j+1))):=λu XJ=>by
   rw[pF B9,lB,XJ];delta bZ;rw[Zk];rfl
  have hlen:(b9 (bZ (cO (r.map λd=>m.getD d "") f) (ls.take j))).9<sizeLine:=by rw[iL];delta bZ;rw[Z4,Zq];exact bN ()
  have g6:=dI.f (k:=(ZA p:Key)) (kk _ _ h5 Mb);rw[cG,fY f ls p xC]at g6;refine{2,lh,1,.inl (aM.of (kk _ _ XI (Á S3))),rfl,cR _,decide (p∈r.map λd=>m.getD d ""),congrArg V.bl (iG p _),?_}
  by_cases hp:p∈r.map λd=>m.getD d ""
  .rw[decide_eq_true hp];refine dC {2,d,1,g6,2,dl,1,jT.k (k:=ZA p) h6 hlen,?_};exact{1,by rw[a7,put (f p) (by delta cO;rw[if_pos hp])],λc O e hc=>by rw[af hc];exact kk c O e hc}
  .rw[decide_eq_false hp];refine aU {2,dl,1,jT.k (k:=ZA p) h6 hlen,?_};exact{1,by rw[a7,put 0 (by delta cO;rw[if_neg hp])],λc O e hc=>by rw[af hc];exact kk c O e hc}
 rintro σ H6 ⟨v8,rfl,h6,kk⟩;rw[Z4,ZI]at h6;subst Uq;subst RW;exact{1,k dl _ H6 (λc o e hc=>kk _ _ (k5 c o e hc) (aa e S2)) S2 h6 (tf D) (DK D Z t) (D1 D (λd hd=>by rw[<-I];exact t.lt d hd) t.ne) (yo D) (D0 D)}
theorem n9(L:Lk K mg):aW P w K mg base cY 1 L.dO L.fG ["self","length","rows"] (RQ L.aY "length" "rows" JM JM):=by
 refine L.yQ.dP (N:=["self","length","rows"]) (λn A outer s H o Q E nd p h=>?_)
 let{x,u,v,rfl,{i,rfl,a},{j,rfl,b},l,k}:=h
 refine{_,(a6 (bH (GU rfl L.qQ L.XB (a5 (0) (aC (HK (zK (ER (1) (zK (ER (2) (zK Ko))))))))))
  (a6 (Jo (CB:=L.aR) (0) (1) rfl)
  (a9 (GF (CB:=L.aR) (0) (2) rfl)))),?_}
 ac_rfl
 have f:=wdV a;have m:=wdV b;refine{1,av ?_,1,.inl {i,rfl,a,av ?_,av ?_,1,.inl {j,rfl,b,av ?_,av ?_,av ?_,x,L.aY,_,1,l,L.bP,?_}}}
 .exact Zn (show _<=1000 by decide+kernel) ⋯
 .exact Zn (fD (show _<=1000 by decide+kernel) f) ⋯
 .exact Zn (fD (fD (show _<=1000 by decide+kernel) f) (show _<=1000 by decide+kernel)) ⋯
 .exact Zn (fD (fD (fD (show _<=1000 by decide+kernel) f) (show _<=1000 by decide+kernel)) m) ⋯
 .exact Zn (fD (fD (fD (fD (show _<=1000 by decide+kernel) f) (show _<=1000 by decide+kernel)) m) (show _<=1000 by decide+kernel)) ⋯
 .exact Zn (fD (fD (fD (fD (show _<=1000 by decide+kernel) f) (show _<=1000 by decide+kernel)) m) (show _<=1000 by decide+kernel)) ⋯
 refine{2,x,L.aY,1,l,L.bP,L.dE,λd hd=>?_};have g:d≠x:=λz=>by rw[z,l]at hd;cases hd
 refine{2,x,L.aY,_,d,[("length",.int i)],rfl,a7,by rw[af g,a7],by show 1<=50;decide,L.bP,L.eW,by rw[Ñ,show (("rows":Str) == "length")=false by decide+kernel];rfl,?_}
 have e:upd (upd (upd H d (.xd [(("length":Str),V.int i)])) x (XD x L.aY d)) d (.xd ([(("length":Str),V.int i)]++[(("rows":Str),V.int j)]))=upd (upd H d (.xd [(("length":Str),V.int i),(("rows":Str),V.int j)])) x (XD x L.aY d):=by
  funext c
  by_cases a:c=d
  .subst a;rw[a7,af g,a7];rfl
  .rw[af a]
   by_cases b:c=x
   .subst b;rw[a7,a7]
   .rw[af b,af b,af a,af a]
 rw[e];exact k d hd
theorem lP(L:Lk K mg):aW P w K mg base (z9 P w) 8 L.gT L.gX ["band","many","wide"] (IL L.aN L.aY):=by
 refine L.dq.F.FX (N:=["band","many","wide","length"]) (λC A outer s H S Q E nd D h=>?_)
 let{x,many,n,g,bw,ss,ls,rfl,B,l,m,f,k,G}:=h
 refine{_,(a6 (ai (i:=3) (ag (pW L) L.oN (a5 (0) (a5 (1) (a5 (2) (aC (bV (v:=.int 24) (by rfl) L.ue.choose_spec {_,rfl})))))))
  (a9 (aT (ck nu (3) iq) (a9 (GO cX rfl L.bP L.DA L.DB (n9 L) (D.mono ⋯) L.yR rfl L.yP (a5 (3) (aC (ag (yX L) L.xo (a5 (0) (aC (aF dW (3) (2))))))))) aB))),?_}
 ac_rfl
 refine⟨_,rfl,_,rfl,_,rfl,x,many,(n:Int),24,g,bw,ss,ls,rfl,B,l,m,f,⋯,⋯,λv I o p=>?_⟩;rw[Zy]at p;have q:=p
 cases p with
 |none a=>exact{1,rfl,false,rfl,aU (k (λj u J=>a j u J) I o)}
 |some j a b c d=>
  refine{_,rfl,rfl,true,rfl,dC ?_}
  have hk:(j:Int)*(n:Int)<=100000:=by
   have u:(j:Int)*(n:Int)<=24*6:=Int.mul_le_mul b f.d () ()
   lia
  have r:0<=(j:Int)*(n:Int):=Int.mul_nonneg () ();have M:((j:Int)*(n:Int)).toNat=j*n:=by rw[<-ε,Zy]
  refine{4,_,1,rfl,?_,x,(j:Int)*(n:Int),g,bw,ss,ls,rfl,B.same o,l,m,r,hk,λT y=>?_}
  .exact .inl {(),()}
  rw[M];refine{by show 2<=sizeLine;decide,λe O=>{e,_,1,{1,?_},{1,?_},a7,λt hd=>{rfl,.inr {t,a7,?_}}}}
  .have:=Nat.log2_le_self ((j:Nat):Int).natAbs
   lia
  .exact Ad f b c
  let{U,z,R}:=A1 (o2:=.xd [("length",.int (j:Nat)),("rows",.int (eL g bw ss (j*n) ""))]) (o3:=XD e L.aY t) O hd
  rw[R];exact G j t _ q ((o.trans y).trans (a8.upd z)) (none_of (o.trans y) z) a7
end
end K34
namespace _B
theorem GY(xs:List Int)(g:i<=j)(l:j<=xs.9):lO (xs.map V.int) (ρ (i:Int)) (ρ (j:Int))=((xs.take j).drop i).map V.int:=by grind [lO,HT.Jm,Z4,wfj,Γ,Ĭ,List.drop_take]
end _B
namespace K34
section
variable{P:ZC}{w:World}{K:Z6}{mg:Str->Option Value}{base:Heap}
theorem DV(L:Lk K mg):aW P w K mg base cY 1 L.yL L.yN ["weights","numbers","many"] (NA K):=by
 have T:=L.T;refine L.yO.F.dP (N:=["weights","numbers","many","taken_at","total","taken","number"]) (λfI A outer s H vs Q E nd hr h=>?_)
 let{a,b,many,wl,d,rfl,hA,I,m1,m2,J,M,k}:=h
 have O:=eP hr
 refine{_,(a6 (ai (i:=3) (BE (xU ae ae Bq) rfl rfl (by simp) ⋯))
  (a6 (ai (i:=4) ae)
  (a6 (forA (Gz (by rfl) T.enum (aC (1))) (dY rfl (aK (az (i:=5)) (aK (az (i:=6)) cI))) (a6 (wM (i:=4) nd rfl (ċ rfl) (b4 bA (0) (6) (λ_ _=>rfl)) Ez)
  (a6 (aT (zB (Kr O (aF gp (4) (2)) (3))) (a9 (ao (cB gH (1) (cx (bS O (3) (aF gp (4) (2)) (λ_ _=>rfl))) (cx (5))))) aB)
  (a9 (eJ O (3) (aF gp (4) (2)) (5) rfl)))))
  (a9 (ao (bB dS)))))),?_}
 ac_rfl
 have l:(0:Int)<many:=();refine λg m=>{a7,[((Â 0:Key),V.int 0)],rfl,⋯,?_};have R:a8 H (upd (upd H g (.dK [])) g (.dK (k9 [] [((Â 0:Key),V.int 0)]))):=λc o e=>by rw[af (aa e m),af (aa e m)];exact e
 have Y:(upd (upd H g (.dK [])) g (.dK (k9 [] [((Â 0:Key),V.int 0)]))) g=ρ (.dK (dR many (jf wl d) 1)):=by
  rw[a7];refine congrArg (λz=>ρ (HO.dK z)) ?_;show [((Â 0:Key),V.int 0)]=[((Â (0%many):Key),V.int 0)];rw[Int.zero_emod]
 generalize upd (upd H g _) g _=H0 at R Y;refine{1,b,1,R.seq I,Dl (K:=K) (a:=b) (xs:=(nI d).map V.int) (λj σ q=>a8 H q/\(∃S v6,σ=[ρ (.ref a),ρ (.ref b),ρ (.int many),ρ (.ref g),ρ (.int (jf wl d j)),S,v6])/\q g=ρ (.dK (dR many (jf wl d) (j+1)))/\∀i k,i<k->k<=j->jf wl d i%many≠jf wl d k%many) {R,⟨τ,τ,rfl⟩,Y,λi k Z C=>()} (λi σ q _ p=>p.1.seq I) ?_ (λσ q p=>?_)}
 .rintro j y σ q T U ⟨s2,⟨S,v6,rfl⟩,C,f⟩ hT;have hj:j<d.9:=by have:=(Za.mp U).1;rwa[Z4,eC]at this
  have r:d[j]?=ρ d[j]:=Z5 hj;rw[Kw r]at U;cases U;have t:=M _ (ZQ hj);have x:=CK (wl:=wl) r;generalize d[j]=n at r t x;have u:=s2.trans (a8.upd (o:=.tup [.int ((j+1:Nat):Int),.int (n:Int)]) hT);have D:(upd q T (.tup [.int ((j+1:Nat):Int),.int (n:Int)])) g=ρ (.dK (dR many (jf wl d) (j+1))):=a8.upd hT _ _ C;refine{T,1,g8.of a7,rfl,_,1,_,1,rfl,?_};generalize upd q T _=H3 at u D;refine{3,a,_,_,1,rfl,u.seq hA,bz (v:=.int (wl.getD n 0)) (by rw[Z9,Z5 t,Z8,Z5 t];rfl),_,1,rfl,?_};dsimp only;rw[<-x];refine{2,_,1,rfl,l,1,g,1,dI.k (k:=(Â (jf wl d (j+1)%many):Key)) D,?_};rcases Fc many (jf wl d) (j+1) (jf wl d (j+1)%many) with⟨G,B⟩ |⟨i,hi,X,G⟩
  .rw[G];refine{false,rfl,aU ?_};refine{4,_,1,rfl,l,g,1,jT.k (k:=Â (jf wl d (j+1)%many)) D (by rw[Kz];exact bN ()),?_};rw[Ky G];refine{λc o e=>by rw[af (aa e m)];exact u _ _ e,{_,1},a7,λi k Z C=>?_}
   by_cases e:k=j+1
   .subst e;exact B i ()
   .exact f i k Z ()
  .have hg:=dI.k (k:=(Â (jf wl d (j+1)%many):Key)) D;rw[G]at hg ⊢;refine{true,rfl,dC ?_};refine{4,_,1,rfl,l,g,1,hg,3,b,1,u.seq I,λp hp=>?_};rw[GY _ () (by rw[eC];lia),BJ,HX];exact k p i (j+1) _ (u.trans (a8.upd hp)) (none_of u hp) () () (Fq () X) a7
 .let{s2,{S,v6,rfl},C,f}:=p
  rw[Z4,eC]at f;exact absurd (Ak l J f) id
theorem uU(L:Lk K mg):aW P w K mg base cY 2 L.o1 L.oy ["sheet","many"] (Lw K L.aA):=by
 have T:=L.T;refine L.oQ.F.dP (N:=["sheet","many","found","desk","weights","others","numbers"]) (λfI A outer s H vs Q E nd hr h=>?_)
 let{x,many,hs,c,u,rfl,S,B,hK,ya,hn,hm,m1,m2,k}:=h
 refine{_,(a6 (ai (i:=2) (ag (xA L) L.qO (aC (0))))
  (a6 (ai (i:=3) (b4 fb (2) ae (λ_ _=>rfl)))
  (a6 (ai (i:=4) (eG rfl (aq ["sheet"] [0]) (aq ["sheet"] [0]) ⋯ (aG (b4 bA (aZ (0) rfl) (3) (λ_ _=>rfl))) (λ_ _ _ _ _ _=>b8) (λ_ _ _ _ _ _=>(b4 (dU (K:=K) rfl) (rG (K:=K) rfl (2) rfl) (1) (λ_ _=>rfl)))))
  (a6 (cN (i:=5) rfl (aq ["found"] [2]) nd rfl rfl (cy rfl T.range (aC (za T.len (4)))) (λ_ _ _ _ _ _=>dh (ck Eo (0) (b4 (J0 (K:=K) rfl) (1) ae (λ_ _=>rfl)))) (λ_ _ _ _ _ _=>(0)))
  (a6 (ai (i:=6) (ag (DV L) L.yO (a5 (4) (a5 (aF ED (bB (aC (b4 fb (2) ae (λ_ _=>rfl)))) (cB gH (5) eX (cx (aF gn (1) ae)))) (aC (1))))))
  (a9 (ao (cM (a5 (3) (a5 (6) (aC (aF lD (ak (g9 rfl) (by rfl) T.sum x6 (aC (bR rfl (aq ["weights"] [4]) (aG (6)) (λ_ _ _ _ _ _=>b8) (λ_ _ _ _ _ _=>(b4 (dU (K:=K) rfl) (1) (0) (λ_ _=>rfl)))))) (1))))))))))))),?_}
 ac_rfl
 let{dx,ah,bw,cl,hx,rh,AV,rl}:=id S
 let{T6,eb,hb}:=fE AV
 cases eb
 let{OC,xs,ec,hc,ux}:=id rl
 cases ec;have O:=B.w;have uF:=B.l;have xl:xs.9=u.9:=by rw[ux.len,Z4]
 have XM:c≠[]:=λz=>ya (Đ (by rw[<-O,z];rfl));refine{1,x,hs,c,u,rfl,S,(),λl hl q hq=>by rw[O];exact B.e l hl q hq,XM,λh hh ht=>?_,λt h d i b q H1 R ht D=>?_}
 .let{d,i,b,q,e1,e2,e3,e4}:=yC B hK hh ht m1
  exact⟨d,i,b,q,hh,ht,e1,e2,e3,e4⟩
 have hd:d<u.9:=(Za.mp D.l).1;have hi:i<b.9:=(Za.mp D.s).1;have Hl:b∈u:=Zv D.l;have Je:=hm b Hl;have Ur:=vT B D;have hT:=g8.of (K:=K) ht;refine{1,t,_,_,1,rfl,hT,rfl,?_}
 let{v,NX,rd}:=ux.at (i:=d) (d:=bx b) (by rw[Z9,D.l];rfl)
 let{a,rs,rfl,hS,NN}:=eM rd
 have yS:rs.9=b.9:=by rw[NN.1,Z4,Z4]
 refine{1,x,L.aA,dx,_,1,R _ _ hx,L.au.cl,L.au.dj,bI ah bw cl,1,cl,xs,_,1,rfl,R.seq (.inl hc),bz NX,a,rfl,{_,R.seq hS},λlc wB=>?_};refine fR (prs:=b.map ee) (λ_=>true) (λq=>match q.2 with |.int e=>.int (c.getD e.toNat 0) |_=>.non) (aJ K a (rs.map V.ref)) (NN.same R) wB (av ()) (λH' s'=>(R.trans s').seq hS) (λq H7 Q' _ _ m=>m H7 (a8.refl _)) (λq H7 Q' hq _ s7 m=>?_) (λH7 s7 h7=>?_)
 .let{U,OS,rfl}:=Ze.mp hq
  have C:U.2<c.9:=by rw[O];exact B.e b Hl U OS
  have Rj:lQ (c.map V.int) (U.2:Int)=ρ (.int (c.getD U.2 0)):=bz (by rw[Z9,Z5 C,Z8,Z5 C];rfl)
  have q2:Q' (.int (c.getD U.2 0)) H7:=by
   have:=m H7 (a8.refl _);rwa[show (ee U).2=.int (U.2:Int) from rfl]at this
  have G:=R.trans s7;exact{1,x,L.aA,dx,_,1,G _ _ hx,L.au.cl,L.au.bY,bL ah bw cl,1,bw,_,_,1,rfl,G.seq hb,Rj,q2}
 have e7:((b.map ee).filter λ_=>true).map (λq=>match q.2 with |.int e=>V.int (c.getD e.toNat 0) |_=>.non)=(b.map λq=>c.getD q.2 0).map V.int:=by
  rw[ù.mpr (λ_ _=>rfl),Zj,Zj];rfl
 rw[e7]at h7;have G:=R.trans s7;have Us:=s7.HC hT;have g:(b.map λq=>c.getD q.2 0).9=b.9:=Z4 _;refine{1,lc,1,.inl (aM.of h7),1,(),by rw[Z4,g];lia,λlo Ke=>?_};have en:((((b.map λq=>c.getD q.2 0).map V.int).9:Nat):Int).toNat=b.9:=by rw[Z4,g,Zy]
 rw[en];refine cV (λv=>!decide (v=.int (i:Int))) (λv=>v) (f9 0 b.9) Ke (av (by rw[Z4,ZJ];lia)) (λ_ _=>Õ) (λy I Q' hy X m=>?_) (λy I Q' hy _ X m=>{1,m I (a8.refl _)}) (λI X h8=>?_)
 .let{n,C4,rfl}:=Ze.mp hy
  exact{2,t,_,_,1,rfl,X.HC Us,rfl,rfl,1,m I (a8.refl _)}
 have e8:(((ZF b.9).map λi:Nat=>V.int (0+(i:Nat))).filter λv=>!decide (v=.int (i:Int)))=(nI (restOf b.length i)).map V.int:=by
  have e9:((ZF b.9).map λi:Nat=>V.int (0+(i:Nat)))=(nI (ZF b.9)).map V.int:=by
   rw[<-yg];exact ú λn _=>by rw[Ą]
  rw[e9,pG (f:=λn=>decide (n≠i)) λn=>?_]
  .rfl
  .by_cases z:n=i
   .subst z;simp
   .have:¬V.int (n:Int)=V.int (i:Int):=λy=>z (by have:=V.int.inj y;lia);rw[decide_eq_false this,decide_eq_true z];rfl
 rw[Ń,e8]at h8;have Ut:=G.trans X;have XO:=X.HC Us;have Uu:=X _ _ h7;refine{2,t,_,_,1,rfl,XO,rfl,by show 1<=sizeLine;decide,λl1 JU=>?_}
 let{s9,h9}:=cJ (H:=I) (o:=.lst [V.int (i:Int)]) JU
 generalize upd I l1 _=H9 at s9 h9;have XQ:many-1=(((many-1).toNat:Nat):Int):=();refine{2,_,1,rfl,(((many-1).toNat:Nat):Int),congrArg V.int XQ,lo,1,aM.of (s9 _ _ h8),λl2 E1=>?_};rw[xF,<-Ĭ,BJ]
 let{Y,Uv}:=cJ (H:=H9) (o:=.lst ((nI ((restOf b.length i).take (many-1).toNat)).map V.int)) E1
 generalize upd H9 l2 _=Mo at Y Uv;have Jk:=yq (k:=(many-1).toNat) hi ();refine{l1,l2,_,1,rfl,Y _ _ h9,Uv,av ?_,λl3 JE=>?_}
 .rw[Z4,eC,Zq];show 1+_<=_
  lia
 rw[show [V.int (i:Int)]++(nI ((restOf b.length i).take (many-1).toNat)).map V.int=(nI (numsOf b.length i (many-1).toNat)).map V.int from rfl]
 let{Of,Uw}:=cJ (H:=Mo) (o:=.lst ((nI (numsOf b.length i (many-1).toNat)).map V.int)) JE
 generalize upd Mo l3 _=Mp at Of Uw;have j:=(s9.trans Y).trans Of;refine{1,lc,l3,many,b.map λq=>c.getD q.2 0,numsOf b.length i (many-1).toNat,rfl,aM.of (j _ _ Uu),aM.of Uw,m1,m2,by rw[Jk];lia,λn hn=>by rw[g];exact wZ hi n hn,λl i' j' LW JX Sa XR hj hz p=>?_};have bc:=IX B m1 D XR hj hz;have C:∀n∈((numsOf b.length i (many-1).toNat).take j').drop i',n<b.9:=λn hn=>wZ hi n (((weA _ _).trans (ī _ _)).subset hn)
 have JO:(((numsOf b.length i (many-1).toNat).take j').drop i').9<=1000/\(((numsOf b.length i (many-1).toNat).take j').drop i').Nodup:=
  {by rw[Ğ,Zq];lia,((weA _ _).trans (ī _ _)).nodup (sU _ _ _)}
 generalize ((numsOf b.length i (many-1).toNat).take j').drop i'=ns at *;have J:=Ut.trans (j.trans JX);have XS:=JX _ _ (j _ _ Uu);refine{3,l,rfl,{_,aM.of p},λls XU=>?_};refine cV (λ_=>true) (λv=>match v with |.int n=>.int ((b.map λq=>c.getD q.2 0).getD n.toNat 0) |_=>.non) (aJ K l _) XU (av (by rw[Z4,eC];lia)) (λH' s'=>aM.of (s' _ _ p)) (λy I Q' hy X m=>m I (a8.refl _)) (λy Ux Q' hy _ r m=>?_) (λUx r Uy=>?_)
 .let{n,C4,rfl}:=sT hy
  have M:n<(b.map λq=>c.getD q.2 0).9:=by rw[g];exact C n C4
  exact{2,lc,_,_,1,rfl,aM.of (r _ _ XS),bz (v:=.int ((b.map λq=>c.getD q.2 0).getD n 0)) (by rw[Z9,Z5 M,Z8,Z5 M];rfl),m Ux (a8.refl _)}
 have XV:(((nI ns).map V.int).filter λ_=>true).map (λv=>match v with |.int n=>V.int ((b.map λq=>c.getD q.2 0).getD n.toNat 0) |_=>.non)=(ns.map λn=>(b.map λq=>c.getD q.2 0).getD n 0).map V.int:=by
  rw[ù.mpr (λ_ _=>rfl)];unfold nI;rw[Zj,Zj,Zj];rfl
 rw[XV]at Uy;refine{ls,1,aM.of Uy,1,_,1,rfl,{(),()},by show 3<=sizeLine;decide,λt' Z=>?_};exact k t' l d ns _ _ (J.trans (r.trans (a8.upd Z))) (none_of (Ut.trans j) Sa) (none_of (J.trans r) Z) a7 (a8.upd Z _ _ (r _ _ p)) bc () JO
theorem Bd(L:Lk K mg):aW P w K mg base (z9 P w) 9 L.wh L.wo ["band","many","wide"] (GX K L.aN L.bf L.aA L.aY L.fU):=by
 have T:=L.T;refine L.lN.F.FX (N:=["band","many","wide","weights","sheet","splits","kept","part"]) (λfI A outer s H vs Q E nd hr h=>?_)
 let{x,many,n,g,bw,ss,ls,rfl,B,NU,RV,DL,J,U,D,k,kS,kO}:=h
 refine{_,(a6 (bH (ag (g7 L) L.fF (a5 (0) (a5 (1) (aC (2))))))
  (a6 (bH (lE (lP L) (hr.mono ⋯) rfl L.dq.g L.dq.F.kp L.dq.b .nil (vx cX) (a5 (0) (a5 (1) (aC (2))))))
  (a6 (ai (i:=3) (ag (pf L) L.iV (a5 (0) (a5 (1) (a5 (2) (aC (lE (iC L) (hr.mono ⋯) rfl L.cz.g L.cz.F.kp L.cz.b .nil (vx cX) (a5 (0) (a5 (1) (aC (2)))))))))))
  (a6 (ai (i:=4) (ag (ly L) L.iA (a5 (0) (a5 (1) (a5 (2) (aC (3)))))))
  (a6 (ai (i:=5) (bB dS))
  (a6 (ai (i:=6) (ag (mB L) L.jq (a5 (4) (aC (1)))))
  (a6 (iI wgZ (ck ju (za T.len (6)) ae) (a6 (ai (i:=7) (ag (uU L) L.oQ (a5 (4) (aC (1)))))
  (a6 (ai (i:=4) (lE (GV L) (hr.mono ⋯) rfl L.rN.g L.rN.F.kp L.rN.b .nil (vx cX) (a5 (4) (a5 (1) (a5 (b4 fb (7) ae (λ_ _=>rfl)) (a5 (b4 fb (7) ae (λ_ _=>rfl)) (aC (b4 fb (7) ae (λ_ _=>rfl)))))))))
  (a6 (bH (fJ ZK ZS ZT cb (5) (aC (7))))
  (a9 (ai (i:=6) (ag (mB L) L.jq (a5 (4) (aC (1))))))))))
  (a9 (ao (jb L.Ja (pZ L) (hr.mono ⋯) rfl L.Gi L.jM.b .nil lU (a5 (3) (a5 (5) (a5 (6) (aC (4))))))))))))))),?_}
 ac_rfl
 let{ra,rb,rc,rd,re}:=id D
 have Hj:g.length^n<=64:=by
  rw[Zy]at re;have:((g.length^n:Nat):Int)<=64:=by rw[Ź];exact re
  lia
 have nd:ls.Nodup:=B.nd.sublist B.lv.sub;refine{3,x,many,n,g,bw,ss,ls,rfl,B,J,D,?_};refine{3,x,many,n,g,bw,ss,ls,rfl,B,J,U,D,λPa H1 s1=>?_,kS};refine{6,x,many,n,g,bw,ss,ls,rfl,B.same s1,DL,J,U,D,λd f0 H2 s2 fd h2 hL=>?_,λP9 H2 s2=>kO Pa P9 H2 (s1.trans s2)}
 let{most,Td,OJ,hG,_}:=id hL.gr
 refine{x,d,many,n,f0,g,bw,ss,ls,rfl,B.same (s1.trans s2),NU,RV,DL,J,U,D,h2,hG.nn,hG.fit,hL.ps,λdl f H3 k3 S2 h3 Uz Ax Od hle Sb=>?_};have s3:a8 H H3:=λc o e=>k3 c o (s2 _ _ (s1 _ _ e)) (aa (s1 _ _ e) fd);have X:(ls.map f).sum<=40:=weW Sb hL.le;refine{4,x,dl,many,n,bZ f ls,f,g,bw,ss,ls,rfl,B.same s3,DL,J,U,D,.inl h3,fY f ls,λy H4 s4 S4=>?_};have S4:=S4.same (cS _ _);have L0:fi g bw ss ls many n f [] _ _ _:=fi.start RV B.pm NU (λp hp=>B.lv.sub.subset hp) nd Uz Ax;refine{ZE _,λb hb=>?_};have s5:a8 H4 (upd H4 b (.lst [])):=a8.upd hb;have h5:(upd H4 b _) b=ρ (.lst []):=a7;have o5:a8 H4 (eI (upd H4 b (.lst [])) b):=Fe s5 hb;generalize upd H4 b _=H5 at s5 h5 o5;have W0:=L0.whole X Hj;generalize aj ls f=v at S4 L0 W0;generalize v.map f=C at S4 L0 W0;generalize bt g bw ss ls n v=a at S4 L0 W0;have JO:a.9<=1000:=by rw[W0.l];exact W0.n
 refine{2,y,many,v,C,a,rfl,S4.same s5,JO,λl hl=>by have:=W0.m l hl;lia,λr G H6 s6 I Y hK=>?_};have Sd:r≠b:=λz=>by rw[z,h5]at I;cases I
 refine{λq σ M=>∃(y r:Addr) (v:List Str) (C:List Int) (a:List (List (Str×Nat))) (j:List zV) (u:List V) (G:List Nat) (v7:Option V),q=40-v.9/\σ=[ρ (.ref x),ρ (.int many),ρ (.int (n:Int)),ρ (.ref dl),ρ (.ref y),ρ (.ref b),ρ (.ref r),v7]/\a8 H M/\M dl=ρ (.dK (b9 (bZ f ls)))/\c9 K L.aA (eI M b) y v C a/\fi g bw ss ls many n f j v C a/\M b=ρ (.lst u)/\aQ K (eI M b) (j.map uE) u/\r≠b/\M r=ρ (.lst ((nI G).map V.int))/\mV a many G,
  {_,y,r,v,C,a,[],[],G,τ,rfl,rfl,s3.trans (s4.trans (s5.trans s6)),s6 _ _ (s5 _ _ (s4 _ _ h3)),S4.same (o5.trans (nP s6)),L0,s6 _ _ h5,rfl,Sd,Y,hK},?_}
 clear hK Y Sd I s6 JO W0 L0 o5 h5 s5 S4;have QZ:H b=τ:=none_of (s3.trans s4) hb;have LA:dl≠b:=aa (s4 _ _ h3) hb;rintro q σ M ⟨y,r,v,C,a,j,u,G,v7,rfl,rfl,s7,UA,S7,O,Z,r7,Sd,Se,hK⟩;have W7:=O.whole X Hj;have hlen:=O.len;have vU:=O.b.w;have JO:a.9<=1000:=by rw[W7.l];exact W7.n
 have zc:u.9=j.9:=by rw[r7.len,Z4]
 have XW:=O.sl
 by_cases Sf:G=[]
 .subst Sf
  have ya:v≠[]:=λz=>by
   have h1:=O.sm;rw[z]at vU;rw[Đ vU]at h1;have:(0:Int)=(ls.map f).sum:=h1
   lia
  refine{1,r,1,.inl (aM.of Se),rfl,true,Eb _,dC ?_};refine{λσ' H'=>∃(y r:Addr) (R:List Str) (C:List Int) (a:List (List (Str×Nat))) (j:List zV) (u:List V) (G:List Nat) (v7:Option V),R.9=v.9+1/\σ'=[ρ (.ref x),ρ (.int many),ρ (.int (n:Int)),ρ (.ref dl),ρ (.ref y),ρ (.ref b),ρ (.ref r),v7]/\a8 H H'/\H' dl=ρ (.dK (b9 (bZ f ls)))/\c9 K L.aA (eI H' b) y R C a/\fi g bw ss ls many n f j R C a/\H' b=ρ (.lst u)/\aQ K (eI H' b) (j.map uE) u/\r≠b/\H' r=ρ (.lst ((nI G).map V.int))/\mV a many G,?_,?_}
  .rintro σ' H' ⟨y,r,R,C,a,j,u,G,v7,e1,rfl,s',J6,S',L',G8,r',XX,Hg,Sg⟩;have:=L'.len;exact{_,(),y,r,R,C,a,j,u,G,v7,rfl,rfl,s',J6,S',L',G8,r',XX,Hg,Sg}
  refine{2,y,many,v,C,a,rfl,S7.same tj,O.b,hK,ya,(),λl hl=>by have:=W7.m l hl;lia,(),(),λt l d ns w H8 s8 fl ft UB UC ok DY Jk=>?_};have hT:=g8.of (K:=K) UB;have S8:=(S7.same tj).same s8;refine{3,t,_,_,1,rfl,hT,rfl,1,t,_,_,1,rfl,hT,rfl,1,t,_,_,1,rfl,hT,rfl,y,l,many,(d:Int),w,nI ns,v,C,a,rfl,S8,aM.of UC,by rw[eC];lia,W7,(),(),.inl {ok,λy' H9 s9 S9=>?_}};rw[Zy]at S9;have UD:=s8 _ _ Z;have UE:=s9 _ _ UD;have L9:=O.step ok Jk;have W9:=L9.whole X Hj;have Sh:(eR a d (nI ns)).9<=1000:=by rw[W9.l];exact W9.n
  have XY:l≠b:=λz=>by rw[z,Z]at fl;cases fl
  have XZ:t≠b:=λz=>by rw[z,Z]at ft;cases ft
  have r9:aQ K (eI H9 b) ((j++[(d,ns,w)]).map uE) (u++[.ref t]):=by
   rw[Zk];exact cW (aQ.same (nP (s8.trans s9)) _ _ r7) (BQ (gk (s9 _ _ UB) XZ) (gk (s9 _ _ UC) XY))
  have Pb:c9 K L.aA (eI H9 b) y' _ _ _:=S9.same (Iy UD);refine{1,.inl {rfl,_,aM.of UE},1,b,_,1,rfl,UE,bN (),?_};have eo:eI (upd H9 b (.lst (u++[.ref t]))) b=eI H9 b:=Ia;rw[<-eo]at r9 Pb;have UG:a8 H (upd H9 b (.lst (u++[.ref t]))):=λc o e=>by rw[af (aa e QZ)];exact s9 _ _ (s8 _ _ (s7 _ _ e))
  have UH:(upd H9 b (.lst (u++[.ref t]))) dl=ρ (.dK (b9 (bZ f ls))):=by rw[af LA];exact s9 _ _ (s8 _ _ UA)
  have Si:(upd H9 b _) b=ρ (.lst (u++[.ref t])):=a7;generalize upd H9 b _=Mo at UG UH Si r9 Pb;refine{2,y',many,_,_,1,Pb.same tj,Sh,λl hl=>by have:=W9.m l hl;lia,λY0 Y1 Mp S I Y Sg=>?_};refine{y',Y0,_,_,_,j++[(d,ns,w)],u++[.ref t],Y1,_,?_,rfl,UG.trans S,S _ _ UH,Pb.same (nP S),L9,S _ _ Si,aQ.same (nP S) _ _ r9,(λz=>by rw[z,Si]at I;cases I),Y,Sg};unfold cq;rw[Zd];rfl
 .refine{1,r,1,.inl (aM.of Se),rfl,false,congrArg V.bl (decide_eq_false λz=>Sf (Đ (by have:=V.int.inj z;rw[Z4,eC]at this;lia))),aU ?_};refine{4,?_};intro z dz nz Y2 Z1;have sm:a8 M (upd (upd M dz (.own z)) z (.ins L.bf dz [])):=fq nz Y2;refine{z,dz,dl,y,.ref b,.ref r,bZ f ls,j,G,v,C,a,rfl,a7,.inl (sm _ _ UA),{b,u,rfl,.inl (sm _ _ Z),aQ.same (tj.trans sm) _ _ r7},gb (sm _ _ Se),(S7.same tj).same sm,(),(),(),λl hl=>by have:=W7.m l hl;lia,(),λa' b' c' y' H8 h8 fa Y3 r8 Y4 S8 Sj=>{rfl,?_}};have s8:a8 M H8:=λc o e=>Sj _ _ (sm _ _ e) (aa e nz);have nw:a8 (aO (upd (upd M dz (.own z)) z (.ins L.bf dz [])) H8) (aO H H8):=fu (s7.trans sm);refine k Pa z f0 f j G v C a H8 (s7.trans s8) {dz,a',b',c',y',bO (none_of s7 nz) h8,bO (none_of (s7.trans sm) fa) Y3,bh.same nw _ _ r8,bh.same nw _ _ Y4,S8.same nw} hL hle {Uz,λp hp=>?_,Ax,Od,X,O.rn,O.b,O.cv,(),hK,Sf,(),O.sb};have h1:=hle p hp;have h2:=hG.le p hp
  lia
theorem iD(L:Lk K mg):aW P w K mg base cY 10 L.og L.oI ["_law_band","_law_many","_law_wide"] (Ld L.aN):=by
 refine L.gF.F.dP (N:=["_law_band","_law_many","_law_wide","_law_caught","_law_plan","_law_e","_law_blocks","_law_place"]) (λfI A outer s H vs Q E nd hr h=>?_)
 let{x,many,n,g,bw,ss,ls,rfl,B,w1,UI,G,GB,B7,l,k}:=h
 have hu:=eP hr
 refine{_,(a6 (ai (i:=3) iq)
  (a6 (ai (i:=4) iq)
  (a6 (Lr ⟨rfl,rfl⟩ (EY (Iw (i:=4) nd rfl (ċ rfl) (F0 (Bd L) (hr.mono ⋯) rfl L.lN.g L.lN.F.kp L.lN.b (a5 (0) (a5 (1) (aC (2))))))) rfl L.qQ L.XT nd (j:=5) (i:=3) rfl rfl rfl (ċ rfl))
  (a6 (aT (ck nu (3) iq) (a9 (ao (ag (rm L) L.lq (a5 (3) (a5 (0) (a5 (1) (aC (2)))))))) aB)
  (a6 (ai (i:=6) dZ)
  (a6 (forA (aG (AB (0) L.aV.cl L.gg (gG L))) (az (i:=7)) (a9 (eJ hu (6) (7) (ag (hV L) L.fZ (a5 (0) (a5 (7) (aC (2))))) rfl)))
  (a9 (ao (j7 (ag (uq L) L.mw (a5 (4) (a5 (F1 (6)) (aC (1))))) (j2 (wL (ag (jR L) L.hO (a5 (0) (a5 (1) (aC (2)))))))))))))))),?_}
 ac_rfl
 have uF:ls.9<=60:=Zn B.lv.sub.length_le B7;have Jk:ls.Nodup:=B.nd.sublist B.lv.sub
 have Hj:g.length^n<=64:=by
  have re:=l.e;rw[Zy]at re;have:((g.length^n:Nat):Int)<=64:=by rw[Ź];exact re
  omega
 have Wq:=l.a;have OJ:=l.b;have Z2:=l.d;refine Fw λR1 c1=>?_;refine c1 _ _ (Fw λR2 c2=>?_);refine c2 _ _ (Fw λR3 c3=>?_)
 have t:∀e u,a8 H u->((∃d D,u e=ρ (XC e L.aY (ρ d))/\u d=ρ (.xd [("length",.int (D:Nat)),("rows",.int (eL g bw ss (D*n) ""))])/\Hf g bw ss many n 24 (.int (D:Nat)))\/(u e=ρ (XC e L.fU τ)/\D2 g bw ss many n/\rM g bw ss ls many n))->R3 [ρ (.ref x),ρ (.int many),ρ (.int (n:Int)),ρ (.ref e),ρ .non,τ,τ,τ] u:=λe u Z hc=>
  c3 _ _ {1,rfl,true,rfl,dC {4,e,x,many,n,g,bw,ss,ls,rfl,B.same Z,G,1.0,1.0,l,hc,λH' s'=>k _ (Z.trans s')}}
 refine{3,x,many,n,g,bw,ss,ls,rfl,B,w1,UI,G,1.0,1.0,l,λPa y f0 f rJ ks hs ws lns u Z P2 hL hle hP=>c3 _ _ {_,rfl,rfl,false,rfl,aU ?_},λk' d' H' hs s' _ h'=>{L.aY,1,L.bP,λe he=>t e _ (s'.trans (a8.upd he)) (.inl {d',k',a7,by rw[af (aa h' he)];exact h',hs})},λhn hl H' s'=>{L.fU,1,L.iB,λe he=>t e _ (s'.trans (a8.upd he)) (.inr ⟨a7,hn,hl⟩)}};clear t c1 c2 c3;have P:=P2.same (cS _ _);refine λv I=>?_
 let{sb,O}:=cJ (H:=u) (o:=.dK []) I
 show dA 6 (V.ref v) _ _ _;generalize upd u v (.dK [])=Hb at sb O;have S:=Z.trans sb
 let{{dx,b,d0,q,mv,h1,h2,h3,h4,h5,h6},pm,so,lv}:=id (B.same S)
 refine{1,x,dx,1,h1,Hd _ _ _ _ ∅ ∅ ∅ ∅,x,g,bw,ss,ls,rfl,B.same S,λT H1 s1 f1 hv=>?_};have LA:T≠v:=λz=>by rw[z,O]at f1;cases f1
 refine{T,rfl,{_,aM.of hv},cn (K:=K) (a:=T) (xs:=ls.map V.str) (Qu x y v many n g bw ss ls H1) {τ,[],rfl,s1 _ _ O,rfl,(λq hq=>nomatch hq),λc o e _=>e} (λj σ U _ {_,_,_,_,_,_,D}=>aM.of (D _ _ hv LA)) ?_ ?_}
 .rintro j yv σ U hy ⟨v7,J,rfl,M,r,C,D⟩
  let{p,Hi,rfl,hj,xC,lB}:=eD hy
  have GC:a8 H U:=λc o e=>D _ _ (s1 _ _ (S _ _ e)) (aa (Z _ _ e) I);refine{3,x,p,n,g,bw,ss,ls,rfl,B.same GC,xC,1.0,1.0,G,1.0,λlb rs H4 s4 f4 R=>?_};have X:=s4 _ _ M;have B9:p∉J.map (·.1):=by rw[r];exact gd Jk Hi
  have NS:J.9<=900:=by have:=congrArg ð r;rw[Z4,Zq]at this;omega
  refine{2,v,1,jT.k (k:=ZA p) X (by unfold bM;rw[Z4];exact bN 1.0),?_};refine{_,J++[(p,lb)],rfl,?_,?_,λm hm=>?_,λc o e hc=>by rw[af hc];exact s4 _ _ (D c o e hc)}
  .rw[a7,eU _ (j8 B9)];unfold bM;rw[Zk];rfl
  .rw[Zk,r,lB];rfl
  .rcases ZH.mp hm with z |z
   .let{Nz,R'}:=C m z
    exact{Nz,(R'.same s4).Qo X}
   .rw[Zz.mp z];exact{rs,R.Qo X}
 rintro σ U ⟨v7,J,rfl,M,r,C,D⟩;rw[Z4,ZI]at r;have LI:a8 u U:=λc o e=>D _ _ (s1 _ _ (sb _ _ e)) (aa e I);refine{2,v,1,M,λo=>?_}
 have BK:mU (upd U v (.frz o (.dK (bM J)))) v o J (aS g bw ss ls n) ls:=by
  refine{a7,r,λq hq=>?_,λp q hq=>cf hq,λp=>?_,Jk,uF}
  .let{rs,R}:=C q hq
   exact{rs,R.Qo M}
  .have:=fQ g bw ss ls n p;omega
 have Y:a8 u (upd U v (.frz o (.dK (bM J)))):=λc oc e=>by
  rw[af (aa e I)];exact LI _ _ e
 generalize upd U v (.frz o (.dK (bM J)))=H4 at BK Y;refine{1,y,v,o,J,many,n,g,bw,ss,ls,f,rJ,ks,hs,ws,lns,rfl,P.same Y,BK,hP,so,lv.sub,UI,pm,w1,Hj,1.0,OJ,λH5 s5=>{true,rfl,dC ?_}};have JV:=Z.trans (Y.trans s5)
 let{most,m1,m8,hG,hz}:=hL.gr
 have Od:=hL.ps;have UJ:=hL.le
 exact{3,x,many,n,g,bw,ss,ls,most,false,rfl,B.same JV,G,1.0,1.0,l,Pa,m1,1.0,hz,.inr {m8,λh hh=>by
  have:=pP hG hh
  exact{1.0,(decide_eq_false 1.0).symm}},λH6 s6=>{false,rfl,k _ (JV.trans s6)}}
theorem LX{f:Addr}{fd:Ë}(L:Lk K mg)(F:xO K "law" "law" (top 98) f fd):aW P w K mg base cY 11 f fd ["_law_script"] (BM K):=by
 have T:=L.T;refine F.dP (N:=["_law_script","_law_signs_here","_law_way","_law_words_here","_law_many","_law_wide","_law_band","_law_cell"]) (λfI A outer s H vs Q E nd hr h=>?_)
 let{a,ns,rfl,G,hlen,k}:=h
 refine{_,(a6 (ai (i:=1) (ag (uK L) L.oV (aC (ag (d9 L) L.dv (a5 (0) (aC ae))))))
  (a6 (ai (i:=2) (ag (aX L) L.b0 (a5 (ag (d9 L) L.dv (a5 (0) (aC ae))) (a5 ae (aC ae)))))
  (a6 (ai (i:=3) (ag (uR L) L.oW (a5 (0) (a5 ae (a5 (1) (a5 ae (aC ae)))))))
  (a6 (aT (ck ju (2) ae) (a6 (ai (i:=1) (cB mN (1) eX (cx ae)))
  (a6 (ir (ag (p6 L) L.kY (a5 (ag (d9 L) L.dv (a5 (0) (aC ae))) (aC (1)))) (dY rfl (aK (az (i:=4)) (aK (az (i:=5)) cI))))
  (a9 (ao (ag (iD L) L.gF (a5 (jb L.xq (fV L) (hr.mono ⋯) rfl L.AG L.f5.b .nil lU (a5 (1) (aC (ag (z4 L) L.u0 (a5 (0) (aC (1))))))) (a5 (4) (aC (ak (iK rfl) (by rfl) T.min CH (a5 (5) (aC ae))))))))))) aB)
  (a6 (aT (ck ju (2) ae) (a6 (ai (i:=1) (cB mN (1) eX (cx ae)))
  (a6 (ir (ag (uS L) L.oY (a5 (1) (aC (ag (aX L) L.b0 (a5 (ag (d9 L) L.dv (a5 (0) (aC ae))) (a5 ae (aC ae))))))) (dY rfl (aK (az (i:=3)) (aK (az (i:=4)) cI))))
  (a9 (ao (ag (iD L) L.gF (a5 (jb L.xq (fV L) (hr.mono ⋯) rfl L.AG L.f5.b .nil lU (a5 (1) (aC (3)))) (a5 (4) (aC ae)))))))) aB)
  (a6 (ai (i:=6) (jb L.xq (fV L) (hr.mono ⋯) rfl L.AG L.f5.b .nil lU (a5 (1) (aC (bC dg (by rfl) T.list eV (aC (3)))))))
  (a6 (forA (aG (aF ED (bB (aC (ag (d9 L) L.dv (a5 (0) (aC ae))))) (cB gH (0) (cx ae) (cx ae)))) (az (i:=7)) (a6 (ir (ag (p6 L) L.kY (a5 (7) (aC (1)))) (dY rfl (aK (az (i:=4)) (aK (az (i:=5)) cI))))
  (a9 (aT (bj (aP (ag (iD L) L.gF (a5 (6) (a5 (4) (aC (5))))))) (a9 (ao bU)) aB))))
  (a9 (ao bU))))))))),?_}
 ac_rfl
 refine⟨_,rfl,a,ns,0,rfl,G,λc0 H0 s0=>{c0,rfl,λg H1 X s1=>?_}⟩;have g2:=X.lo;have g4:=X.hi;have Y:=s0.trans s1;refine⟨_,rfl,a,ns,0,rfl,Y.seq G,λc1 Hx sx=>⟨c1,18,8,rfl,⋯,⋯,⋯,λwy _ _=>?_⟩⟩;have Z:=Y.trans sx;refine⟨_,rfl,_,rfl,a,ns,1,g,3,4,rfl,Z.seq G,⋯,⋯,⋯,⋯,1.0,g4,λl2 ws H2 s2 f2 h2 E1 Y5=>?_⟩;have B:=Z.trans s2;have QK:ws.9<=6:=1.0;have J:∀w∈ws,jV g w:=λw h=>(Y5 w h).1;refine{1,rfl,1,rT (λ_=>?_) (λ_=>?_)}
 ·
  let{j,p}:=Gb X
  refine{2,g,rfl,av 1.0,?_};show dA 1 (V.str (ZZ g τ (ρ 2))) _ _ _;generalize ZZ g τ (ρ 2)=v at j p;refine⟨_,rfl,a,ns,7,rfl,B.seq G,λm H5 s5=>{1,m,v,rfl,1.0,1.0,λpt many wide H6 s6 fp hp C=>?_}⟩;refine{pt,1,g8.of hp,rfl,_,1,_,1,rfl,?_};have Jp:=B.trans (s5.trans s6);refine{3,a,ns,v,rfl,Jp.seq G,1.0,1.0,λl3 us H7 s7 h7 I M x dx nx l O=>?_};refine{x,dx,v,l3,us,rfl,a7,aM.of (fq nx l _ _ h7),j,I,M,λss ls H8 B8 Sj=>{rfl,?_}};have B7:ss.9<=25:=B8.few I M;refine⟨_,rfl,_,rfl,wide,4,rfl,?_⟩
  let{ra,rb,rc,rd,re}:=id C
  obtain⟨n,en,n1,n4⟩:∃n:Nat,(if 4<wide then 4 else wide)=(n:Int)/\1<=n/\n<=4:=by
   by_cases z:4<wide
   .exact⟨4,if_pos z,⋯,⋯⟩
   .exact{wide.toNat,by rw[if_neg z];omega,1.0,1.0}
  rw[en]
  have R:eT v.length many n:={ra,rb,1.0,1.0,by
   rw[p,Zy];have:n=1\/n=2\/n=3\/n=4:=1.0
   rcases this with rfl |rfl |rfl |rfl<;>decide}
  exact{x,many,n,v,us,ss,ls,rfl,B8,λw h=>(M w h).lo,j.nd,1.0,1.0,1.0,R,λH' _=>k H'}
 refine{1,rfl,1,rT (λ_=>?_) (λ_=>?_)}
 ·
  let{j,p}:=Gb X
  refine{2,g,rfl,av 1.0,?_};show dA 1 (V.str (ZZ g τ (ρ 2))) _ _ _;generalize ZZ g τ (ρ 2)=v at j p;refine⟨_,rfl,_,rfl,a,ns,0,rfl,B.seq G,λm H5 s5=>⟨m,19,5,rfl,⋯,⋯,⋯,λd d0 d1=>{v,d,rfl,1.0,1.0,d0,d1,λpt l3 us many H6 s6 hp h6 Y6 S m6 m7=>?_}⟩⟩;refine{pt,1,g8.of hp,rfl,_,1,_,1,rfl,?_};refine{2,λx dx nx l O=>?_};refine{x,dx,v,l3,us,rfl,a7,aM.of (fq nx l _ _ h6),j,1.0,S,λss ls H8 B8 Sj=>{rfl,?_}};have B7:ss.9<=25:=B8.few 1.0 S;have R:eT v.length many (3:Nat):={1.0,1.0,⋯,⋯,by rw[p];decide};exact⟨_,rfl,x,many,3,v,us,ss,ls,rfl,B8,λw h=>(S w h).lo,j.nd,1.0,1.0,1.0,R,λH' _=>k H'⟩
 refine{2,l2,1,.inl (aM.of h2),λl4 U x dx nx l O=>?_};refine{x,dx,g,l4,ws,rfl,a7,aM.of (fq nx l _ _ a7),X,QK,J,λss ls H4 B4 UK=>{rfl,?_}};have s4:a8 H2 H4:=λb o e=>UK b o (fq nx l _ _ (a8.upd U _ _ e)) (aa (a8.upd (o:=.lst (ws.map V.str)) U _ _ e) nx);have B7:ss.9<=25:=B4.few QK J;have OX:=B.trans s4;clear UK nx l O U;refine⟨_,rfl,a,ns,7,rfl,OX.seq G,λm H9 s9=>{by show 1<=sizeLine;decide,λlh Hk=>?_}⟩;have UL:=s9.trans (a8.upd (o:=.lst [.int m]) Hk);refine{3,a,1,(OX.trans UL).seq G,λlu NZ=>?_}
 let{r,em,Md}:=z0 ns (ρ 8) (ρ 10)
 rw[em];refine{lh,lu,_,1,rfl,a8.upd NZ _ _ a7,a7,by rw[Z4];exact av (by show 1+r.9<=_;omega),λlx Y7=>?_};have LV:[V.int m]++r.map V.int=(m::r).map V.int:=rfl;rw[LV];have UM:=UL.trans ((a8.upd (o:=.lst (r.map V.int)) NZ).trans (a8.upd (o:=.lst ((m::r).map V.int)) Y7));have t:(upd (upd (upd H9 lh (.lst [.int m])) lu (.lst (r.map V.int))) lx (.lst ((m::r).map V.int))) lx=ρ (.lst ((m::r).map V.int)):=a7;generalize upd (upd (upd H9 lh (.lst [.int m])) lu (.lst (r.map V.int))) lx (.lst ((m::r).map V.int))=Mo at UM t;have Y8:=B4.same UM;refine{lx,rfl,{_,aM.of t},cn (K:=K) (a:=lx) (xs:=(m::r).map V.int) (λi σ D=>a8 Mo D/\∃v4 v5 v7,σ=[ρ (.ref a),ρ (.str g),ρ (.int wy),ρ (.ref l2),v4,v5,ρ (.ref x),v7]) {a8.refl _,τ,τ,τ,rfl} (λi σ D _ q=>aM.of (q.1 _ _ t)) ?_ ?_}
 .rintro i y σ D hy ⟨Of,v4,v5,v7,rfl⟩
  let{cc,1}:=Ze.mp (Zv hy)
  refine{2,cc,g,rfl,g2,g4,λpt many wide LW JX fp hp C=>?_};refine{pt,1,g8.of hp,rfl,_,1,_,1,rfl,?_};obtain⟨wd,rfl⟩:∃w:Nat,wide=(w:Int):={wide.toNat,by have:=C.c;omega};have u:=Of.trans JX;exact{3,x,many,wd,g,ws,ss,ls,rfl,Y8.same u,λw h=>(J w h).lo,X.nd,g2,g4,1.0,C,λZ3 OQ=>{true,rfl,aU {u.trans OQ,_,_,1}}}
 .rintro σ D ⟨Of,v4,v5,v7,rfl⟩;exact k _
end
end K34
end
namespace K34
open PySem PySem.W _L _B _S
theorem nz{K:Frag}{mg:Str->Option Value}{hp:Heap}{x:Str}(X:K.In hp)(G:hp.Ns Ç mg)(a:nsIn K Ç x=some none:=by k_is):mg x=none:=mg_none_of X G a
theorem na{K:Frag}{C:Addr}{f:Str}(a:findIn K (.ref C) f=some none:=by k_is):dH K C f:=a
theorem Y9{K:Frag}{mg:Str->Option Value}{hp:Heap}{f:Addr}{oc:Value}{od an:Option Addr}{E9:Array (Option Value)}{kV doc pm fI ct:Value}{nm:Str}{st:Stmt}{ps:List Str}(X:K.In hp)(G:hp.Ns Ç mg)(a:nsIn K Ç nm=some (some (.ref f)):=by k_is)(l:K.lookup f=some ⟨oc,od,.func (fnOf nm nm (da st) (cC st) (aD st) .none kV doc pm an fI ct),E9⟩:=by k_is)(c:codeIn K fI nm=true:=by k_is)(k:keepIn K (.ref f)=true:=by k_is)(b:∀(kV doc pm:Value) (an:Option Addr) (fI ct:Value) (us:List Value),us.length=ps.length->bindArgs (fnOf nm nm (da st) (cC st) (aD st) .none kV doc pm an fI ct) ⟨us,[]⟩=pure (ps.zip us):=by intro _ _ _ _ _ _;refine _L.zt _ _ ?_;(repeat refine λ_=>?_);rfl):∃fd,FnAt K mg nm st ps f fd:=Raw.at_ X G a (A0 l c k) b
theorem Yb{K:Frag}{C f:Addr}{oc:Value}{od an:Option Addr}{E9:Array (Option Value)}{kV doc pm fI ct:Value}{nm q:Str}{st:Stmt}{ps:List Str}(a:findIn K (.ref C) nm=some (some (.ref f)):=by k_is)(i:isFn K (.ref f)=true:=by k_is)(l:K.lookup f=some ⟨oc,od,.func (fnOf nm q (da st) (cC st) (aD st) .none kV doc pm an fI ct),E9⟩:=by k_is)(c:codeIn K fI q=true:=by k_is)(k:keepIn K (.ref f)=true:=by k_is)(b:∀(kV doc pm:Value) (an:Option Addr) (fI ct:Value) (us:List Value),us.length=ps.length->bindArgs (fnOf nm q (da st) (cC st) (aD st) .none kV doc pm an fI ct) ⟨us,[]⟩=pure (ps.zip us):=by intro _ _ _ _ _ _;refine _L.zt _ _ ?_;(repeat refine λ_=>?_);rfl):∃fd,jC K C nm q st ps f fd:=by
 obtain⟨fd,F,B⟩:=(A0 l c k).fn b;exact⟨fd,F,B,a,i,k⟩
theorem Yc{K:Frag}{mg:Str->Option Value}{hp:Heap}{x:Str}{t:Tok}(X:K.In hp)(G:hp.Ns Ç mg)(a:nsIn K Ç "KNOWN_SIGNS"=some (some (.str x t)):=by k_is)(e:x=fK:=by first |rfl |decide+kernel):∃t,mg "KNOWN_SIGNS"=some (.str fK t):=⟨t,e ▸ mg_of X G a⟩
theorem UN{K:Frag}{f:Addr}{oc:Value}{od an:Option Addr}{E9:Array (Option Value)}{kV doc pm fI ct:Value}{nm q:Str}{st:Stmt}{ps:List Str}(l:K.lookup f=some ⟨oc,od,.func (fnOf nm q (da st) (cC st) (aD st) .none kV doc pm an fI ct),E9⟩:=by k_is)(c:codeIn K fI q=true:=by k_is)(k:keepIn K (.ref f)=true:=by k_is)(b:∀(kV doc pm:Value) (an:Option Addr) (fI ct:Value) (us:List Value),us.length=ps.length->bindArgs (fnOf nm q (da st) (cC st) (aD st) .none kV doc pm an fI ct) ⟨us,[]⟩=pure (ps.zip us):=by intro _ _ _ _ _ _;refine _L.zt _ _ ?_;(repeat refine λ_=>?_);rfl):∃fd,xO K nm q st f fd/\Binds K fd ps []:=(A0 l c k).fn b
theorem walk{l:Ŝ}{q:ZC}{loose:List Str}{XP:(Str->Option Value)->Heap->Prop}{YP:World->Heap->Prop}{d:DefRec}{K:Params->Z6}(hn:l.most=some 63)(Yd:d.params.defaults=[])
 (hY:∀(w:World) (h:Heap),YP w h->(K w.params).In h)
 (F:∀(w:World) (mg:Str->Option Value) (fa:Addr) (h:Heap),(K w.params).In h->h.Ns Ç mg->mg d.name=some (.ref fa) ->
   ∃fd:Ë,(∀(s:Shared) (u:Value),BindsTo s fd ⟨[u],[]⟩ [("_law_script",u)])/\∀base:Heap,(K w.params).In base->base.Ns Ç mg->aW l.prog w (K w.params) mg base cY 11 fa fd ["_law_script"] (BM (K w.params))) :
 whh q loose XP YP l.row.toRowW d [] (λf vs=>wht f vs):=
 _L.Jn (n:=63) (k:=11) (x:="_law_script") (CX:=λ_=>cY) (sp:=λw=>BM (K w.params)) hn (by decide) Yd ⟨rfl,by decide,by decide⟩ hY F (λ_ _ a ns hl _ hS=>⟨a,ns,rfl,hS,hl,λ_=>rfl⟩) λ_ _ _ _ _ z=>z
theorem Sl{K:Frag}{mg:Str->Option Value}{hp:Heap}{f:Addr}{oc:Value}{od an:Option Addr}{E9:Array (Option Value)}{kV doc pm fI ct:Value}(l:Ŝ)(w:World)(fa:Addr)(Ye:mg "law"=some (.ref fa))(X:K.In hp)(G:hp.Ns Ç mg)(L:Lk K mg)(a:nsIn K Ç "law"=some (some (.ref f)):=by k_is)(lk:K.lookup f=some ⟨oc,od,.func (fnOf "law" "law" (da (top 98)) (cC (top 98)) (aD (top 98)) .none kV doc pm an fI ct),E9⟩:=by k_is)(c:codeIn K fI "law"=true:=by k_is)(k:keepIn K (.ref f)=true:=by k_is) :
 ∃fd:Ë,(∀(s:Shared) (v:Value),BindsTo s fd ⟨[v],[]⟩ [("_law_script",v)])/\∀base:Heap,K.In base->base.Ns Ç mg->aW l.prog w K mg base cY 11 fa fd ["_law_script"] (BM K):=by
 have e:=Ye.symm.trans (mg_of X G a);cases e;exact⟨_,λs v=>.of_eq rfl,λbase _ _=>LX L (Ej (st:=top 98) lk c k)⟩
end K34
open PySem PySem.W PyProof.Rows
set_option maxRecDepth 100000 in
set_option maxHeartbeats 0 in
theorem PySem.Challenge.cw_bandscribe_k34_whole_plans_walked_holds : PySem.Challenge.rw_bandscribe_k34_whole_plans_walked.Holds := by
 w_on;o_law;(refine PySem.W.holds_open (q:=K34.view) (loose:=[]) (Xt:=λs=>ó K34.view [] s&&ø (Ā (ý (ò å))) s) (XP:=PySem.W.XL K34.view []) (Yf:=PySem.W.Hook.obs (υ K34.pre.heap_39 K34.addrs (λ_=>by kernel_rfl))) (Ya:=PySem.W.Hook.val (υ K34.pre.heap_39 K34.addrs (λ_=>by kernel_rfl))) (YP:=PySem.W.Hook.says (υ K34.pre.heap_39 K34.addrs (λ_=>by kernel_rfl))) (N:=8100) ?hl (PySem.W.Hook.of (υ K34.pre.heap_39 K34.addrs (λ_=>by kernel_rfl))) (PySem.W.Hook.keeps (υ K34.pre.heap_39 K34.addrs (λ_=>by kernel_rfl))) (λs e=>PySem.W.xl_of s (wcM.mp e).1) PySem.W.XL.keeps (by rfl) (by rfl) (by rfl) (λs e=>PySem.W.recFacts_of (wcM.mp e).2) (by rfl) (by first |assumption |decide+kernel) (by decide+kernel) ⟨rfl,rfl,rfl,rfl,rfl,by decide+kernel⟩ ?hw ?hc;(case hl=>(intro w;exact K34.whole w)));(case hw=>w_witness2)
 k_fill
 refine K34.walk (l:=å) rfl rfl (λw h Y=>PySem.W.kIn_of Y) ?F
 case F=>
  intro w mg fa h X G Yg;refine K34.Sl _ w fa Yg X G ?L;constructor
  all_goals try first |exact(K34.Y9 X G).choose_spec |exact(K34.Yb).choose_spec |exact mg_of X G (by k_is) |exact K34.na |k_is |exact⟨_,mg_of X G (by k_is)⟩ |exact K34.Yc X G |exact _S.J8 (by k_is) |exact _S.BX (by k_is) |exact⟨(_S.BX (by k_is)).lk,by k_is,by k_is,by k_is,by k_is⟩ |exact⟨by k_is,by k_is,by k_is⟩ |exact⟨by k_is,by k_is,by k_is,by k_is⟩ |(constructor;exact K34.nz X G;all_goals exact K34.nz X G) |(constructor;exact⟨by k_is,by k_is,by k_is,by k_is⟩;all_goals exact K34.na)
  case L.yQ=>exact(K34.UN (ps:=["self","length","rows"])).choose_spec.1
  case L.yR=>exact(K34.UN (nm:="__init__") (q:="Scarce.__init__") (st:=_L.inClass (K34.top 13) 0)).choose_spec.2
#print axioms PySem.Challenge.cw_bandscribe_k34_whole_plans_walked_holds
