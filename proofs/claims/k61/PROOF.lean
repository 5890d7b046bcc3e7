import PyProof.Rows.All
import KE.KDictOf
import KE.KIsAll
import KE.KFromBytes
import KE.KDictSum
import KE.KEqDict
import KE.LcSums
import KE.KItem
import Lean
import PyProof.EqAt
import PyProof.EqKinds
import PyProof.TupleCall
import PyProof.Rows.SortStr
import PyProof.StrLawsReplace
import PyProof.StrLawsIdx
import PyProof.StrLawsIn
import PyProof.StrBlockI
import PyProof.StrBlockL
import PyProof.SliceList
import PyProof.InstStoreFacts
import PyProof.NsDelKeeps
import PyProof.StationsW
import PyProof.ExcArgs
import PyProof.ExcBaseAll.ValueError
import PyProof.StrCalls
import PyProof.ListRange
import PyProof.EnumMake
import PyProof.Draws
import PyProof.FactsAll.dict
import PyProof.StrBlock2
import PyProof.Rows.SumAny
import PyProof.NeKinds
import PyProof.Rows.MinMaxN
import PyProof.Rows.Range3
import PyProof.StrLawsFirst
import PyProof.AttrMissHeap
import PyProof.Rows.CallKwBuiltin
import KE.KMinKey
import PyProof.FString2
import KE.KDictLaws
import KE.KRevIter
import PyProof.DictItems
import PyProof.ZipIter
import KE.KIntText
import PyProof.Rows.StrKeys3
import PyProof.StrCalls2
import PyProof.StrLawsTight
import PyProof.FactsAll.set
import PySem.Challenge.RW_bandscribe_k61_forms_refused
set_option genInjectivity false
set_option compiler.extract_closed false
set_option genSizeOf false
open PySem.Challenge renaming pw_bandscribe_k61_forms_refused->ô,rw_bandscribe_k61_forms_refused->ď
open List renaming length_map->Á,getElem?_eq_getElem->È,getElem?_map->Ê,getElem?_eq_some_iff->Ô,mem_map->Å,mem_singleton->Ï,length_append->Ò,mem_cons_of_mem->Ø,map_cons->Í,mem_cons_self->Ù,map_map->Ì,getD_eq_getElem?_getD->ï,map_append->Û,replicate->Ú,mem_of_getElem?->ê,length_take->â,length_cons->å,mem_cons->Þ,mem_append_right->ü,all_eq_true->í,mem_filter->é,take_length->õ,getElem?_append_right->ĉ,mem_append->ñ,size_toArray->ö,filter_cons_of_pos->Ċ,append_nil->û,getElem?_append_left->ģ,append_assoc->ā,filter_eq_self->ċ,getElem_mem->ă,length_filter_le->ě,range->ð,lookup_cons->ą,sum_cons->ÿ,filter_cons_of_neg->į,filterMap_cons->ĕ,take_add_one->Ē,getElem?_set_ne->ĵ,filter_append->Ğ,map_congr_left->ļ,mem_append_left->ņ,length_replicate->Ő,any_eq_true->ķ,length_range->ŉ,getElem?_set_self->ζ,getElem_toArray->υ,any_cons->Ŏ,replicate_succ->ž,mem_range->Ŗ,dropLast_concat_getLast->wcv,length->Ĳ,take_of_length_le->Η,length_singleton->wcD,filter_map->Ŭ,map->đ,flatten_cons->Ž,mem_of_mem_take->wcO,not_mem_nil->Δ,length_filterMap_le->wcU,getElem_of_mem->Μ,nodup_cons->ι,find?_cons->μ,contains_cons->Ψ,flatMap_cons->Υ,map_nil->Ů,getElem?_eq_none->wdj,getElem_inj->Ρ,mem_flatMap->wds,filter_sublist->wdy,foldl_cons->wdA,mem_filterMap->wdE,any_map->Γ,getElem?_take_of_lt->wdK,mem_replicate->wdR,length_eq_zero_iff->we1,foldl_append->we4,all_map->Χ,length_nil->wer,range_succ->wes,map_id'->΢,mem_iff_getElem->weB,length_pos_iff->weI,tail_cons->weL,lookup->weN,prefix_append->weS,all_cons->weW,drop_one->wf0,any_eq_false->wf3,take_sublist->wf5,nodup_append->wf6,filter_congr->wf7,getElem_take->wf8,extract_eq_take_drop->wfe,getElem?_eq_none_iff->wff,idxOf_lt_length_iff->wfp,suffix_refl->wfq,of_mem_zip->wfD,headD_cons->wfG,drop_of_length_le->wfP,length_eq_one_iff->wfS,take_append_drop->wfV,eq_nil_or_concat->wg2,concat_eq_append->wg3,drop_zero->wg4,filterMap_append->wg5,take_zero->wg7,idxOf_cons_self->wgc,mem_of_mem_drop->wge,flatMap_append->wgu,length_flatMap->wgv,getElem_idxOf->wgQ,map_dropLast->wh1,ext_getElem?->wh3,cons_append->whd,length_drop->whh,filter_cons->whi,take_prefix->whj,sum->whl,append_inj'->whm,foldl->whp,idxOf_cons->whu,filter_nil->whv,nodup_nil->whE
open PySem.W renaming Frag->À,findIn->ø,kia_one->Ĥ,emptyDict->ł,recOk->ĝ,xlAt->ĥ,callWith_K->Ť,instObj->Ŕ,fnOf->Į,kitOne->Œ,keepIn->š,boot_heap->ľ,methodCall_KW->wdh,looks_findIn->ς,codeIn->wdV,kHook->wed,plainGet->wee,isFn->wet,OpenLaw->η,plainGet_of->weF,lookIn->weK,hasDictIn->wf2,methodObj->wf4,looks_clsIn->wfi,takerIn->wfC,cellsFrom_some->wfI,looks_mroIn->wfQ,SharedT->ε,callWith_K0->wgt,check_slot->wgw,kdl_values->wgI,specialIn->wgT,plainOver->wgV,set_plain->wgY,kitx_list->wgZ,kitx_dict->wh0,boot_o_0->whb,handedIn->whc,kdl_dict->whf,kdl_call->whg,WalkO->whn,KeqHits->whs,makesIn->wht
open PySem renaming wpAny_bind->Â,wpAny_pure->Ë,Program->É,wpAny_mono->ß,bootBuiltins->ì,mainGlobals->è,wpAny_loadPart_at->Č,FuncData->î,wpAny_holding->Ą,compareOp->ù,wpAny_passesOwn->Ĕ,wpAny_Call_Name_kw->ĸ,excClassObj->Ă,OsState->ë,importedModules->ğ,wpAny_execs_nil->Ĭ,wpAny_execs_cons->İ,strKind->ę,wpAny_tryCatch->ħ,wpAny_truthy_bool->Ń,foldedSetIterable->Ň,wpAny_isSubtype_exc->Ŝ,codeAny_builtin->Ķ,attributeBase->ĩ,wpAny_field->Ď,sysModules->Ĉ,sizeLine_eq->Ę,keywordEach->Ĝ,plainId_quiet->Ľ,wpAny_loadName_local->ο,codeAny_mono->Ĵ,lookup_relabel_local->ω,wpAny_call->ē,wpAny_Assign_Name->Ŵ,wpAny_toks_of->Ņ,mem_of_lookup->Ÿ,swapsWith->Ě,cLine->ú,call_meets->Ļ,codeAny_call_builtin->Ε,wpAny_setField->ū,wpAny_seqItems->ů,Scope->ý,plainObj_wpAny_Assign_Attribute->wcY,wpAny_getItem_str_slice->wcZ,behindInMarks->ũ,wpAny_updateSeq->χ,wpAny_letGo->ŝ,setFlight->ń,GenState->ĳ,assignEach->ŗ,typeIs_str->Ś,Keyword->ĭ,scanBound->ŕ,getMethod->ř,tupleKind_room_in1->wdP,onTheHeap->Ş,wpAny_Name->Ų,boot_len->Κ,wpAny_newObj_type->we5,wpAny_pyIter_list->we7,wpAny_pyIter_enum->we9,Result->ġ,Builtin->Ō,seqItems?->Ū,codeAny_handlers_test->wek,Model->ė,letOwnedTupleGo->weo,post_val_or_str->wex,wpAny_handleBy_cons->weH,noteFrame->Β,tupleKind->ſ,wpAny_letOwnedTupleGo_enum->weY,wpAny_standAt->weZ,typeLookup->Ζ,length_partsBetween->wfg,isInstance->wfh,call_meetsIn->wfl,wpAny_comprehension_free->wfn,callWith->ξ,checkBuiltinCall->wfr,treeTable->Ο,subscripted->wfJ,wpAny_Call_method_late->wfM,wpAny_isTrue_Compare1->wfZ,wpAny_storeName_local->wg0,wpAny_loadPart->wg1,PlainAttrs->wgb,excMatches->wgi,wpAny_attempt->wgp,wpAny_loadName_cell->wgr,codeAny_forLoop_any->wgs,wpAt_of_wpAny->wgx,Within->wgF,PassesOwn->wgG,storeName->wgH,updateSeq->wgR,sliceBounds->wha,wpAt_bind->why,call->whz
open PySem.Heap renaming get?_push_of_some->Ð,lt_size->Æ,get?_push_size->ç,get?_update_other->þ,get?_update_self->ō,size_push->ň,SameBut->Τ,size_after_update->wfK,get?_update_ne->wgz
open PySem.Value renaming ref->Ä,none->ä,builtin->Ĺ,bool->Ι,int->Θ,str->wfB,type->wg9,isStrOf->wgl,isStrOf_shape->wgq,float->wh8
open Nat renaming le_refl->Ç,lt_of_lt_of_le->Ö,ne_of_lt->Ñ,le_trans->Õ,zero_le->à,lt_irrefl->ò,lt_of_le_of_lt->ĺ,lt_succ_self->Ł,le_succ->Ĩ,ne_of_gt->Ŀ,add_sub_cancel_left->wd0,not_lt_zero->Ω,sub_self->Ż,mul_le_mul->we0,lt_succ_of_lt->we8,le_of_eq->weu,le_of_lt->wev,pow_le_pow_right->weC,lt_or_eq_of_le->weU,add_comm->wfj,le_of_not_lt->wfs,mul_le_mul_right->wgg,succ_mul->wgE,add_sub_cancel->wgL,pow_succ->wgP,le_succ_of_le->wh4,zero_lt_one->whx
open Option.some renaming inj->Î
open Sum renaming inr->Ã,inl->Ć
open Bool renaming false_ne_true->Ý,false_eq_true->ŏ,and_eq_true->ś,false_or->Ű,eq_iff_iff->Ξ,and_false->Φ,and_eq_true_iff->wgk,true_and->wgo,not_eq_true'->wh5,or_eq_true->whq,false_and->whB
open PySem.Str renaming join->Ó,ofString->æ,length->ı
open False renaming elim->ã
open PySem.Txt renaming slice->á,slice_le->ν,replace->Λ,split->θ,join->ż
open PySem.F renaming plainAttrs_list->Ħ,slot_list_append->ő,type_list_append->ŧ,plain_min_loop->ţ,called_set->Ř,plain_max_loop->ŀ,slot_list_index->π,plainAttrs_str->δ,excBase_ValueError->wc7,plainAttrs_dict->wd1,slot_str_split->Ν,args_list_index_2->wdD,slot_dict_values->wdL,entry_list_index->wdT,type_list_index->we3,entry_min_loop->wec,entry_max_loop->weg,slot_dict_get->wei,slot_str_join->wel,type_str_join->wem,slot_dict_setdefault->weM,args_str_split_2->weV,excAttr_ValueError->wf1,entry_str_split->wf9,type_dict_values->wft,args_dict_get_3->wfy,entry_dict_get->wfN,type_str_split->wfT,entry_bexc_ga->wg6,args_bexc_ga->wgh,slot_list_pop->wgK
open Ne renaming symm->Ü
open PySem.W.OpenRow renaming toRowW->ī
open Int renaming toNat_natCast->ć,emod_lt_of_pos->ş,natCast_pow->ŋ,emod_nonneg->Š,pow_succ->ť,le_refl->Ţ,le_ediv_iff_mul_le->web,natCast_add->wez,le_trans->wfu,natCast_mul->wfF,pow_zero->wgM,lt_of_le_of_lt->wgS,ediv_nonneg->whw
open PySem.W.RowW renaming records->Ģ
open PySem.W.OpenLaw renaming row->Ġ
open PySem.Around renaming under_plainId->Ŋ,under->wgC
open True renaming intro->Ā
open PySem.Obj renaming mapFields->č,data_mapFields->œ,isFreed_of_fields->wcE,mapSeq->ŭ
open PySem.Builtin.Str renaming strSliceIndices->Α,occurrences->we2,subAt->wh2
open PySem.NameKind renaming free->Ė,cell->Ŷ
open Sum.inr renaming inj->Đ
open Or renaming inl->ó,inr->ŷ
open PyProof.Rows renaming callWith_type1->wbY,envOfC->wcX,callWith_builtin1->wey,slot_str_getitem->wfk,callWith_kw->wfv,sortedS->wfw,subscriptTail_builtinR->wfL,kws_cons->wg8,Subscript_->wga,kws_nil->wgj,subscriptTail->wgn,plainSeenE->wh7,kmk_tree->whA,add_str->whG
open Array renaming getElem?_toList->Ź,length_toList->ź,getD_eq_getD_getElem?->wcz,getElem?_eq_some_iff->wcJ,toArray_toList->wdp,toList_inj->wef,toList_extract->wgf
open PySem.Calls renaming spliced_cons->ų,callWith_builtin->wcy,evalArgs_plain->wdq,Constant_str->wdJ,spliced_nil->we6,call_len_list->weE,Name_function_global->weX
open PyProof.Rows.F renaming plain_set_update_loop->wcB,entry_set_update_loop->wdQ
open PySem.Builtin.Builtins renaming bindParams->wcC
open PySem.PassesOwn renaming never->Ũ,leaving->wfa
open List.cons renaming inj->ŵ
open ForInStep renaming yield->γ
open Eq renaming trans->Ī
open Option renaming bind_some->wdt,isSome_iff_exists->wdF,map_some->weq,map_eq_some_iff->wfH,isSome_map->wgW,getD_some->whe
open Prod.mk renaming inj->Ŧ
open PySem.EntryCells renaming newEntry->wdx
open Classical renaming byContradiction->wdC,choose->whk
open PySem.Builtin.List renaming listTooLong->wdG
open PySem.SeqAt renaming list_indexAt->wdU,eq_listAt->whr
open PySem.Heap.SameBut renaming update->weG
open Prod renaming ext->ű
open PySem.Code renaming quiet_builtin->weR,isFrame->wgD
open PySem.Walks renaming list->wfd
open PySem.SeqAt.EqAt renaming bool_bool->wfx,same->wfE,int_int->wfW,str_str->wfX,int_str->wgA,str_int->wgB
open PySem.StrLaws renaming sliceText_from->wfO,sliceText_to->wgd,split_free->wgN,join_split->wgO
open PySem.Builtin.Dict renaming samePairs->wfR
open PySem.Paired renaming length->wgm
open Std.Legacy.Range renaming forIn_eq_forIn_range'->wgy
open PySem.W.Looks renaming here->wgJ
open PySem.Flt renaming mathRow->wgU
open PySem.Heap.Ns1 renaming of_empty->wgX
open List.Sublist renaming refl->wh6
open PySem.Data renaming fields->wh9,cell->whF
open PySem.Within renaming cons->whC
open PySem.Builtin.Frozenset renaming updateFrom->whD
set_option Elab.async false
set_option linter.all false
set_option maxRecDepth 100000
set_option maxHeartbeats 4000000
namespace Tt
open PySem PySem.W PySem.Calls PyProof.Rows
noncomputable def FP(tb:String->Option Ō)(p:É)(w:World)(n₀:Nat)(ann:Option Value):Nat->ε->Thread->Option ε
 |0,_,_=>none
 |n+1,s,t=>match through t with
  |true=>some s
  |false=>match stepOk n₀ ann t with
   |false=>none
   |true=>match stepT (denote tb) p w s t with
    |some (s',t')=>FP tb p w n₀ ann n s' t'
    |none=>none
theorem FQ{tb:String->Option Ō}{p:É}{w:World}{n₀:Nat}{ann:Option Value}:∀{n:Nat} {s s':ε} {t:Thread},FP tb p w n₀ ann n s t=some s'->topRun tb p w n₀ ann n s.abs t=some s'.abs
 |0,_,_,_,h=>by cases h
 |n+1,s,s',t,h=>by
  unfold FP at h;unfold topRun
  cases ht:through t with
  |true=>rw[ht]at h;cases h;rfl
  |false=>
   rw[ht]at h
   cases hk:stepOk n₀ ann t with
   |false=>rw[hk]at h;cases h
   |true=>
    rw[hk]at h
    cases hs:stepT (denote tb) p w s t with
    |none=>rw[hs]at h;cases h
    |some r=>obtain⟨s₂,t₂⟩:=r;rw[hs]at h;rw[stepT_spec hs];exact FQ h
noncomputable def sound(p:É)(h₀:Heap)(s:ε):Bool:=staticsOk (ğ p.main.body) h₀ s.abs.heap&&namesBound p s.abs.heap&&gensDone s.abs&&laidKept h₀ s.abs.heap
theorem Jj{p q:É}{loose:List Str}{Xt:Shared->Bool}{α:Type}{Yf:Shared->α}{Ya:World->α}{N n m₀:Nat}{life:Params->Life}{g0:Bool}{H₀:Params->Heap}{T₀:Params->BT}{QO:Array ĳ}{d₀:Drawn}{k₀:Nat}{ann:Option Value}
 (Ol:∀w:World,(fencedOpening Ο p w N).map (λs=>(s.heap,s.gens,s.drawn,s.toks))=some (H₀ w.params,QO,d₀,k₀))
 (size:∀P:Params,((H₀ P).isNs è&&QO.size==0,(H₀ P).objs.size,(H₀ P).nsMap è "__annotations__")=(true,m₀,ann))
 (tree:∀P:Params,absHeap (T₀ P) n (life P)=H₀ P)
 (run:∀(w:World) (os:ë),∃s,FP Ο p w m₀ ann N ⟨T₀ w.params,n,life w.params,QO,d₀,k₀,os⟩ (topStub p)=some s/\sound p (H₀ w.params) s=true/\openSeen q loose (ğ p.main.body) Xt g0 s.abs=openGood q loose/\Yf s.abs=Ya w):LeftO p q loose Xt Yf Ya N g0:=λw=>by
 obtain⟨⟨h,gs,d,k,os⟩,e,e'⟩:=wfH.mp (Ol w);obtain⟨rfl,rfl,rfl,rfl⟩:h=H₀ w.params/\gs=QO/\d=d₀/\k=k₀:=by simpa using e'
 obtain⟨z1,z2,z3⟩:_/\_/\_:=by simpa only[Prod.mk.injEq] using size w.params
 obtain⟨s,r,l1,l2,l3⟩:=run w os;have r:=FQ r
 have ea:(SharedT.mk (T₀ w.params) n (life w.params) gs d k os).abs=⟨H₀ w.params,gs,d,k,os⟩:=by
  unfold SharedT.abs;rw[tree]
 rw[ea]at r
 have t:topFrom Ο p w N ⟨H₀ w.params,gs,d,k,os⟩=some s.abs:=by
  unfold topFrom;dsimp only;rw[z1,z2,z3,r];show (match sound p (H₀ w.params) s with |true=>_ |false=>_)=_;rw[l1]
 unfold openEnds;rw[e];show (topFrom Ο p w N _).map _=_;rw[t];exact congrArg some (ű l2 l3)
theorem LC{S A B C:Type}{o:Option S}{f:S->A}{g:S->B}{h:S->C}{a:A}{b:B}{c:C}(x:o.map f=some a)(y:o.map g=some b)(z:o.map h=some c):∃s,o=some s/\f s=a/\g s=b/\h s=c:=by
 cases o with
 |none=>cases x
 |some s=>exact⟨s,rfl,Î x,Î y,Î z⟩
theorem four{S A B C D E F G:Type}{o:Option S}{f:S->A×B×C×D×E×F×G}{a:A×B×C×D×E×F×G}(h1:o.map (λs=>(f s).1)=some a.1)(h2:o.map (λs=>((f s).2.1,(f s).2.2.1))=some (a.2.1,a.2.2.1))(h3:o.map (λs=>((f s).2.2.2.1,(f s).2.2.2.2.1))=some (a.2.2.2.1,a.2.2.2.2.1))(h5:o.map (λs=>(f s).2.2.2.2.2.1)=some a.2.2.2.2.2.1)(h4:o.map (λs=>(f s).2.2.2.2.2.2)=some a.2.2.2.2.2.2):o.map f=some a:=by
 cases o with
 |none=>cases h1
 |some s=>
  have e1:(f s).1=a.1:=Î h1;have e2:((f s).2.1,(f s).2.2.1)=(a.2.1,a.2.2.1):=Î h2;have e3:((f s).2.2.2.1,(f s).2.2.2.2.1)=(a.2.2.2.1,a.2.2.2.2.1):=Î h3;have e5:(f s).2.2.2.2.2.1=a.2.2.2.2.2.1:=Î h5;have e4:(f s).2.2.2.2.2.2=a.2.2.2.2.2.2:=Î h4;exact congrArg some (ű e1 (ű (Ŧ e2).1 (ű (Ŧ e2).2 (ű (Ŧ e3).1 (ű (Ŧ e3).2 (ű e5 e4))))))
theorem cut(n:Nat){o:Option ε}{as:List Addr}{v:List (Option Obj)}(h:o.map (λs=>(as.take n).map s.abs.heap.get?)=some (v.take n))(h':o.map (λs=>(as.drop n).map s.abs.heap.get?)=some (v.drop n)):o.map (λs=>as.map s.abs.heap.get?)=some v:=by
 cases o with
 |none=>cases h
 |some s=>
  have h1:(as.take n).map s.abs.heap.get?=v.take n:=Î h;have h2:(as.drop n).map s.abs.heap.get?=v.drop n:=Î h';show some (as.map s.abs.heap.get?)=some v;rw[<-wfV n as,Û,h1,h2,wfV]
end Tt
namespace K61
open PySem PySem.W
noncomputable def tp(i:Nat):Stmt:=ô.main.body.getD i (.Pass ⟨0,0,0,0⟩)
noncomputable def view:É:={ô with main:={ô.main with body:=[tp 0,tp 2,tp 3,tp 4,tp 5,tp 6,tp 7,tp 8,tp 9,tp 10,tp 11,tp 12,tp 13,tp 14,tp 15,tp 16,tp 17,tp 18,tp 20,tp 21,tp 22,tp 23,tp 24,tp 25,tp 26,tp 27,tp 28,tp 29,tp 30,tp 31,tp 33,tp 34,tp 35,tp 36,tp 37,tp 39,tp 41,tp 42,tp 43,tp 45,tp 46,tp 47,tp 49,tp 50,tp 51,tp 52,tp 53,tp 55,tp 56,tp 57,tp 58,tp 59,tp 61,tp 62,tp 63,tp 64,tp 65,tp 66,tp 67,tp 69,tp 70,tp 71,tp 72,tp 73,tp 74,tp 75,tp 76,tp 77,tp 78,tp 79,tp 80,tp 81,tp 82,tp 83,tp 85,tp 86,tp 87,tp 88,tp 89,tp 91,tp 92,tp 93,tp 94,tp 95,tp 96,tp 97,tp 98,tp 99,tp 100,tp 101,tp 102,tp 104,tp 105,tp 106,tp 107,tp 108,tp 109,tp 110,tp 111,tp 112,tp 113,tp 114,tp 115]}}
noncomputable def tree0(P:Params):BT:=(.node (boot_o_0 P) (.node (boot_o_1 P) (.node (boot_o_3 P) (.node (boot_o_7 P) .nil .nil) .nil) (.node (boot_o_5 P) (.node (boot_o_9 P) .nil .nil) .nil)) (.node (boot_o_2 P) (.node (boot_o_4 P) (.node (boot_o_8 P) .nil .nil) .nil) (.node (boot_o_6 P) (.node (boot_o_10 P) .nil .nil) .nil)))
noncomputable def run(w:World)(os:ë):Option ε:=(Tt.FP Ο ô w 11 (some (Ä 6)) 12100 ⟨tree0 w.params,11,(ľ w.params).life,Array.mk [],boot_drawn,boot_toks,os⟩ (topStub ô))
noncomputable def lhsS(w:World)(os:ë):=(run w os).map (λs=>Tt.sound ô (ľ w.params) s)
noncomputable def lhsA1(w:World)(os:ë):=(run w os).map (λs=>(openSeen view [] (ğ ô.main.body) (λs=>ĥ view [] s&&ĝ (Ģ (ī (Ġ ď))) s) true s.abs).1)
noncomputable def lhsA2(w:World)(os:ë):=(run w os).map (λs=>((openSeen view [] (ğ ô.main.body) (λs=>ĥ view [] s&&ĝ (Ģ (ī (Ġ ď))) s) true s.abs).2.1,(openSeen view [] (ğ ô.main.body) (λs=>ĥ view [] s&&ĝ (Ģ (ī (Ġ ď))) s) true s.abs).2.2.1))
noncomputable def lhsA3(w:World)(os:ë):=(run w os).map (λs=>((openSeen view [] (ğ ô.main.body) (λs=>ĥ view [] s&&ĝ (Ģ (ī (Ġ ď))) s) true s.abs).2.2.2.1,(openSeen view [] (ğ ô.main.body) (λs=>ĥ view [] s&&ĝ (Ģ (ī (Ġ ď))) s) true s.abs).2.2.2.2.1))
noncomputable def lhsA5(w:World)(os:ë):=(run w os).map (λs=>wh7 view [] s.abs)
noncomputable def lhsA4(w:World)(os:ë):=(run w os).map (λs=>(openSeen view [] (ğ ô.main.body) (λs=>ĥ view [] s&&ĝ (Ģ (ī (Ġ ď))) s) true s.abs).2.2.2.2.2.2)
noncomputable def lhsB(as:List Addr)(w:World)(os:ë):=(run w os).map (λs=>as.map s.abs.heap.get?)
end K61
noncomputable def PySem.W.Fast.tw14598715356260435866:=whb
theorem PySem.W.Fast.te14598715356260435866:whb=PySem.W.Fast.tw14598715356260435866:=rfl
noncomputable def PySem.W.Fast.tw1305280076869249073:=ô
theorem PySem.W.Fast.te1305280076869249073:ô=PySem.W.Fast.tw1305280076869249073:=rfl
noncomputable def PySem.W.Fast.tw13899100880601395773:=wgU
theorem PySem.W.Fast.te13899100880601395773:wgU=PySem.W.Fast.tw13899100880601395773:=rfl
lay_quick K61.lhsS K61.lhsA1 K61.lhsA2 K61.lhsA3 K61.lhsA4 K61.lhsA5 K61.lhsB
section
open PySem PySem.W PyProof.Rows
local macro_rules |`(tactic|o_head $H)=>`(tactic|(refine PySem.W.holds_open (q:=K61.view) (loose:=[]) (Xt:=λs=>PySem.W.xlAt K61.view [] s&&PySem.W.recOk (PySem.W.RowW.records (PySem.W.OpenRow.toRowW (PySem.W.OpenLaw.row PySem.Challenge.rw_bandscribe_k61_forms_refused))) s) (XP:=PySem.W.XL K61.view []) (Yf:=PySem.W.Hook.obs $H) (Ya:=PySem.W.Hook.val $H) (YP:=PySem.W.Hook.says $H) (N:=12100) ?hl (PySem.W.Hook.of $H) (PySem.W.Hook.keeps $H) (λs e=>PySem.W.xl_of s (Bool.and_eq_true_iff.mp e).1) PySem.W.XL.keeps (by rfl) (by rfl) (by rfl) (λs e=>PySem.W.recFacts_of (Bool.and_eq_true_iff.mp e).2) (by rfl) (by first |assumption |decide+kernel) (by decide+kernel) ⟨rfl,rfl,rfl,rfl,rfl,by decide+kernel⟩ ?hw ?hc;(case hl=>(intro w;contradiction))))
theorem K61.pre(h:False):(ď).Holds:=by
 w_on;o_law;k_head
 all_goals contradiction
end
namespace K61
open PySem PySem.W
noncomputable def addrs:List Addr:=[2,3,15,17,18,20,21,22,29,30,31,32,35,42,43,44,47,54,56,57,59,60,61,62,63,66,73,75,76,78,79,80,81,82,85,92,94,95,97,98,99,100,101,104,111,113,114,116,117,118,119,120,123,130,132,133,135,136,137,138,139,142,149,150,151,154,161,162,163,166,173,174,175,178,185,187,188,190,191,192,193,194,197,204,206,207,209,210,211,212,213,216,223,224,225,228,235,237,238,240,241,242,243,244,247,254,255,256,259,266,267,268,271,278,279,280,283,286,287,288,290,291,293,294,295,297,298,300,301,302,304,305,307,308,309,312,313,314,316,317,319,320,321,323,324,326,327,328,330,331,333,334,335,338,339,340,343,344,352,354,355,357,358,359,361,362,364,365,366,368,369,371,372,373,375,376,378,379,380,382,383,385,386,387,389,390,392,393,394,396,397,399,400,401,403,404,406,407,408,410,411,413,414,415,418,419,420,421,422,423,424,427,430,431,432,434,435,437,438,439,442,443,444,446,447,449,450,451,453,454,456,457,458,460,461,463,464,465,467,468,470,471,472,474,475,477,478,479,482,483,484,486,487,489,490,491,493,494,496,497,505,507,508,510,511,512,514,515,517,518,519,522,523,524,526,527,529,530,531,533,534,536,537,538,540,541,543,544,545,548,549,550,552,553,555,556,557,558,559,560,561,564,566,567,569,570,571,573,574,576,577,578,580,581,583,584,585,587,588,590,591,592,595,596,597,600,601,602,605,606,607,609,610,612,613,614,616,617,619,620,621,623,624,626,627,628,631,632,640,643,644,645,646,647,648,649,652,655,656,657,659,660,662,663,664,667,668,669,671,672,674,675,676,679,680,681,683,684,686,687,695,698,699,700,702,703,705,706,707,708,709,710,711,714,716,717,719,720,721,723,724,726,727,728,730,731,733,734,735,738,739,740,743,744,745,748,749,750,752,753,755,756,757,759,760,762,763,764,767,768,769,771,772,774,775,776,778,779,781,782,783,786,787,788,790,791,793,794,795,797,798,800,801,809,812,813,814,816,817,819,820,821,823,824,826,827,828,830,831,833,834,835,837,838,840,841,842,844,845,847,848,849,851,852,854,855,856,859,860,861,863,864,866,867,868,870,871,873,874,875,876,877,878,879,882,885,886,887,890,891,892,894,895,897,898,899,901,902,904,905,906,908,909,911,912,913,916,917,918,920,921,923,924,925,928,929,937,939,940,942,943,944,946,947,949,950,951,953,954,956,957,958,960,961,963,964,965,966,967,968,969,972,974,975,977,978,979,981,982,984,985,986,988,989,991,992,993,996,997,998,1000,1001,1003,1004,1005,1007,1008,1010,1011,1012,1014,1015,1017,1018,1019,1021,1022,1024,1025,1026,1029,1030,1031,1033,1034,1036,1037,1038,1040,1041,1043,1044,1045,1048,1049]
open PyProof.Rows in
theorem pS(w:World)(os:ë):lhsS w os=some true:=Ī (congrFun (congrFun PySem.W.Fast.te4839897709004687280 w) os) (by kernel_rfl)
open PyProof.Rows in
theorem VN:looseW view []=[]:=id (by kernel_rfl)
open PyProof.Rows in
theorem Rr(w:World)(os:ë):lhsA5 w os=some (plainGoodE view []):=Ī (congrFun (congrFun PySem.W.Fast.te9510649888823998861 w) os) (by kernel_rfl)
open PyProof.Rows in
theorem p5:∀l,l=[]->∀(w:World) (os:ë),(run w os).map (λs=>wh7 view l s.abs)=some (plainGoodE view l):=λl e w os=>by subst e;exact Rr w os
open PyProof.Rows in
theorem VO(w:World)(os:ë):(run w os).map (λs=>(openSeen view [] (ğ ô.main.body) (λs=>ĥ view [] s&&ĝ (Ģ (ī (Ġ ď))) s) true s.abs).2.2.2.2.2.1)=some (plainGoodE view (looseW view [])):=p5 (looseW view []) VN w os
open PyProof.Rows in
theorem VP(w:World)(os:ë):lhsA3 w os=some (true,pinGoodD (drecsOf view)):=Ī (congrFun (congrFun PySem.W.Fast.te10766325919276602111 w) os) (by kernel_rfl)
open PyProof.Rows in
theorem VQ(w:World)(os:ë):lhsA4 w os=some (plainGoodD view [],wideGood view,clsGoodW view []):=Ī (congrFun (congrFun PySem.W.Fast.te1269209526182683714 w) os) (by kernel_rfl)
open PyProof.Rows in
theorem VR(w:World)(os:ë):lhsA1 w os=some (expectedOf view):=Ī (congrFun (congrFun PySem.W.Fast.te8440850289365759801 w) os) (by kernel_rfl)
open PyProof.Rows in
theorem VS(w:World)(os:ë):lhsA2 w os=some (bltViewBooted,true):=Ī (congrFun (congrFun PySem.W.Fast.te7726692658250338541 w) os) (by kernel_rfl)
theorem VU(w:World)(os:ë):lhsB (K61.addrs.take 160) w os=some (((K61.pre.heap_39 w.params).map λp=>some p.2).take 160):=Ī (congrFun (congrFun (congrFun PySem.W.Fast.te5597644228545249315 _) w) os) (by kernel_rfl)
theorem VW(w:World)(os:ë):lhsB ((K61.addrs.drop 160).take 160) w os=some ((((K61.pre.heap_39 w.params).map λp=>some p.2).drop 160).take 160):=Ī (congrFun (congrFun (congrFun PySem.W.Fast.te5597644228545249315 _) w) os) (by kernel_rfl)
theorem VX(w:World)(os:ë):lhsB (((K61.addrs.drop 160).drop 160).take 160) w os=some (((((K61.pre.heap_39 w.params).map λp=>some p.2).drop 160).drop 160).take 160):=Ī (congrFun (congrFun (congrFun PySem.W.Fast.te5597644228545249315 _) w) os) (by kernel_rfl)
theorem VY(w:World)(os:ë):lhsB (((K61.addrs.drop 160).drop 160).drop 160) w os=some (((((K61.pre.heap_39 w.params).map λp=>some p.2).drop 160).drop 160).drop 160):=Ī (congrFun (congrFun (congrFun PySem.W.Fast.te5597644228545249315 _) w) os) (by kernel_rfl)
theorem op:opening ô=plainProg ô.main.scope.names:=by kernel_rfl
theorem fe(s:Shared):fenceModules? ô s=some s:=by kernel_rfl
theorem tr(P:Params):absHeap (tree0 P) 11 (ľ P).life=ľ P:=by kernel_rfl
theorem sz(P:Params):((ľ P).isNs è&&(Array.mk []:Array ĳ).size==0,(ľ P).objs.size,(ľ P).nsMap è "__annotations__")=(true,11,(some (Ä 6))):=by kernel_rfl
theorem whole:LeftO ô view [] (λs=>ĥ view [] s&&ĝ (Ģ (ī (Ġ ď))) s) (λs=>K61.addrs.map s.heap.get?) (λw=>((K61.pre.heap_39 w.params).map λp=>some p.2)) 12100:=Tt.Jj (H₀:=ľ) (T₀:=tree0) (life:=λP=>(ľ P).life) (boot_open op (by decide+kernel) fe) sz tr λw os=>Tt.LC (o:=run w os) (f:=λs=>Tt.sound ô (ľ w.params) s) (g:=λs=>openSeen view [] (ğ ô.main.body) (λs=>ĥ view [] s&&ĝ (Ģ (ī (Ġ ď))) s) true s.abs) (h:=λs=>K61.addrs.map s.abs.heap.get?) (pS w os) (Tt.four (o:=run w os) (f:=λs=>openSeen view [] (ğ ô.main.body) (λs=>ĥ view [] s&&ĝ (Ģ (ī (Ġ ď))) s) true s.abs) (a:=openGood view []) (VR w os) (VS w os) (VP w os) (VO w os) (VQ w os)) (Tt.cut (o:=run w os) 160 (VU w os) (Tt.cut (o:=run w os) 160 (VW w os) (Tt.cut (o:=run w os) 160 (VX w os) (VY w os))))
end K61
open PySem
open AutoSeq1 (wpAny_loadPart')
open PySem.W (Looks looks_findIn looks_typeIn InitBack bind_fn findIn clsIn specialIn readsIn findCls keepIn isFn typeIn InstAt looks_find looks_hook looks_mroIn takesIn mroIn subIn KitX kitOne kitCls kia_one findObj findObj_data class_get handed_on handedOut_of)
open _root_.Option renaming some->ρ,none->τ
section
def fqq(x:Array Lean.Syntax)(a b:Lean.MacroM Lean.Syntax)(f:Lean.Syntax->Lean.MacroM Lean.Syntax):Lean.MacroM (Array Lean.Syntax):=do
 let mut y:=#[]
 for e in x do
  match e.isNatLit? with
  |some n=>for _ in [0:n] do y:=(y.push (←a)).push (←b)
  |none=>y:=y.push (←f e)
 return y
local macro_rules|`(tactic|lia)=>`(tactic|lia-abstractProof)
local macro_rules(kind:=«term{_}»)|`({$x,*})=>do
 let y:=(←fqq x.getElems (`(_)) (`(rfl)) pure).map λe=>(⟨e⟩:Lean.Term)
 `(⟨$y,*⟩)
def fpp:Nat->Lean.Syntax->Lean.MacroM Lean.Syntax
 |0,_=>Lean.Macro.throwUnsupported
 |k+1,s=>do
  let s:=if s.getKind==Lean.choiceKind then (s.getArgs.find? (·.getKind==`«term{_}»)).getD s else s
  if s.isIdent then `(rcasesPat|$(⟨s⟩):ident)
  else if s.getKind==`«term{_}» then
   let y:=(←fqq s[1].getSepArgs (`(rcasesPat|_)) (`(rcasesPat|$(Lean.mkIdent `rfl):ident)) (fpp k)).map λe=>(⟨e⟩:Lean.TSyntax `rcasesPat)
   `(rcasesPat|⟨$[$y:rcasesPat],*⟩)
  else if s.isOfKind `Lean.Parser.Term.hole then `(rcasesPat|_) else Lean.Macro.throwUnsupported
local macro_rules|`(tactic|let $p:term:=$e)=>do
 let q:Lean.TSyntax `rcasesPat:=⟨←fpp 9 p⟩
 `(tactic|obtain $q:rcasesPat:=$e)
local macro_rules|`(($n:num))=>`($(Lean.mkIdent `_L.pv) $n)
local macro_rules|`($x.$i:fieldIdx)=>match i.raw.isFieldIdx? with
 |some 8=>`($(x).heap.objs.size)
 |some 7=>`($(x).objs.size)
 |some 9=>`($(x).length)
 |some 6=>`($(x).toArray)
 |some 5=>`($(x).env)
 |_=>Lean.Macro.throwUnsupported
local macro_rules|`(())=>`(by lia)
local macro_rules|`($x:scientific)=>`(by omega)
local macro_rules|`(∅)=>`(by decide+kernel)
local macro_rules|`(⋯)=>`(by decide)
namespace _L
open PySem.Spec PyProof.Rows
noncomputable abbrev Key:=Sum Int Str
noncomputable def wV:Key->Value->Bool
 |.inl k,v=>Value.isInt k v
 |.inr x,v=>wgl x v
noncomputable def Rt(w:World):Key->Int
 |.inl k=>hashInt k
 |.inr x=>hashStr w x
theorem bT:∀{k:Key} {v:Value},wV k v=true->(∃i t,k=Ć i/\v=Θ i t)\/(∃x t,k=Ã x/\v=wfB x t)
 |.inl i,v,h=>by
  let{t,e}:=Value.isInt_shape (k:=i) (v:=v) h
  exact .inl ⟨i,t,rfl,e⟩
 |.inr x,v,h=>by
  let{t,e}:=wgq (x:=x) (v:=v) h
  exact .inr ⟨x,t,rfl,e⟩
theorem DN(i:Int)(t:Tok):wV (.inl i) (.int i t)=true:=by simp[wV,Value.isInt]
theorem DP(x:Str)(t:Tok):wV (.inr x) (.str x t)=true:=by simp[wV,wgl]
theorem LD(a b:Int):decide ((Ć a:Key)=Ć b)=(a==b):=by
 grind
theorem LI(a b:Str):decide ((Ã a:Key)=Ã b)=decide (a=b):=by simp_all [Key,Đ,decide_eq_false]
theorem LJ(a:Int)(b:Str):decide ((Ć a:Key)=Ã b)=false:=decide_eq_false (λq=>nomatch q)
theorem LK(a:Str)(b:Int):decide ((Ã a:Key)=Ć b)=false:=decide_eq_false (λq=>nomatch q)
noncomputable def bp(prog:É)(w:World):PySem.KeyKind prog w Key where
 is:=wV
 hash:=Rt w
 inj:=λv a b ha hb=>by
  rcases bT ha with⟨i,t,rfl,rfl⟩ |⟨x,t,rfl,rfl⟩
  .rcases bT hb with⟨j,u,rfl,e⟩ |⟨y,u,rfl,e⟩
   .injection e with e1 _;rw[e1]
   .exact nomatch e
  .rcases bT hb with⟨j,u,rfl,e⟩ |⟨y,u,rfl,e⟩
   .exact nomatch e
   .injection e with e1 _;rw[e1]
 byValue:=λk v h=>by
   rcases bT h with⟨i,t,rfl,rfl⟩ |⟨x,t,rfl,rfl⟩<;>rfl
 pyHash:=λhv h=>by
  rcases bT hv with⟨i,t,rfl,rfl⟩ |⟨x,t,rfl,rfl⟩
  .exact wpAny_pyHash_int h
  .exact wpAny_pyHash_str h
 eqBool:=λhu hv h=>by
  rcases bT hu with⟨i,t,rfl,rfl⟩ |⟨x,t,rfl,rfl⟩
  .rcases bT hv with⟨j,u,rfl,rfl⟩ |⟨y,u,rfl,rfl⟩
   .rw[LD]at h;exact wpAny_eqBool_int h
   .rw[LJ]at h;exact wgA i t y u _ _ _ _ h
  .rcases bT hv with⟨j,u,rfl,rfl⟩ |⟨y,u,rfl,rfl⟩
   .rw[LK]at h;exact wgB x t j u _ _ _ _ h
   .rw[LI]at h;exact wpAny_eqBool_str h
 «strs»:=λk x t v h=>by
  rcases bT h with⟨i,u,rfl,e⟩ |⟨y,u,rfl,e⟩
  .exact nomatch e
  .injection e with e1 _
   subst e1;cases v<;>rfl
theorem zq(prog:É)(w:World)(i:Int)(t:Tok):(bp prog w).is (.inl i) (.int i t)=true:=DN i t
theorem zr(prog:É)(w:World)(x:Str)(t:Tok):(bp prog w).is (.inr x) (.str x t)=true:=DP x t
set_option genInjectivity true in
inductive V where
 |non |bl (b:Bool) |int (i:Int) |str (x:Str) |byt (b:Array UInt8) |flt (b:UInt64) |ref (a:Addr) |ty (n:String)
 deriving DecidableEq
def RelV:V->Value->Prop
 |.non,u=>u=ä
 |.bl b,u=>u=Ι b
 |.int i,u=>∃t,u=Θ i t
 |.str x,u=>∃t,u=wfB x t
 |.byt b,u=>∃t,u=Value.bytes b t
 |.flt b,u=>∃t,u=wh8 b t
 |.ref a,u=>u=Ä a
 |.ty n,u=>u=wg9 n
abbrev Vals:List V->List Value->Prop:=Paired RelV
theorem Vals.length{xs:List V}{us:List Value}(r:Vals xs us):xs.9=us.9:=wgm r
theorem Vals.get:∀{xs:List V} {us:List Value} {i:Nat} {x:V},Vals xs us->xs[i]?=ρ x->∃u,us[i]?=ρ u/\RelV x u
 |_,_,_,_,.nil,e=>by simp at e
 |_,_,0,_,.cons r _,e=>by simp at e;subst e;exact{_,rfl,r}
 |_,_,i+1,x,.cons _ t,e=>by
  let{u,a,b}:=Vals.get (i:=i) (x:=x) t (by simpa using e)
  exact{u,by simpa using a,b}
theorem Vals.append:∀{xs ys:List V} {us ws:List Value},Vals xs us->Vals ys ws->Vals (xs++ys) (us++ws)
 |_,_,_,_,.nil,s=>s
 |_,_,_,_,.cons r t,s=>.cons r (Vals.append t s)
theorem Vals.take:∀{xs:List V} {us:List Value} (n:Nat),Vals xs us->Vals (xs.take n) (us.take n)
 |_,_,0,_=>.nil
 |_,_,_+1,.nil=>.nil
 |_,_,n+1,.cons r t=>.cons r (Vals.take n t)
theorem Vals.drop:∀{xs:List V} {us:List Value} (n:Nat),Vals xs us->Vals (xs.drop n) (us.drop n)
 |_,_,0,r=>r
 |_,_,_+1,.nil=>.nil
 |_,_,n+1,.cons _ t=>Vals.drop n t
def j0:Option V->Option Value->Prop
 |some v,ρ u=>RelV v u
 |none,τ=>True
 |_,_=>False
def KV{κ:Type}:List (κ×V)->List (κ×Value)->Prop:=Paired λ(p:κ×V) (q:κ×Value)=>p.1=q.1/\RelV p.2 q.2
noncomputable def kV:Key->V
 |.inl i=>.int i
 |.inr x=>.str x
set_option genInjectivity true in
inductive HO where
 |lst (xs:List V)
 |tup (xs:List V)
 |dK (kvs:List (Key×V)) |dT (kvs:List (List Key×V))
 |set (S:Int->Bool) (n:Nat)
 |ins (C dx:Addr) (fs:List (Str×V))
 |own (x:Addr)
 |xd (fs:List (Str×V))
 |met (f x:Addr)
 |rng (lo hi:Int)
 |frz (o:Obj) (u:HO)
 |tbl (ps:Array Value)
 |ext (φ:Heap->Prop)
noncomputable abbrev Hp:=Addr->Option HO
noncomputable def upd(H:Hp)(a:Addr)(o:HO):Hp:=λb=>if b=a then ρ o else H b
theorem a6:upd H a o a=ρ o:=by delta upd;rw[if_pos rfl]
theorem a9(h:b≠a):upd H a o b=H b:=by delta upd;rw[if_neg h]
theorem CQ:upd (upd H a o) a u=upd H a u:=by
 funext b;delta upd;split<;>rfl
theorem Om{H:Hp}{a b:Addr}{o u:HO}(h:H a=ρ o)(h':H b=ρ u)(d:o≠u):a≠b:=by grind [Î]
theorem ae{H:Hp}{a b:Addr}{o:HO}(h:H a=ρ o)(h':H b=τ):a≠b:=by
 grind
def Rd(H:Hp)(a:Addr)(u:HO):Prop:=H a=ρ u\/∃o,H a=ρ (.frz o u)
def Oo:Option HO->Prop
 |some (.lst _)=>True
 |some (.dK _)=>True
 |some (.dT _)=>True
 |some (.set _ _)=>True
 |some (.ins _ _ _)=>True
 |some (.ext _)=>True
 |_=>False
structure Un(fs ex:List Addr)(H H':Hp)(h h':Heap):Prop where
 keep:∀b o,h.get? b=ρ o->H b=τ->b∉fs->b∉ex->h'.get? b=ρ o
 slot:∀b o,h.get? b=ρ o->H b=τ->b∈fs->b∉ex->∃sl,h'.get? b=ρ {o with slots:=sl}
 free:∀b o,h.get? b=ρ o->H b=τ->b∉ex->H' b=τ
 there:∀b o,h.get? b=ρ o->b∉ex->∃o',h'.get? b=ρ o'
 nY:∀b xs,H b=ρ (.tup xs)->H' b=ρ (.tup xs)
 mY:∀b o u,H b=ρ (.frz o u)->H' b=ρ (.frz o u)
 nZ:∀b ps,H b=ρ (.tbl ps)->∃more,H' b=ρ (.tbl (ps++more))
noncomputable def Ru(h:Heap)(H:Hp):List Addr:=(ð h.7).filter λa=>(H a).isSome
noncomputable def yp(h:Heap)(H:Hp):Heap:=PySem.W.hideAll h (Ru h H)
theorem DQ(h:Heap)(H:Hp):(yp h H).objs.size=h.7:=PySem.W.hideAll_size _ _
theorem FR(e:h.get? b=ρ o)(n:H b=τ):(yp h H).get? b=ρ o:=
 PySem.W.hideAll_get _ e λa=>by
  have q:(H b).isSome=true:=(é.mp a).2;rw[n]at q;simp at q
theorem Jk(e:(yp h H).get? b=ρ o):h.get? b=ρ o/\H b=τ:=by
 have a:h.get? b=ρ o:=PySem.W.of_hideAll (Ru h H) e;refine{a,?_}
 cases q:H b with
 |none=>rfl
 |some x=>
  grind [Ru,Æ,yp,PySem.W.hideAll_none]
noncomputable def Jl(g h:Heap)(L:Addr):List (Addr×Obj):=(ð h.7).filterMap λa=>if a=L\/(g.get? a).isSome=true then τ else(h.get? a).map λo=>(a,o)
noncomputable def rest(g h:Heap)(L d:Addr):List (Addr×Obj):=(Jl g h L).filter λp=>decide (p.1≠d)
structure Mod(K:À)(mg:Str->Option Value)(base:Heap):Prop where
 Jm:K.In base
 glob:base.Ns è mg
 blt:∃mb,base.Ns builtinsNs mb/\∀x:Str,x≠"__name__"->mb x=ì x
 nolimit:base.NoLimit
structure Cx where
 prog:É
 w:World
 K:À
 mg:Str->Option Value
 base:Heap
 A:Around
 N:List Str
 s₀:Shared
 H₀:Hp
 env:Env
 outer:List Env
 stack:List Env
 ex:List Addr
 fn:Str->Bool
 calm:Bool
 pn:List (Addr×Obj)
 xe:Value->Shared->Prop
noncomputable def oI(l:List Env):List Addr:=l.filterMap (·.frame)
noncomputable abbrev Cx.fs(X:Cx):List Addr:=oI X.outer
def O3(sc:ý)(x:Str):Prop:=sc.names.lookup x=ρ .local\/sc.names.lookup x=ρ .cell\/sc.names.lookup x=ρ .free
def Loc(sc:ý)(x:Str):Prop:=sc.names.lookup x=ρ .local\/sc.names.lookup x=ρ .cell
def Look(env:Env)(h:Heap)(m:Str->Option Value)(x:Str)(u:Value):Prop:=
 (env.kindOf x=ρ .local/\m x=ρ u)\/((env.kindOf x=ρ .cell\/env.kindOf x=ρ .free)/\∃c,env.cells.lookup x=ρ c/\h.IsCell c (ρ u))
structure Cx.Ok(X:Cx):Prop where
 mod:Mod X.K X.mg X.base
 kind:X.env.scope.kind=.function
 glob:X.env.globals=è
 blt:X.env.builtins=builtinsNs
 above:X.s₀.8<=X.env.locals
 inj:∀x y c,X.env.cells.lookup x=ρ c->X.env.cells.lookup y=ρ c->x=y
 has:∀x,(X.env.kindOf x=ρ .cell\/X.env.kindOf x=ρ .free)->∃c,X.env.cells.lookup x=ρ c
 LL:∀x c,X.fn x=true->X.env.cells.lookup x=ρ c->X.s₀.8<=c
 hd:X.calm=true->X.A.handled=τ
 frames:X.A.frames=ρ X.stack
 KU:X.stack=X.outer\/(X.stack=X.5::X.outer/\X.env.frame=ρ X.env.locals)
 QP:∀b∈X.ex,b≠X.env.locals/\∀x c,X.env.cells.lookup x=ρ c->c≠b
 bs:∀b o,X.base.get? b=ρ o->X.s₀.heap.get? b=ρ o/\X.H₀ b=τ
 FT:X.base.7<=X.s₀.8
 B8:∀b o,X.base.get? b=ρ o->b∉X.ex
 DR:∀b∈X.ex,b∉X.fs
 oJ:X.s₀.heap.FunFrames X.base X.outer
 Jn:∀b∈X.fs,X.H₀ b=τ
theorem oK{N:List Str}(g:N.Nodup){i j:Nat}{x:Str}(a:N[i]?=ρ x)(b:N[j]?=ρ x):i=j:=by
 let{e,c}:=Ô.mp a
 let{f,d}:=Ô.mp b
 exact(Ρ g).mp (c.trans d.symm)
noncomputable abbrev XK:=Value->Option Addr->Hp->Prop
noncomputable abbrev St:=List (Option V)
noncomputable abbrev VK:=V->Hp->Prop
noncomputable abbrev TE:=St->Hp->VK->Prop
noncomputable abbrev TT:=St->Hp->(Bool->Hp->Prop)->Prop
noncomputable abbrev TA:=St->Hp->(List V->Hp->Prop)->Prop
structure Bx(p:Prop):Prop where
 go:p
instance {p:Prop}:CoeFun (Bx p) λ_=>p:=⟨Bx.go⟩
theorem bU{α:Type}{t:Sem α}{Q g:α->Shared->Prop}{M:ė}{A:Around}{E:Value->Shared->Prop}{s:Shared}(h:wpAny M A t Q E s)(j:∀a s,Q a s->g a s):wpAny M A t g E s:=ß h j λ_ _ x=>x
inductive jz(i:Nat)(σ:St)(H:Hp)(Q:VK):Prop
 |mk (v) (_:σ[i]?=ρ (ρ v)) (_:Q v H)
def tC(v:V):TE:=λ_ H Q=>Q v H
inductive Up(x:V)(H:Hp)(Q:Bool->Hp->Prop):Prop
 |mk (c) (_:x=.bl c) (_:Q c H)
def tB(t:TE):TT:=λσ H Q=>t σ H λx H1=>Up x H1 Q
def Oq(t u:TT):TT:=λσ H Q=>t σ H λc H1=>if c=true then u σ H1 Q else Q false H1
def VZ(t u:TT):TT:=λσ H Q=>t σ H λc H1=>if c=true then Q true H1 else u σ H1 Q
def Rv(t:TT):TT:=λσ H Q=>t σ H λc H1=>Q (!c) H1
def aL(K:À)(H:Hp)(a:Addr)(xs:List V):Prop:=
 Rd H a (.lst xs) \/
  ∃(o:Obj) (its:Array Value) (n:Nat),K.lookup a=ρ o/\o.cls=.type "list"/\o.dict=τ/\o.data=.seq its n/\its.size<=sizeLine/\Vals xs its.toList
def gF(K:À)(H:Hp)(a:Addr)(xs:List V):Prop:=
 Rd H a (.tup xs) \/
  ∃(o:Obj) (its:Array Value) (n:Nat),K.lookup a=ρ o/\o.cls=.type "tuple"/\o.data=.seq its n/\its.size<=sizeLine/\Vals xs its.toList
noncomputable def Rw:Value->Option V
 |.none=>ρ .non
 |.bool b=>ρ (.bl b)
 |.int i _=>ρ (.int i)
 |.str x _=>ρ (.str x)
 |.bytes b _=>ρ (.byt b)
 |.float b _=>ρ (.flt b)
 |.ref a=>ρ (.ref a)
 |.type n=>ρ (.ty n)
 |_=>τ
theorem RelV.abs{x:V}{u:Value}(r:RelV x u):Rw u=ρ x:=by
 cases x with
 |non=>cases r;rfl
 |bl _=>cases r;rfl
 |int _=>let{t,rfl}:=r;rfl
 |str _=>let{t,rfl}:=r;rfl
 |byt _=>let{t,rfl}:=r;rfl
 |flt _=>let{t,rfl}:=r;rfl
 |ref _=>cases r;rfl
 |ty _=>cases r;rfl
theorem RelV.inj{x y:V}{u:Value}(r:RelV x u)(q:RelV y u):x=y:=Î (r.abs.symm.trans q.abs)
theorem Vals.inj:∀{xs ys:List V} {us:List Value},Vals xs us->Vals ys us->xs=ys
 |_,_,_,.nil,.nil=>rfl
 |_,_,_,.cons r t,.cons a b=>by rw[r.inj a,Vals.inj t b]
noncomputable abbrev Cx.kT(X:Cx)(E:Value->Shared->Prop):Cx:={X with xe:=E}
noncomputable abbrev Cx.Ja(X:Cx):Cx:=X.kT λ_ _=>False
noncomputable abbrev TG:=V->St->Hp->(St->Hp->Prop)->Prop
noncomputable abbrev QQ:=List V->St->Hp->(St->Hp->Prop)->Prop
noncomputable abbrev Ot:=V->V->Hp->VK->Prop
def cA(i:Nat):TG:=λv σ H Q=>Q (σ.set i (ρ v)) H
inductive FU(vs:List V)(σ:St)(H:Hp)(Q:St->Hp->Prop):Prop
 |mk (_:vs=[]) (_:Q σ H)
inductive kU(t:TG)(u:QQ)(vs:List V)(σ:St)(H:Hp)(Q:St->Hp->Prop):Prop
 |mk (v r) (_:vs=v::r) (_:t v σ H λσ' H'=>u r σ' H' Q)
inductive FV(K:À)(n:Nat)(t:QQ)(v:V)(σ:St)(H:Hp)(Q:St->Hp->Prop):Prop
 |mk (a xs) (_:v=.ref a) (_:gF K H a xs) (_:xs.9=n) (_:t xs σ H Q)
noncomputable def W2(f:Int->Int->Int):Ot:=λx y H Q=>∃i j,x=.int i/\y=.int j/\Q (.int (f i j)) H
structure It where
 go:Nat->Hp->Prop
 we:Nat->Hp->V->Hp->Prop
 stop:Nat->Hp->Prop
def sT(X:Cx)(pins:List (Addr×Obj))(H:Hp)(b:Addr):Prop:=
 H b=τ/\b≠X.env.locals/\b∉X.fs/\(b∈X.ex\/X.s₀.8<=b)/\(∀x c,X.env.cells.lookup x=ρ c->c≠b)/\∀p∈X.pn++pins,p.1≠b
noncomputable abbrev TI:=St->Hp->(It->Hp->Prop)->Prop
theorem CT{E:Value->Shared->Prop}{Q:Unit->Shared->Prop}(j:s.heap.get? it=ρ o)(hc:o.cls=.type n)(hd:o.data=.fields vs)
 (hn:["enumerate","zip","dict_itemiterator","dict_reverseitemiterator","odict_iterator","itertools.zip_longest","itertools.pairwise"].contains n=false) (g:Q .unit s):wpAny M A (weo l (.ref it) u) Q E s:=by
 unfold weo
 cases l<;>first
  |exact Ë g
  |(cases u<;>first
     |exact Ë g
     |(refine Â (wpAny_load j ?_)
       rw[hc,hd];show wpAny M A (if (["enumerate","zip","dict_itemiterator","dict_reverseitemiterator","odict_iterator","itertools.zip_longest","itertools.pairwise"].contains n&&vs[0]?==ρ (rawInt _))=true then _ else _) Q E s;rw[if_neg (by grind)]
       exact Ë g))
noncomputable def O4(K:À)(a:Addr):It:=
 {λi H=>∃xs x,aL K H a xs/\xs[i]?=ρ x,λi H x H'=>H'=H/\∀xs,aL K H a xs->xs[i]?=ρ x,λi H=>∃xs,aL K H a xs/\xs.9<=i}
noncomputable def KW(lo:Int)(n:Nat):It:={λi _=>i<n,λi H x H'=>H'=H/\x=.int (lo+i),λi _=>n<=i}
def Ou(K:À)(tl:TE):TI:=λσ H R=>tl σ H λx H1=>∃a,x=.ref a/\(∃xs,aL K H1 a xs)/\R (O4 K a) H1
def Ov(ta:TA):TI:=λσ H R=>ta σ H λvs H1=>∃j:Int,vs=[.int j]/\-(2^62)<=j/\j<2^62/\R (KW 0 j.toNat) H1
def Ow(ta:TA):TI:=λσ H R=>ta σ H λvs H1=>∃i j:Int,vs=[.int i,.int j]/\(-(2^62)<=i/\i<2^62/\-(2^62)<=j/\j<2^62)/\R (KW i (j-i).toNat) H1
noncomputable def qw(fp:List Addr)(h:Heap):List (Addr×Obj):=fp.filterMap λb=>(h.get? b).map λo=>(b,o)
theorem fO(g:b∈j)(e:h.get? b=ρ o):(b,o)∈qw j h:=wdE.mpr {b,g,by rw[e];rfl}
theorem DS(g:p∈qw j h):p.1∈j/\h.get? p.1=ρ p.2:=by
 let{b,a,e}:=wdE.mp g
 cases q:h.get? b with
 |none=>grind
 |some o=>
  grind
noncomputable abbrev R2:=V->V->Hp->VK->Prop
def wW(r:R2)(ta tb:TE):TE:=λσ H Q=>ta σ H λx H1=>tb σ H1 λy H2=>r x y H2 Q
def W3(r:V->Hp->VK->Prop)(ta:TE):TE:=λσ H Q=>ta σ H λx H1=>r x H1 Q
inductive rI(C:Int->Int->Prop)(g:Int->Int->V)(x y:V)(H:Hp)(Q:VK):Prop
 |mk (i j) (_:x=.int i) (_:y=.int j) (_:C i j) (_:Q (g i j) H)
inductive FK(g:Int->Int->V)(x y:V)(H:Hp)(Q:VK):Prop
 |mk (i j) (_:x=.int i) (_:y=.int j) (_:Q (g i j) H)
inductive rU(g:Int->V)(x:V)(H:Hp)(Q:VK):Prop
 |mk (i) (_:x=.int i) (_:Q (g i) H)
def LN(i j:Int):Prop:=0<j/\j<1073741824
def Rx(i j:Int):Prop:=0<=j/\j<=1000000/\i.natAbs<2^64
def DT(i j:Int):Prop:=(-(2^64)<i/\i<2^64)\/(-(2^64)<j/\j<2^64)
noncomputable def Ox:V->V->Bool
 |.non,.non=>true |.non,.int _=>true |.int _,.non=>true |.non,.bl _=>true |.bl _,.non=>true |.non,.str _=>true |.str _,.non=>true
 |.int _,.int _=>true |.bl _,.bl _=>true |.str _,.str _=>true |.byt _,.byt _=>true
 |.int _,.str _=>true |.str _,.int _=>true |.bl _,.str _=>true |.str _,.bl _=>true
 |_,_=>false
inductive Uq(x y:V)(H:Hp)(Q:VK):Prop
 |mk (_:Ox x y=true) (_:Q (.bl (decide (x=y))) H)
inductive W4(x y:V)(H:Hp)(Q:VK):Prop
 |mk (_:Ox x y=true) (_:Q (.bl (!decide (x=y))) H)
theorem CU:decide (V.int i=V.int j)=(i==j):=by
 rw[Ξ];simp
theorem FW:decide (V.bl i=V.bl j)=(i==j):=by
 rw[Ξ];simp
theorem CV:decide (V.str i=V.str j)=(i==j):=by
 rw[Ξ];simp
theorem CY:decide (V.byt i=V.byt j)=(i.toList==j.toList):=by
 rw[Ξ];cases i;cases j;simp
def CZ(t:TE):TT:=λσ H Q=>t σ H λx H'=>Up x H' Q
theorem o5:(sizeLine:Nat)<2^63:=by rw[Ę];decide
theorem vals1(r:Vals [x] us):∃u,us=[u]/\RelV x u:=by
 cases r with
 |cons a b=>cases b;exact{_,rfl,a}
theorem vals2(r:Vals [x,y] us):∃u g,us=[u,g]/\RelV x u/\RelV y g:=by
 cases r with
 |cons a b=>
  cases b with
  |cons c d=>cases d;exact{_,1,a,c}
structure B9(h:Heap)(x dx C:Addr)(mA:Str->Option Value):Prop where
 obj:h.get? x=ρ (Ŕ C dx)
 ns:h.Ns1 dx mA
 ne:dx≠x
noncomputable def bV(f:Str)(v:V):List (Str×V)->List (Str×V)
 |[]=>[(f,v)]
 |(g,x)::r=>if g=f then(g,v)::r else(g,x)::bV f v r
theorem aC(f g:Str)(v:V):∀fs:List (Str×V),(bV f v fs).lookup g=if g=f then ρ v else fs.lookup g
 |[]=>by
  show weN g [(f,v)]=_
  by_cases h:g=f
  .grind
  .grind
 |(k,x)::r=>by
  have a:=aC f g v r;rw[show bV f v ((k,x)::r)=(if k=f then(k,v)::r else(k,x)::bV f v r) from rfl]
  by_cases hk:k=f
  .grind
  .grind
theorem qx(f:Str)(v:V):∀fs:List (Str×V),f∈(bV f v fs).map (·.1)/\∀g,g∈fs.map (·.1)->g∈(bV f v fs).map (·.1)
 |[]=>{by simp[bV],λg h=>by simp at h}
 |(k,x)::r=>by
  let{a,b}:=qx f v r
  rw[show bV f v ((k,x)::r)=(if k=f then(k,v)::r else(k,x)::bV f v r) from rfl]
  by_cases hk:k=f
  .grind
  .grind
theorem rE(f:Str)(v:V):∀fs:List (Str×V),(bV f v fs).9<=fs.9+1
 |[]=>by simp[bV]
 |(k,x)::r=>by
  have a:=rE f v r;rw[show bV f v ((k,x)::r)=(if k=f then(k,v)::r else(k,x)::bV f v r) from rfl]
  by_cases hk:k=f
  .grind
  .grind
theorem j0.tH(r:j0 (ρ v) o):∃u,o=ρ u/\RelV v u:=by
 cases o with
 |none=>exact(show False from r).elim
 |some u=>exact⟨u,rfl,r⟩
theorem j0.none_of(r:j0 τ o):o=τ:=by grind [j0,cases False]
theorem wX(r:RelV v u):whc u=true:=by
 cases v with
 |non=>cases(show u=ä from r);rfl
 |bl b=>cases(show u=Ι b from r);rfl
 |int i=>let{t,e}:=(show ∃t,u=Θ i t from r);cases e;rfl
 |str x=>let{t,e}:=(show ∃t,u=wfB x t from r);cases e;rfl
 |byt b=>let{t,e}:=(show ∃t,u=Value.bytes b t from r);cases e;rfl
 |flt b=>let{t,e}:=(show ∃t,u=wh8 b t from r);cases e;rfl
 |ref a=>cases(show u=Ä a from r);rfl
 |ty n=>cases(show u=wg9 n from r);rfl
structure wY(K:À)(C:Addr):Prop where
 pg:wee K C Str.empty=true
 hd:wf2 K C=true
 po:wgV K C=true
 sa:ø K (.ref C) "__setattr__"=ρ (ρ (.builtin "object.__setattr__"))
theorem wY.get{K:À}{C:Addr}(c:wY K C)(f:Str):wee K C f=true:=c.pg
def bA(K:À)(C:Addr)(f:Str):Prop:=ø K (.ref C) f=ρ τ
theorem bA.Oy{K:À}{C:Addr}{f:Str}(n:bA K C f):wfC K C f=ρ τ:=by
 unfold wfC;rw[show ø K (.ref C) f=ρ τ from n];rfl
inductive W5(K:À)(f:Str)(x:V)(H:Hp)(Q:VK):Prop
 |mk (a C dx fs v) (_:x=.ref a) (_:H a=ρ (.ins C dx fs)) (_:wY K C) (_:bA K C f) (_:fs.lookup f=ρ v) (_:Q v H)
def Oz(K:À)(ta:TE)(f:Str):TE:=λσ H Q=>ta σ H λx H1=>W5 K f x H1 Q
theorem Ba{A:Around}{C:Addr}{us:List Value}{g:List (Str×Value)}:(A.under (.builtin "type.__call__" {.ref C::us,g})).depth=A.depth+1:=by
 first |rfl |simp[wgC,Code.weight,Code.isCreation,Code.isGuard,Code.isCaller,Code.frames,wgD,guardIds]
theorem Bb{A:Around}{C:Addr}{us:List Value}{g:List (Str×Value)}:(A.under (.builtin "type.__call__" {.ref C::us,g})).units=A.units+1:=by
 first |rfl |simp[wgC,Code.cUnits,Code.frames,wgD]
def wg:TA:=λ_ H Q=>Q [] H
def tV(ta:TE)(tr:TA):TA:=λσ H Q=>ta σ H λx H1=>tr σ H1 λxs H2=>Q (x::xs) H2
inductive W6(xs:List V)(H:Hp)(Q:VK):Prop
 |mk (_:xs.9<=sizeLine) (_:∀p,H p=τ->Q (.ref p) (upd H p (.tup xs)))
inductive W7(xs:List V)(H:Hp)(Q:VK):Prop
 |mk (_:xs.9<=sizeLine) (_:∀p,H p=τ->Q (.ref p) (upd H p (.lst xs)))
noncomputable abbrev Sp:=List V->Hp->VK->XK->Prop
noncomputable abbrev FL:=List Env->Hp->Shared->XK->Value->Shared->Prop
def KY(sp:Sp)(tI:List V)(E:XK)(t:TA):TE:=λσ H Q=>t σ H λvs H1=>sp (vs++tI) H1 Q E
inductive Ur(C:Addr)(m:Str)(x:V)(H:Hp)(k:Prop):Prop
 |mk (a dx fs) (_:x=.ref a) (_:H a=ρ (.ins C dx fs)) (_:fs.lookup m=τ) (_:k)
def D0(C:Addr)(m:Str)(sp:Sp)(tI:List V)(E:XK)(ta:TE)(t:TA):TE:=λσ H Q=>ta σ H λx H1=>Ur C m x H1 (t σ H1 λvs H2=>sp (x::(vs++tI)) H2 Q E)
def KZ(C:Addr)(sp:Sp)(tI:List V)(E:XK)(t:TA):TE:=λσ H Q=>t σ H λvs H1=>∀x dx,H1 x=τ->H1 dx=τ->dx≠x ->
 sp (.ref x::(vs++tI)) (upd (upd H1 dx (.own x)) x (.ins C dx [])) (λv H2=>v=.non/\Q (.ref x) H2) E
def Binds(K:À)(fd:î)(ps:List Str)(ds:List Value):Prop:=
 ∀(s:Shared) (us:List Value),K.In s.heap->(us++ds).9=ps.9->BindsTo s fd {us,[]} (ps.zip (us++ds))
theorem Binds.all{K:À}{fd:î}{ps:List Str}(h:∀us:List Value,us.9=ps.9->bindArgs fd {us,[]}=pure (ps.zip us)):Binds K fd ps []:=λs us _ hl=>by
 rw[û]at hl ⊢;exact .of_eq (h us hl)
structure di(N P:List Str)(sc:ý):Prop where
 kind:sc.kind=.function
 co:sc.isCoroutine=false
 gen:sc.isGenerator=false
 nd:N.Nodup
 pre:N.take P.9=P
 par:∀x∈P,sc.names.lookup x=ρ .local\/sc.names.lookup x=ρ .cell
 LO:∀y∈sc.names,y.2≠.free
theorem wZ{kindOf:Str->Option NameKind}:∀{binds:List (Str×Value)} {m:Str->Option Value},(∀v,(x,v)∉binds)->bindL kindOf binds m x=m x
 |[],_,_=>rfl
 |(n,v)::r,m,h=>by
  unfold bindL;rw[wZ λw hw=>h w (Ø _ hw)];split
  .grind
  .rfl
theorem x9{kindOf:Str->Option NameKind}:∀{binds:List (Str×Value)} {m:Str->Option Value},(∀v,(x,v)∉binds)->bindC kindOf binds m x=m x
 |[],_,_=>rfl
 |(n,v)::r,m,h=>by
  unfold bindC;rw[x9 λw hw=>h w (Ø _ hw)];split
  .rfl
  .grind
theorem xa{kindOf:Str->Option NameKind}:∀{P:List Str} {vs:List Value} {i:Nat} {m:Str->Option Value},P.Nodup->P[i]?=ρ x->vs[i]?=ρ v->kindOf x=ρ .local ->
 bindL kindOf (P.zip vs) m x=ρ v
 |[],_,_,_,_,h,_,_=>by simp at h
 |_::_,[],_,_,_,_,h,_=>by simp at h
 |p::P,w::vs,0,m,nd,a,b,hk=>by
  simp at a b;subst a;subst b;show bindL kindOf ((p,w)::P.zip vs) m p=_;unfold bindL;rw[wZ λv c=>(ι.mp nd).1 (wfD c).1,if_pos hk];simp
 |p::P,w::vs,i+1,m,nd,a,b,hk=>by
  show bindL kindOf ((p,w)::P.zip vs) m x=_;unfold bindL;exact xa (i:=i) (ι.mp nd).2 (by simpa using a) (by simpa using b) hk
theorem xc{kindOf:Str->Option NameKind}:∀{P:List Str} {vs:List Value} {i:Nat} {m:Str->Option Value},P.Nodup->P[i]?=ρ x->vs[i]?=ρ v->kindOf x≠ρ .local ->
 bindC kindOf (P.zip vs) m x=ρ v
 |[],_,_,_,_,h,_,_=>by simp at h
 |_::_,[],_,_,_,_,h,_=>by simp at h
 |p::P,w::vs,0,m,nd,a,b,hk=>by
  simp at a b;subst a;subst b;show bindC kindOf ((p,w)::P.zip vs) m p=_;unfold bindC;rw[x9 λv c=>(ι.mp nd).1 (wfD c).1,if_neg hk];simp
 |p::P,w::vs,i+1,m,nd,a,b,hk=>by
  show bindC kindOf ((p,w)::P.zip vs) m x=_;unfold bindC;exact xc (i:=i) (ι.mp nd).2 (by grind) (by grind) hk
noncomputable def start(N:List Str)(vs:List V):St:=vs.map ρ++Ú (N.9-vs.9) τ
theorem zt{g:ý}{n:Nat}{x:Str}(h:g.names.lookup x=ρ .cell):∃c,(cellsFrom n g.names []).lookup x=ρ c:=by
 have q:=wfI g.names n [] (.inl h);exact wdF.mp q
noncomputable abbrev TO:=St->Hp->(Option Int->Hp->Prop)->Prop
noncomputable def Jo:TO:=λ_ H Q=>Q τ H
inductive W8(x:V)(H:Hp)(Q:Option Int->Hp->Prop):Prop
 |mk (i) (_:x=.int i) (_:Q (ρ i) H)
noncomputable def OA(t:TE):TO:=λσ H Q=>t σ H λx H1=>W8 x H1 Q
noncomputable def L0(n:Nat)(i:Int):Option Nat:=if 0<=i then(if i<n then ρ i.toNat else τ) else if -(n:Int)<=i then ρ (i+n).toNat else τ
noncomputable def yq{α:Type}(xs:List α)(i:Int):Option α:=(L0 xs.length i).bind λj=>xs[j]?
theorem Jp(h:L0 n i=ρ j):seqIndex? i n=ρ j/\j<n/\-(n:Int)<=i/\i<n:=by
 unfold L0 at h
 by_cases b:0<=i
 .rw[if_pos b]at h
  by_cases a:i<n
  .rw[if_pos a]at h;have e:i.toNat=j:=Î h;exact{by rw[seqIndex_of b a,e],(),(),a}
  .rw[if_neg a]at h;cases h
 .rw[if_neg b]at h
  by_cases a:-(n:Int)<=i
  .rw[if_pos a]at h;have e:(i+n).toNat=j:=Î h;exact{by rw[seqIndex_neg () a,e],(),a,()}
  .rw[if_neg a]at h;cases h
theorem tJ{α:Type}{xs:List α}{i:Int}{v:α}(h:yq xs i=ρ v):∃j,seqIndex? i xs.9=ρ j/\xs[j]?=ρ v/\j<xs.9/\-(xs.9:Int)<=i/\i<xs.9:=by
 unfold yq at h
 cases e:L0 xs.length i with
 |none=>rw[e]at h;cases h
 |some j=>
  rw[e]at h
  let{a,b,c,d}:=Jp e
  exact⟨j,a,h,b,c,d⟩
theorem b5{α:Type}{xs:List α}{j:Nat}{v:α}(h:xs[j]?=ρ v):yq xs (j:Int)=ρ v:=by
 have a:j<xs.9:=(Ô.mp h).1
 have e:L0 xs.length (j:Int)=ρ j:=by
  unfold L0;rw[if_pos (),if_pos ()];simp
 unfold yq;rw[e];exact h
theorem zu{α:Type}(xs:List α)(v:α):yq (xs++[v]) (-1)=ρ v:=by
 have hl:(xs++[v]).9=xs.9+1:=by simp
 have e:L0 (xs++[v]).length (-1)=ρ xs.9:=by
  unfold L0;rw[hl,if_neg ⋯,if_pos ()];congr 1
  lia
 unfold yq;rw[e];show (xs++[v])[xs.9]?=ρ v;simp
def D1(b:Expr):Prop:=∀o i,wfJ b false o i=operate [o,i] (getItem o i)
inductive LQ(K:À)(x y:V)(H:Hp)(Q:VK):Prop
 |mk (p xs i v) (_:x=.ref p) (_:y=.int i) (_:aL K H p xs) (_:yq xs i=ρ v) (_:Q v H)
inductive Ry(K:À)(x y:V)(H:Hp)(Q:VK):Prop
 |mk (p xs i v) (_:x=.ref p) (_:y=.int i) (_:gF K H p xs) (_:yq xs i=ρ v) (_:Q v H)
inductive Rz(x y:V)(H:Hp)(Q:VK):Prop
 |mk (z i c) (_:x=.str z) (_:y=.int i) (_:z.9<=sizeLine) (_:yq z.cps.toList i=ρ c) (_:Q (.str ⟨#[c]⟩) H)
noncomputable def du:V->Bool
 |.non=>true
 |.bl _=>true
 |.int _=>true
 |.str _=>true
 |_=>false
theorem Vals.one:∀{x:V} {us:List Value},Vals [x] us->∃u,us=[u]/\RelV x u
 |_,_,.cons r .nil=>{_,rfl,r}
theorem Vals.zero:∀{us:List Value},Vals [] us->us=[]
 |_,.nil=>rfl
theorem Vals.dropLast(h:Vals xs us):Vals xs.dropLast us.dropLast:=by
 induction h with
 |nil=>exact .nil
 |cons r t a=>
  cases t with
  |nil=>exact .nil
  |cons q b=>exact .cons r a
theorem Vals.rep(h:Vals xs us):∀k:Nat,Vals (Ú k xs).flatten (Ú k us).flatten
 |0=>.nil
 |k+1=>by
  rw[ž,ž,Ž,Ž];exact Vals.append h (Vals.rep h k)
theorem foldl_rep(g:List Value):∀(k:Nat) (j:List Value),
 whp (λl p=>l++p) j.toArray (Ú k g.6)=(j++(Ú k g).flatten).6
 |0,j=>by simp
 |k+1,j=>by
  have e:j.6++g.6=(j++g).6:=by simp
  have a:(j++g)++(Ú k g).flatten=j++(Ú (k+1) g).flatten:=by
   grind
  rw[<-a,<-foldl_rep g k (j++g),<-e,ž,wdA]
theorem FX(h:n<=sizeLine):wdG n=false:=by grind [wdG,decide_eq_false]
inductive yr(x:V)(vs:List V)(H:Hp)(Q:VK):Prop
 |mk (l xs y) (_:x=.ref l) (_:vs=[y]) (_:H l=ρ (.lst xs)) (_:xs.9<sizeLine) (_:Q .non (upd H l (.lst (xs++[y]))))
inductive RA(x:V)(vs:List V)(H:Hp)(Q:VK):Prop
 |mk (l xs y) (_:x=.ref l) (_:vs=[]) (_:H l=ρ (.lst xs)) (_:xs[xs.9-1]?=ρ y) (_:Q y (upd H l (.lst xs.dropLast)))
inductive RB(x y:V)(H:Hp)(Q:VK):Prop
 |mk (l b xs zs) (_:x=.ref l) (_:y=.ref b) (_:H l=ρ (.lst xs)) (_:H b=ρ (.lst zs)) (_:xs.9+zs.9<=sizeLine) (_:∀p,H p=τ->Q (.ref p) (upd H p (.lst (xs++zs))))
inductive RC(x y:V)(H:Hp)(Q:VK):Prop
 |mk (l k xs) (_:x=.ref l) (_:y=.int k) (_:H l=ρ (.lst xs)) (_:-(2^63)<=k) (_:k<2^63) (_:xs.9*k.toNat<=sizeLine) (_:∀p,H p=τ->Q (.ref p) (upd H p (.lst (Ú k.toNat xs).flatten)))
theorem Jq{α:Type}(xs:List α)(k:Nat):(Ú k xs).flatten.9=k*xs.9:=by simp_all [ž,Ž,Ò,wgE,wfj]
theorem tW(r:RelV (kV k) u):(bp P w).is k u=true:=by grind [RelV,kV,bp,zq,zr]
theorem xf:∀{g:List Key} {us:List Value},Vals (g.map kV) us->ItemsAre (bp P w) g us
 |[],_,r=>by rw[Ů]at r;cases r;exact .nil
 |k::g,_,r=>by
  rw[Í]at r
  cases r with
  |cons h t=>exact .cons (tW h) (xf t)
abbrev KT(H:Hp):List (List Key×V)->List (List Key×Addr×Value)->Prop:=Paired λp q=>p.1=q.1/\H q.2.1=ρ (.tup (p.1.map kV))/\RelV p.2 q.2.2
def OB(i:Expr):Prop:=∀ov iv,wfJ i false ov iv=operate [ov,iv] (getItem ov iv)
theorem Jr{prog:É}{w:World}{A:Around}{E:Value->Shared->Prop}{s:Shared}{env:Env}{value slice:Expr}{pos:Pos}{T id:String}{Q:Value->Shared->Prop}
 (hl:Ζ (.type T) "__getitem__"=pure (ρ (.builtin id))) (l:OB slice)
 (h:wpAny (model prog w) A (eval value env) (λo j=>wpAny (model prog w) A (eval slice env) (λi g=>g.TypeIs o T/\wpAny (model prog w) A (getItem o i) Q E g) E j) E s) :
 wpAny (model prog w) A (eval (.Subscript value slice pos) env) Q E s:=by
 refine wga (ß h (λo j c=>ß c (λi g a=>?_) λ_ _ x=>x) λ_ _ x=>x)
 let{e,a}:=a
 unfold wgn;refine Â ?_;rw[getitemInPython_of_ne e.not_modules];refine Â (wpAny_specialOf e hl ?_)
 have fin:wpAny (model prog w) A (wfJ slice false o i) (λr b=>wpAny (model prog w) A (letTemporaryGo value o r >>= λ_=>pure r) Q E b) E g:=by
  rw[l o i];exact wpAny_operating (ß a (λr b d=>Â (wpAny_letTemporaryGo (Ë d))) λ_ _ x=>x)
 first
  |exact Ë (Â fin)
  |exact Â (Ë (Â fin))
  |exact Â fin
def LR:TE:=λ_ H Q=>∀p,H p=τ->Q (.ref p) (upd H p (.dK []))
def Bc:List (TE×TE)->St->Hp->(List (V×V)->Hp->Prop)->Prop
 |[],_,H,Q=>Q [] H
 |(tk,tv)::r,σ,H,Q=>tk σ H λx H1=>tv σ H1 λy H2=>Bc r σ H2 λps H3=>Q ((x,y)::ps) H3
abbrev VV:List (V×V)->List (Value×Value)->Prop:=Paired λp q=>RelV p.1 q.1/\RelV p.2 q.2
def RD(H:Hp)(a:Addr):Prop:=(∃kvs,Rd H a (.dK kvs))\/∃kvs,Rd H a (.dT kvs)
theorem xg:∀{vs:List Value} {ns:List Int},IntsAre vs ns->Vals (ns.map V.int) vs
 |_,_,.nil=>.nil
 |_,_,.cons n t h=>.cons ⟨t,rfl⟩ (xg h)
def Only(H:Hp):Prop:=∀b,H b=τ\/∃o xs,H b=ρ (.frz o (.lst xs))
noncomputable abbrev Z4{K:À}{h:Heap}(_:K.In h):À:=K
noncomputable def cV(s:Stmt):Arguments:=match s with
 |.FunctionDef _ a _ _ _ _ _ _ _ _=>a
 |_=>{posonlyargs:=[],args:=[],vararg:=τ,kwonlyargs:=[],kw_defaults:=[],kwarg:=τ,defaults:=[]}
noncomputable def ck(s:Stmt):List Stmt:=match s with
 |.FunctionDef _ _ b _ _ _ _ _ _ _=>b
 |_=>[]
noncomputable def ax(s:Stmt):ý:=match s with
 |.FunctionDef _ _ _ _ _ _ sc _ _ _=>sc
 |_=>{kind:=.function,names:=[],isGenerator:=false,isCoroutine:=false}
noncomputable abbrev cz:FL:=λ_ _ _ _ _ _=>False
abbrev E0:XK:=λ_ _ _=>False
structure zo(K:À)(x qual:Str)(st:Stmt)(f:Addr)(fd:î):Prop where
 ex:∃(oc:Value) (od:Option Addr) (kV doc pm:Value) (an:Option Addr) (gG ct:Value) (FY:Array (Option Value)),
  fd=Į x qual (cV st) (ck st) (ax st) .none kV doc pm an gG ct/\K.lookup f=ρ {oc,od,.func fd,FY}/\wdV K gG qual=true
 kp:š K (.ref f)=true
theorem bY(h:n<=1000):n<sizeLine:=ĺ h ⋯
theorem aA{A B:Prop}(h:B):if false=true then A else B:=by
 grind
theorem b6{A B:Prop}(h:A):if true=true then A else B:=by
 grind
theorem yt{c A B:Prop}[Decidable c](g:c->A)(j:¬c->B):if c then A else B:=by
 by_cases h:c
 .rw[if_pos h];exact g h
 .rw[if_neg h];exact j h
def a7(H H':Hp):Prop:=∀b o,H b=ρ o->H' b=ρ o
theorem a7.trans(a:a7 H g)(b:a7 g j):a7 H j:=λc o h=>b c o (a c o h)
theorem a7.free(e:a7 H H')(h:H' l=Option.none):H l=Option.none:=by
 cases q:H l with
 |none=>rfl
 |some o=>
  rw[e l o q]at h;cases h
theorem a7.seq{K:À}{H H':Hp}{a:Addr}{xs:List V}(e:a7 H H')(h:aL K H a xs):aL K H' a xs:=by
 rcases h with(h |⟨o,h⟩) |h
 .exact .inl (.inl (e _ _ h))
 .exact .inl (.inr {o,e _ _ h})
 .exact .inr h
theorem a7.upd(h:H a=τ):a7 H (upd H a o):=λb u e=>by rw[a9 (ae e h)];exact e
abbrev L1(nm:String):Prop:=["enumerate","zip","dict_itemiterator","dict_reverseitemiterator","odict_iterator","itertools.zip_longest","itertools.pairwise"].contains nm=false
noncomputable def cD(z:Str):List V:=z.cps.toList.map λc=>V.str {#[c]}
def LU(scope:ý)(env:Env):Prop:=∀y∈scope.names,y.2=.free->env.kindOf y.1=ρ .cell\/env.kindOf y.1=ρ .free
def tX:TT:=λ_ H Q=>Q true H
def OC{α:Type}:Nat->(List α->Prop)->Prop
 |0,P=>P []
 |n+1,P=>∀a,OC n λus=>P (a::us)
noncomputable def pick(σ:St)(ix:List Nat):St:=ix.map λi=>(σ[i]?).join
theorem Bd:∀{us:List Value},Vals (ns.map V.str) us->StrsAre us ns:=by
 induction ns with
 |nil=>intro us r;rw[Ů]at r;cases r;exact .nil
 |cons n ns a=>
  intro us r;rw[Í]at r
  cases r with
  |cons b c=>
   let{t,e}:=b
   subst e;exact .cons n t (a c)
theorem xh:∀{vs:List Value} {ns:List Str},StrsAre vs ns->Vals (ns.map V.str) vs
 |_,_,.nil=>.nil
 |_,_,.cons n t h=>.cons ⟨t,rfl⟩ (xh h)
noncomputable def oM(v d:Addr):HO:=.ext λh=>h.IsValuesView v d
theorem DU{b e i:Addr}(h:b∉[e,i]):b≠e/\b≠i:=by simpa using h
theorem OD{e i n:Nat}(h:e<n)(h':i<n):∀b∈[e,i],b<n:=by simp[h,h']
theorem kd:ì "enumerate"=ρ (.type "enumerate"):=∅
theorem sub_str_set:isSubtype (.type "str") (.type "set")=pure false:=by rw[isSubtype_type];kernel_rfl
theorem sub_str_frozenset:isSubtype (.type "str") (.type "frozenset")=pure false:=by rw[isSubtype_type];kernel_rfl
theorem L4(P:É)(w:World)(x:Str)(t:Tok):(ę P w).is x (.str x t)=true:=by simp[ę,wgl]
noncomputable def Js(P:É)(w:World)(a:Addr)(n:Nat):HO:=.ext λh=>∃S,h.SetOf (ę P w) a S n
structure FnAt(K:À)(mg:Str->Option Value)(nm:Str)(st:Stmt)(ps:List Str)(f:Addr)(fd:î):Prop where
 F:zo K nm nm st f fd
 b:Binds K fd ps []
 g:mg nm=ρ (.ref f)
theorem DV{c A B:Prop}[Decidable c](h:¬c)(b:B):if c then A else B:=by
 rw[if_neg h];exact b
theorem OG{c A B:Prop}[Decidable c](h:c)(a:A):if c then A else B:=by
 rw[if_pos h];exact a
theorem ak(h:n<=1000000):n<=sizeLine:=Õ h (by rw[Ę];decide)
theorem eZ(ps:List Str):(ps.map V.str).all du=true:=by
 rw[Χ];exact í.mpr λ_ _=>rfl
noncomputable def cn(mv:List (Str×Addr)):List (Key×V):=mv.map λm=>((Ã m.1:Key),V.ref m.2)
theorem gW(mv:List (Str×Addr)):((cn mv).map λg=>kV g.1)=(mv.map (·.1)).map V.str:=by
 unfold cn;rw[Ì,Ì];rfl
theorem D2{R:Str->Prop}:∀{ys:List V},(∀y∈ys,∃t,y=.str t/\R t)->∃ts:List Str,ys=ts.map V.str/\∀t∈ts,R t
 |[],_=>{[],rfl,λ_ h=>nomatch h}
 |y::ys,h=>by
  let{t,rfl,c}:=h y (Ù ..)
  let{ts,rfl,a}:=D2 (R:=R) (ys:=ys) λy d=>h y (Ø _ d)
  refine{t::ts,rfl,λu b=>?_};rcases Þ.mp b with rfl |b
  .exact c
  .exact a u b
structure DW(lo:Nat)(H:Hp)(h:Heap)(e C:Addr)(od:Option Addr):Prop where
 ge:lo<=e
 nt:H e=τ
 ob:∃vs sl,h.get? e=ρ {.ref C,od,.fields vs,sl}/\1<vs.size /\
  (vs[1]?=ρ .none\/∃T oT ts,vs[1]?=ρ (.ref T)/\lo<=T/\H T=τ/\T≠e/\h.get? T=ρ oT/\oT.data=.fields ts/\ts[3]?=ρ .none)
noncomputable abbrev D3(C d t:Addr):Obj:={cls:=.ref C,dict:=ρ d,data:=.fields #[.ref t,.none,.none,.none,.bool false,.none]}
noncomputable def XD(x C d:Addr):HO:=.ext λh=>∃t,h.get? x=ρ (D3 C d t)
theorem LV(h:H x=ρ o):upd H x o=H:=by
 funext b;delta upd;split
 .rename_i e;rw[e,h]
 .rfl
noncomputable def del(H:Hp)(x:Addr):Hp:=λb=>if b=x then τ else H b
theorem fi:del H x x=τ:=if_pos rfl
theorem gp(h:b≠x):del H x b=H b:=if_neg h
theorem D4(h:H x=τ):del (upd H x o) x=H:=by
 funext b
 by_cases e:b=x
 .rw[e,fi,h]
 .rw[gp e,a9 e]
theorem Be(h:d≠x):del (upd H d o) x=upd (del H x) d o:=by
 funext b
 by_cases e:b=x
 .subst e;rw[fi,a9 (Ü h),fi]
 .rw[gp e]
  by_cases a:b=d
  .subst a;rw[a6,a6]
  .rw[a9 a,a9 a,gp e]
theorem yu:del (upd H x o) x=del H x:=by
 funext b
 by_cases e:b=x
 .rw[e,fi,fi]
 .rw[gp e,gp e,a9 e]
noncomputable abbrev TJ:=Str->St->Hp->(Str->Hp->Prop)->Prop
noncomputable abbrev Jt:=XK->TE
noncomputable abbrev Cx.marked(X:Cx)(e:Addr):Cx:={X with A:=X.A.mark (ρ (.ref e)),calm:=false}
noncomputable def XC(x C:Addr)(od:Option Addr):HO:=.ext λh=>∃vs sl,h.get? x=ρ ⟨.ref C,od,.fields vs,sl⟩
theorem o7:∀{ns:List Int} {g:List Value},Vals (ns.map V.int) g->∃xs:List (Int×Tok),g=xs.map (λp=>Θ p.1 p.2)/\xs.map (·.1)=ns
 |[],g,r=>by cases r;exact{[],rfl,rfl}
 |n::ns,g,r=>by
  cases r with
  |cons h t=>
   let{a,rfl}:=h
   let{xs,rfl,e}:=o7 t
   exact{(n,a)::xs,rfl,by rw[Í,e]}
noncomputable def Bf(v:V):Bool:=!decide (v=.non)
noncomputable def W9:Ot:=λx y H Q=>∃i j,x=.int i/\y=.int j/\DT i j/\Q (.int (i*j)) H
noncomputable def nc(q:V×V):List V:=[q.1,q.2]
noncomputable def tY(kvs:List (Key×V)):Bool:=kvs.all λkv=>du kv.2
set_option genInjectivity true in
inductive kS where
 |at (v:V)
 |tup (ds:List kS)
 |lst (ds:List kS)
noncomputable def LW:V->Bool
 |.non=>true
 |.bl _=>true
 |.int _=>true
 |.str _=>true
 |_=>false
mutual
def bQ(K:À)(H:Hp):kS->V->Prop
 |.at x,v=>v=x/\LW x=true
 |.tup ds,v=>∃a xs,v=.ref a/\H a=ρ (.tup xs)/\cF K H ds xs
 |.lst ds,v=>∃a xs,v=.ref a/\Rd H a (.lst xs)/\cF K H ds xs
def cF(K:À)(H:Hp):List kS->List V->Prop
 |[],xs=>xs=[]
 |d::ds,xs=>∃v vs,xs=v::vs/\bQ K H d v/\cF K H ds vs
end
noncomputable def L5(q:Str×Str):kS:=.tup [.at (.str q.1),.at (.str q.2)]
theorem D5(s:a7 H H')(h:Rd H a o):Rd H' a o:=by
 rcases h with e |⟨z,e⟩
 .exact .inl (s _ _ e)
 .exact .inr {z,s _ _ e}
theorem a7.RE{K:À}{H H':Hp}{a:Addr}{xs:List V}(s:a7 H H')(h:gF K H a xs):gF K H' a xs:=by
 rcases h with e |e
 .exact .inl (D5 s e)
 .exact .inr e
noncomputable def aH(H H':Hp):Hp:=λa=>match H a with
 |none=>H' a
 |some _=>τ
theorem dP(H H':Hp):a7 (aH H H') H':=λa o e=>by
 grind [aH]
theorem cG(h:H a=τ)(e:H' a=ρ o):aH H H' a=ρ o:=by
 unfold aH;rw[h];exact e
noncomputable def fj(H:Hp)(x:Addr):Hp:=λd=>if d=x then τ else H d
theorem fk(h:H d=ρ o)(hd:d≠x):fj H x d=ρ o:=by
 unfold fj;rw[if_neg hd];exact h
theorem yv{K:À}{H:Hp}{x C g:Addr}{fs:List (Str×V)}(j:H x=ρ (.ins C g fs)){d:Addr}{ys:List V}(h:aL K H d ys):aL K (fj H x) d ys:=by
 rcases h with(e |⟨o,e⟩) |e
 .exact .inl (.inl (fk e λz=>by grind))
 .exact .inl (.inr {o,fk e λz=>by grind})
 .exact .inr e
theorem xi{K:À}{H:Hp}{d:kS}{v:V}:∀{g:List kS} {xs:List V},cF K H g xs->bQ K H d v->cF K H (g++[d]) (xs++[v])
 |[],xs,h,r=>by
  have e:xs=[]:=h;subst e;exact{v,[],rfl,r,rfl}
 |c::g,_,h,r=>by
  let{v0,a,rfl,b,hl}:=h
  exact{v0,a++[v],rfl,b,xi hl r}
theorem qy(ns:List Int):(ns.map V.int).all du=true:=í.mpr λv a=>by
 let{i,1}:=Å.mp a
 rfl
set_option genInjectivity true in
inductive Lt where
 |fl (v:V)
 |ls (vs:List V)
 |tp (vs:List V)
 deriving DecidableEq
noncomputable def D6(a:Addr):List (Str×V):=[("writer",.ref a)]
noncomputable def Ju(a b:Addr):List (Str×V):=[("writer",.ref a),("pairs",.ref b)]
theorem L6(a:Addr):bV "writer" (.ref a) []=D6 a:=rfl
theorem L7(a b:Addr):bV "pairs" (.ref b) (D6 a)=Ju a b:=by
 show (if ("writer":Str)="pairs" then _ else(("writer":Str),V.ref a)::bV "pairs" (.ref b) [])=_;rw[if_neg ∅];rfl
section
variable{X:Cx}{a b:Expr}{ta tb:TE}
def Gl(X:Cx)(x:Str):Prop:=X.env.kindOf x=ρ .globalImplicit
theorem FZ(b:Expr)(h:op≠.In)(g:op≠.NotIn):ũ op b=false:=by
 have a:(op==CmpOp.In)=false:=by grind
 have c:(op==CmpOp.NotIn)=false:=by grind
 cases b<;>simp[ũ,a,c]
def OH(ta tb:TE):TE:=λσ H Q=>ta σ H λx H1=>∃c,x=.bl c/\if c=true then tb σ H1 Q else Q (.bl false) H1
def OI(ta:TE):TE:=λσ H Q=>ta σ H λx H1=>∃c,x=.bl c/\Q (.bl (!c)) H1
def Wa(t:TT)(ta tb:TE):TE:=λσ H Q=>t σ H λc H1=>if c=true then ta σ H1 Q else tb σ H1 Q
theorem bH(b:Expr)(h:op≠.In:=by decide)(g:op≠.NotIn:=by decide):ũ op b=false:=by
 have a:(op==CmpOp.In)=false:=by grind
 have c:(op==CmpOp.NotIn)=false:=by grind
 cases b<;>simp[ũ,a,c]
noncomputable def qz:V->V->Bool
 |.non,.non=>true
 |.bl a,.bl b=>a==b
 |.bl a,.int b=>(if a then 1 else 0)==b
 |.int a,.bl b=>a==(if b then 1 else 0)
 |.int a,.int b=>a==b
 |.str a,.str b=>a==b
 |_,_=>false
theorem Bg(j:RelV y u)(g:RelV x v)(p:du y=true)(l:du x=true):SeqAt.EqAt A s u v (qz y x):=by
 cases y with
 |non=>
  cases j
  cases x with
  |non=>cases g;exact wfE _
  |bl b=>cases g;exact SeqAt.EqAt.none_bool b
  |int b=>let{t,rfl}:=g;exact SeqAt.EqAt.none_int b t
  |str b=>let{t,rfl}:=g;exact SeqAt.EqAt.none_str b t
  |_=>exact absurd (show false=true from l) Ý
 |bl a=>
  cases j
  cases x with
  |non=>cases g;exact SeqAt.EqAt.bool_none a
  |bl b=>cases g;exact wfx a b
  |int b=>let{t,rfl}:=g;exact SeqAt.EqAt.bool_int a b t
  |str b=>let{t,rfl}:=g;exact SeqAt.EqAt.bool_str a b t
  |_=>exact absurd (show false=true from l) Ý
 |int a=>
  let{c,rfl}:=j
  cases x with
  |non=>cases g;exact SeqAt.EqAt.int_none a c
  |bl b=>cases g;exact SeqAt.EqAt.int_bool a c b
  |int b=>let{t,rfl}:=g;exact wfW a c b t
  |str b=>let{t,rfl}:=g;exact wgA a c b t
  |_=>exact absurd (show false=true from l) Ý
 |str a=>
  let{c,rfl}:=j
  cases x with
  |non=>cases g;exact SeqAt.EqAt.str_none a c
  |bl b=>cases g;exact SeqAt.EqAt.str_bool a c b
  |int b=>let{t,rfl}:=g;exact wgB a c b t
  |str b=>let{t,rfl}:=g;exact wfX a c b t
  |_=>exact absurd (show false=true from l) Ý
 |_=>exact absurd (show false=true from p) Ý
noncomputable def Bh(x:V)(u:Value):Bool:=match u with
 |.none=>qz .non x
 |.bool b=>qz (.bl b) x
 |.int i _=>qz (.int i) x
 |.str z _=>qz (.str z) x
 |_=>false
theorem G0(r:RelV y u)(f:du y=true):Bh x u=qz y x:=by
 cases y with
 |non=>cases r;rfl
 |bl b=>cases r;rfl
 |int i=>let{t,rfl}:=r;rfl
 |str z=>let{t,rfl}:=r;rfl
 |_=>exact absurd (show false=true from f) Ý
theorem kW(g:RelV x v)(j:du x=true):∀{xs:List V} {us:List Value},Vals xs us->xs.all du=true->∀u∈us,SeqAt.EqAt A s u v (Bh x u)
 |_,_,.nil,_=>λu a=>by cases a
 |y::xs,u::us,.cons r t,f=>λb a=>by
  rw[weW,ś]at f;rcases Þ.mp a with rfl |a
  .rw[G0 r f.1];exact Bg r g f.1 j
  .exact kW g j t f.2 b a
noncomputable def tZ:List V->List V->Bool
 |[],[]=>true
 |x::xs,y::ys=>qz x y&&tZ xs ys
 |_,_=>false
end
section
variable{κ:Type}[DecidableEq κ]
noncomputable def bD(kvs:List (κ×V))(k:κ):Option V:=(kvs.find? λkv=>decide (kv.1=k)).map (·.2)
theorem cf{p:κ×V}{r:List (κ×V)}{k:κ}(e:p.1=k):bD (p::r) k=ρ p.2:=by simp[bD,μ,e]
theorem cg{p:κ×V}{r:List (κ×V)}{k:κ}(e:¬p.1=k):bD (p::r) k=bD r k:=by simp[bD,μ,e]
theorem zv(k j:κ)(y:V):∀kvs:List (κ×V),bD (kvs.map λg=>if g.1=k then(g.1,y) else g) j=(bD kvs j).map λx=>if j=k then y else x
 |[]=>rfl
 |p::r=>by
  have a:=zv k j y r;rw[Í]
  by_cases h:p.1=k
  .rw[if_pos h]
   by_cases e:p.1=j
   .rw[cf (p:=(p.1,y)) e,cf e,weq,if_pos (e.symm.trans h)]
   .rw[cg (p:=(p.1,y)) e,cg e,a]
  .rw[if_neg h]
   by_cases e:p.1=j
   .rw[cf (p:=p) e,cf e,weq,if_neg (λz=>h (e.trans z))]
   .rw[cg (p:=p) e,cg e,a]
theorem xj(k j:κ)(y:V):∀kvs:List (κ×V),bD kvs k=τ->bD (kvs++[(k,y)]) j=if j=k then ρ y else bD kvs j
 |[],_=>by
  by_cases e:k=j
  .rw[if_pos e.symm];exact cf (p:=(k,y)) e
  .rw[if_neg (λz=>e z.symm)];exact cg (p:=(k,y)) e
 |p::r,hn=>by
  rw[whd];have hk:¬p.1=k:=λz=>by rw[cf z]at hn;cases hn
  rw[cg hk]at hn;have a:=xj k j y r hn
  by_cases e:p.1=j
  .rw[cf e,cf e,if_neg (λz=>hk (e.trans z))]
  .rw[cg e,cg e,a]
theorem j0.qA(r:j0 o u):o.isSome=u.isSome:=by
 cases o with
 |none=>cases u with
  |none=>rfl
  |some _=>exact(show False from r).elim
 |some _=>cases u with
  |none=>exact(show False from r).elim
  |some _=>rfl
theorem j0.getD(r:j0 o u)(rd:RelV d d'):RelV (o.getD d) (u.getD d'):=by
 cases o with
 |none=>cases u with
  |none=>exact rd
  |some _=>exact(show False from r).elim
 |some _=>cases u with
  |none=>exact(show False from r).elim
  |some _=>exact r
theorem KV.val{kvs:List (κ×V)}{vs:List (κ×Value)}(r:KV kvs vs)(k:κ):j0 (bD kvs k) (valueAt vs k):=by
 unfold KV at r
 induction r with
 |nil=>exact Ā
 |@cons p q ps a h t f=>
  let{d,g}:=h
  by_cases e:p.1=k
  .have c:q.1=k:=d.symm.trans e;have b:valueAt (q::a) k=ρ q.2:=by simp[valueAt,μ,c]
   rw[cf e,b];exact g
  .have c:¬q.1=k:=λz=>e (d.trans z);have b:valueAt (q::a) k=valueAt a k:=by simp[valueAt,μ,c]
   rw[cg e,b];exact f
theorem KV.repl(r:KV kvs vs)(k:κ)(j:RelV y u) :
 KV (kvs.map λg=>if g.1=k then(g.1,y) else g) (vs.map λg=>if g.1=k then(g.1,u) else g):=by
 unfold KV at r ⊢
 induction r with
 |nil=>exact .nil
 |@cons p q ps d h t b=>
  rw[Í,Í];refine .cons ?_ b
  let{a,c}:=h
  by_cases e:p.1=k
  .rw[if_pos e,if_pos (a.symm.trans e)];exact⟨a,j⟩
  .rw[if_neg e,if_neg (λz=>e (a.trans z))];exact⟨a,c⟩
theorem KV.keys{kvs:List (κ×V)}{vs:List (κ×Value)}(r:KV kvs vs):kvs.map (·.1)=vs.map (·.1):=by
 unfold KV at r
 induction r with
 |nil=>rfl
 |cons h t a=>grind
theorem KV.length{kvs:List (κ×V)}{vs:List (κ×Value)}(r:KV kvs vs):kvs.9=vs.9:=wgm r
end
section
variable{t:TA}{t2:TE}
def RF(t:TA):TE:=λσ H Q=>t σ H λxs H1=>W6 xs H1 Q
def RG(t:TA):TE:=λσ H Q=>t σ H λxs H1=>W7 xs H1 Q
theorem KT.val{H:Hp}{kvs:List (List Key×V)}{xs:List (List Key×Addr×Value)}(r:KT H kvs xs)(k:List Key):j0 (bD kvs k) ((atKey xs k).map (·.2)):=by
 induction r with
 |nil=>exact Ā
 |@cons p q ps a h t f=>
  let{d,_,g}:=h
  by_cases e:p.1=k
  .have c:q.1=k:=d.symm.trans e;have b:atKey (q::a) k=ρ q.2:=by simp[atKey,μ,c]
   rw[cf e,b];exact g
  .have c:¬q.1=k:=λz=>e (d.trans z);have b:atKey (q::a) k=atKey a k:=by simp[atKey,μ,c]
   rw[cg e,b];exact f
theorem KT.repl(r:KT H kvs xs)(k:List Key)(j:RelV y u) :
 KT H (kvs.map λg=>if g.1=k then(g.1,y) else g) (xs.map (putAt k u)):=by
 induction r with
 |nil=>exact .nil
 |@cons p q ps f h t c=>
  rw[Í,Í];refine .cons ?_ c
  let{a,b,d}:=h
  unfold putAt
  by_cases e:p.1=k
  .rw[if_pos e,if_pos (a.symm.trans e)];exact⟨a,b,j⟩
  .rw[if_neg e,if_neg (λz=>e (a.trans z))];exact⟨a,b,d⟩
def eQ(H:Hp)(a:Addr)(y:V)(r:Option V):Prop:=
 (∃kvs k,Rd H a (.dK kvs)/\y=kV k/\r=bD kvs k)\/∃kvs k b,Rd H a (.dT kvs)/\y=.ref b/\H b=ρ (.tup (k.map kV))/\r=bD kvs k
theorem eQ.k{H:Hp}{a:Addr}{kvs:List (Key×V)}{k:Key}(e:H a=ρ (.dK kvs)):eQ H a (kV k) (bD kvs k):=.inl {kvs,k,.inl e,rfl,rfl}
def OJ(td ty:TE):TE:=λσ H Q=>td σ H λx H1=>ty σ H1 λy H2=>∃a v,x=.ref a/\eQ H2 a y (ρ v)/\Q v H2
def Jv(ty td:TE):TE:=λσ H Q=>ty σ H λy H1=>td σ H1 λx H2=>∃a o,x=.ref a/\eQ H2 a y o/\Q (.bl (!o.isSome)) H2
structure M1(X:Cx)(o:Expr)(m:Str)(apos:Pos)(e:Expr)(ez:Pos):Prop where
 base:ĩ o m X.env (eval o X.5)=eval o X.5
 few:((backTo ez (starEach [e] X.5)).all (λx=>!x.1)&&(backToKw ez (Ĝ [] X.5)).all (λx=>x.1.isSome)
  && decide (([e]:List Expr).length+([]:List ĭ).9+(if ([]:List ĭ).isEmpty then 0 else 1)<30))=true
 line:(apos.endLine==ez.line)=true
 trees:backTo ez (starEach [e] X.5)=[(false,eval e X.5)]
structure M2(X:Cx)(o:Expr)(m:Str)(apos:Pos)(e f:Expr)(ez:Pos):Prop where
 base:ĩ o m X.env (eval o X.5)=eval o X.5
 few:((backTo ez (starEach [e,f] X.5)).all (λx=>!x.1)&&(backToKw ez (Ĝ [] X.5)).all (λx=>x.1.isSome)
  && decide (([e,f]:List Expr).length+([]:List ĭ).9+(if ([]:List ĭ).isEmpty then 0 else 1)<30))=true
 line:(apos.endLine==ez.line)=true
 trees:backTo ez (starEach [e,f] X.5)=[(false,eval e X.5),(false,eval f X.5)]
def LX(td ty tx:TE):TE:=λσ H Q=>td σ H λx H1=>∃a,x=.ref a/\RD H1 a/\ty σ H1 λy H2=>tx σ H2 λz H3=>∃o,eQ H3 a y o/\Q (o.getD z) H3
noncomputable def inClass(s:Stmt)(j:Nat):Stmt:=match s with
 |.ClassDef _ _ _ body _ _ _ _ _ _ _=>body.getD j (.Pass ⟨0,0,0,0⟩)
 |_=>.Pass ⟨0,0,0,0⟩
structure kX(J:It)(Ok:Hp->Prop)(xs:List V):Prop where
 go:∀i H,Ok H->i<xs.9->J.go i H
 we:∀i H x H',Ok H->i<xs.9->J.we i H x H'->H'=H/\xs[i]?=ρ x
 stop:∀H,Ok H->J.stop xs.length H
theorem aU(K:À)(a:Addr)(xs:List V):kX (O4 K a) (λH=>aL K H a xs) xs:=
 {λi H q hi=>{xs,xs[i],q,by simp[hi]},λi H x b q _ y=>{y.1,y.2 xs q},λH q=>{xs,q,Ç _}}
noncomputable def QR(n:Nat)(val:Nat->V):It:={λi _=>i<n,λi H x H'=>H'=H/\x=val i,λi _=>n<=i}
theorem LY{val:Nat->V}(hn:xs.9=n)(g:∀i x,xs[i]?=ρ x->val i=x):kX (QR n val) (λ_=>True) xs:=by
 subst hn;refine{λi H _ hi=>hi,λi H x a _ hi y=>{y.1,?_},λH _=>Ç _};have e:xs[i]?=ρ xs[i]:=by simp[hi]
 rw[e,y.2,g i _ e]
theorem o8(lo:Int)(n:Nat):kX (KW lo n) (λ_=>True) ((ð n).map λi=>V.int (lo+(i:Nat))):=by
 refine{λi H _ hi=>(show i<n by simpa using hi),λi H x b _ hi y=>{y.1,?_},λH _=>?_}
 .have a:i<n:=by simpa using hi
  rw[y.2];simp[a]
 .show n<=_;simp
noncomputable def xk(z:Str)(i:Nat):V:=.str {#[z.cps.getD i 0]}
theorem j1(z:Str):kX (QR z.cps.size (xk z)) (λ_=>True) (cD z):=by simp_all [LY,cD,Ê,Î,Ź,xk,wcz]
def OM(tl:TE):TI:=λσ H R=>tl σ H λx H1=>∃z,x=.str z/\R (QR z.cps.size (xk z)) H1
def ng(J:It)(l:Addr)(σf:St)(tt:TT)(te:TE)(H:Hp)(Q:Hp->Prop):Prop:=
 ∃W:Nat->Nat->List V->Hp->Prop,(∃m,W 0 m [] (upd H l (.lst [])))/\∀i m ys H2,W i m ys H2->H2 l=ρ (.lst ys) /\
  ((J.stop i H2/\Q H2)\/(J.go i H2/\ys.9<sizeLine/\∀x H3,J.we i H2 x H3->tt (ρ x::σf) H3 λb H4=>
    if b=true then te (ρ x::σf) H4 λy H5=>H5 l=ρ (.lst ys)/\∃m',m'<m/\W (i+1) m' (ys++[y]) (upd H5 l (.lst (ys++[y])))
    else ∃m',m'<m/\W (i+1) m' ys H4))
def xm(g:TG)(n:Nat)(J:It)(l:Addr)(σf:St)(tt:TT)(te:TE)(H:Hp)(Q:Hp->Prop):Prop:=
 ∃W:Nat->Nat->List V->Hp->Prop,(∃m,W 0 m [] (upd H l (.lst [])))/\∀i m ys H2,W i m ys H2->H2 l=ρ (.lst ys) /\
  ((J.stop i H2/\Q H2)\/(J.go i H2/\ys.9<sizeLine/\∀x H3 vs,vs.9=n->J.we i H2 x H3->g x (vs++σf) H3 λσ' H'=>(∃OO,OO.length=n/\σ'=OO++σf)/\tt σ' H' λb H4=>
    if b=true then te σ' H4 λy H5=>H5 l=ρ (.lst ys)/\∃m',m'<m/\W (i+1) m' (ys++[y]) (upd H5 l (.lst (ys++[y])))
    else ∃m',m'<m/\W (i+1) m' ys H4))
theorem Bi{α:Type}:∀n P,OC n P->∀us:List α,us.9=n->P us
 |0,_,h,[],_=>h
 |n+1,_,h,a::us,e=>Bi n _ (h a) us (Nat.succ.inj e)
def L8(wi:TI)(ix:List Nat)(tt:TT)(te:TE):TE:=λσ H Q=>wi σ H λJ H1=>∀l,H1 l=τ->ng J l (pick σ ix) tt te H1 (λH2=>Q (.ref l) H2)
structure bZ(X:Cx)(scope:ý)(x:Str)(ys:List Str)(ix:List Nat):Prop where
 kind:scope.kind=.function
 G1:∀y∈scope.names,y.2≠.cell
 names:∀y∈scope.names,y.2=.local->scope.names.lookup y.1=ρ .local
 var:scope.names.lookup x=ρ .local
 free:LU scope X.5
 nd:(x::ys).Nodup
 len:ix.9=ys.9
 slots:∀(j:Nat) (y:Str),ys[j]?=ρ y->∃i:Nat,ix[j]?=ρ i/\X.N[i]?=ρ y/\(X.env.scope.names.lookup y=ρ .cell\/X.env.scope.names.lookup y=ρ .free)/\scope.names.lookup y=ρ .free
theorem G2(h:xs.length≠ys.9):tZ xs ys=false:=by
 induction xs generalizing ys with
 |nil=>cases ys with
  |nil=>exact absurd rfl h
  |cons _ _=>rfl
 |cons x xs a=>cases ys with
  |nil=>rfl
  |cons y ys=>
   show (qz x y&&tZ xs ys)=false;rw[a (by simpa using h),Φ]
theorem u0:∀{xs ys:List V},xs.9=ys.9->tZ xs ys=(ð xs.9).all λj=>qz (xs.getD j .non) (ys.getD j .non)
 |[],[],_=>rfl
 |[],_::_,h=>by simp at h
 |_::_,[],h=>by simp at h
 |x::xs,y::ys,h=>by
  show (qz x y&&tZ xs ys)=_;rw[å,List.range_succ_eq_map,weW,Χ,u0 (by simpa using h)];rfl
inductive RH(K:À)(x y:V)(H:Hp)(Q:VK):Prop
 |mk (a b xs ys) (_:x=.ref a) (_:y=.ref b) (_:aL K H a xs) (_:aL K H b ys) (_:xs.all du=true) (_:ys.all du=true) (_:Q (.bl (tZ xs ys)) H)
noncomputable def OQ(K:À)(a:Addr):It:=
 {λi H=>∃xs x,aL K H a xs/\xs[i]?=ρ x,λi H x H'=>∃T xv,H T=τ/\x=.ref T/\H'=upd H T (.tup [.int (i:Nat),xv])/\∀xs,aL K H a xs->xs[i]?=ρ xv,λi H=>∃xs,aL K H a xs/\xs.9<=i}
def OS(K:À)(ta:TA):TI:=λσ H R=>ta σ H λvs H1=>∃a xs,vs=[.ref a]/\aL K H1 a xs/\R (OQ K a) H1
noncomputable def eR(x:Str)(i:Nat):Str:={#[x.cps.getD i 0]}
noncomputable def o9(sc scope:ý)(N:List Str)(x:Str)(ys:List Str)(ix:List Nat):Bool:=
 (match scope.kind with |.function=>true |_=>false) &&
 (scope.names.all λy=>!decide (y.2=.cell))&&(scope.names.all λy=>!decide (y.2=.local) ||decide (scope.names.lookup y.1=ρ .local)) &&
 (scope.names.all λy=>!decide (y.2=.free) ||decide (sc.names.lookup y.1=ρ .cell) ||decide (sc.names.lookup y.1=ρ .free)) &&
 decide (scope.names.lookup x=ρ .local)&&decide ((x::ys).Nodup)&&decide (ix.9=ys.9) &&
 ((ð ys.9).all λj=>match ys[j]?,ix[j]? with
   |some y,ρ i=>decide (N[i]?=ρ y)&&(decide (sc.names.lookup y=ρ .cell) ||decide (sc.names.lookup y=ρ .free))&&decide (scope.names.lookup y=ρ .free)
   |_,_=>false)
theorem G3{κ:Type}(f:κ->V)(g:κ->Str)(j:∀a b,g a=g b->f a=f b):∀{l:List κ} {c:κ},c∈l->bD (l.map λc=>((Ã (g c):Key),f c)) (Ã (g c):Key)=ρ (f c):=by intro a;induction a<;>grind [cf,cg,Đ]
theorem xn:∀(a b:List Str),tZ (a.map V.str) (b.map V.str)=decide (a=b)
 |[],[]=>rfl
 |[],_::_=>rfl
 |_::_,[]=>rfl
 |x::c,y::d=>by
  show ((x==y)&&tZ (c.map V.str) (d.map V.str))=_;rw[xn c d]
  by_cases e:x=y
  .subst e
   by_cases f:c=d
   .subst f;simp
   .simp[f]
  .have:(x==y)=false:=beq_eq_false_iff_ne.mpr e;rw[this];simp[e]
structure L9(K:À)(CB:Addr):Prop where
 sp:wgT K (.ref CB) "__getattribute__"=ρ (ρ (.builtin "type.__getattribute__"))
 rd:readsIn K CB (.type "type")=true
 fc:findCls K (.ref CB) (.type "type") "__init__"=ρ (.val (.builtin "ValueError.__init__"))
noncomputable def RJ:TJ:=λacc _ H Q=>acc.9<=sizeLine/\Q acc H
noncomputable def G4(z:Str):It:={λi _=>i<z.cps.size,λi H x H'=>∃T,H T=τ/\x=.ref T/\H'=upd H T (.tup [.int (i:Nat),xk z i]),λi _=>z.cps.size<=i}
def LZ(ta:TA):TI:=λσ H R=>ta σ H λvs H1=>∃z,vs=[.str z]/\R (G4 z) H1
noncomputable def Jw(d:Addr)(o:Obj)(kvs:List (Key×V)):It:={λi H=>H d=ρ (.frz o (.dK kvs))/\i<kvs.9,λi H x H'=>H'=H/\∃kv,kvs[i]?=ρ kv/\x=kV kv.1,λi H=>H d=ρ (.frz o (.dK kvs))/\kvs.9<=i}
def OT(tl:TE):TI:=λσ H R=>tl σ H λx H1=>∃d kvs,x=.ref d/\((H1 d=ρ (.dK kvs)/\∀o,R (Jw d o kvs) (upd H1 d (.frz o (.dK kvs))))\/∃o,H1 d=ρ (.frz o (.dK kvs))/\R (Jw d o kvs) H1)
def bq(H:Hp)(rs:List Addr)(Us:List (List V)):Prop:=rs.9=Us.length/\∀(i:Nat) (r:Addr) (xs:List V),rs[i]?=ρ r->Us[i]?=ρ xs->H r=ρ (.tup xs)
theorem bq.nil(H:Hp):bq H [] []:={rfl,λi r a h=>by simp at h}
def M0(tl:TE):TI:=λσ H R=>tl σ H λx H1=>∃d kvs,x=.ref d/\(H1 d=ρ (.dK kvs)\/∃o,H1 d=ρ (.frz o (.dK kvs)))/\∀o H',H' d=ρ (.frz o (.dK kvs))->(∀c,c≠d->H' c=H1 c)->R (Jw d o kvs) H'
noncomputable def hitsD(kb ka:List (Key×V)):Bool:=ka.all λkv=>match bD kb kv.1 with
 |some y=>qz kv.2 y
 |none=>false
noncomputable def RK(ka kb:List (Key×V)):Bool:=ka.9==kb.length&&hitsD kb ka
inductive RL(x y:V)(H:Hp)(Q:VK):Prop
 |mk (a b ka kb) (_:x=.ref a) (_:y=.ref b) (_:Rd H a (.dK ka)) (_:Rd H b (.dK kb)) (_:tY ka=true) (_:tY kb=true) (_:Q (.bl (RK ka kb)) H)
theorem cF.qE{K:À}{H:Hp}:∀(g:List kS) (ys:List V),g.9=ys.9->(∀(i:Nat) (d:kS) (y:V),g[i]?=ρ d->ys[i]?=ρ y->bQ K H d y)->cF K H g ys
 |[],[],_,_=>rfl
 |[],_::_,h,_=>by simp at h
 |_::_,[],h,_=>by simp at h
 |d::g,y::ys,h,r=>{y,ys,rfl,r 0 d y rfl rfl,cF.qE g ys (by simpa using h) λi a b c e=>r (i+1) a b c e}
def OU(K:À)(t:TA)(t2:TE):TE:=λσ H Q=>t σ H λvs H1=>t2 σ H1 λy H2=>∃a ns d,vs=[.ref a]/\y=.int d/\aL K H2 a (đ V.int ns)/\(ns=[]->Q (.int d) H2)/\(∀M,M∈ns->(∀a∈ns,a<=M)->Q (.int M) H2)
end
section
variable{fs ex:List Addr}{H H1:Hp}{h h1:Heap}
theorem Un.any(u:Un fs ex H H1 h h1){b:Addr}{ob:Obj}(q:h.get? b=ρ ob)(n:H b=τ)(g:b∉ex):∃j,h1.get? b=ρ {ob with slots:=j}:=by
 by_cases a:b∈fs
 .exact u.slot b ob q n a g
 .exact{ob.slots,u.keep b ob q n a g}
theorem oN:∀{xs:List V} {us:List Value},Vals xs us->xs.all du=true->us.any (Bh x)=xs.any λy=>qz y x
 |_,_,.nil,_=>rfl
 |y::xs,u::us,.cons r t,f=>by
  rw[weW,ś]at f;rw[Ŏ,Ŏ,G0 r f.1,oN t f.2]
noncomputable def jy(x:V)(xs:List V):Bool:=xs.any λy=>qz y x
theorem fm(y:Str)(ps:List Str):jy (.str y) (ps.map V.str)=decide (y∈ps):=by
 unfold jy;rw[Γ]
 induction ps with
 |nil=>rfl
 |cons p ps a=>
  rw[Ŏ,a];show ((p==y) ||decide (y∈ps))=decide (y∈p::ps)
  by_cases e:p=y
  .subst e;simp
  .have:(p==y)=false:=beq_eq_false_iff_ne.mpr e;have b:¬y=p:=λz=>e z.symm;rw[this,Ű];simp[b]
theorem G7(y:Int)(ns:List Int):jy (.int y) (ns.map V.int)=decide (y∈ns):=by
 unfold jy;rw[Γ]
 induction ns with
 |nil=>rfl
 |cons a l b=>
  rw[Ŏ,b];show ((a==y) ||decide (y∈l))=decide (y∈a::l)
  by_cases e:a=y
  .subst e;simp
  .have:(a==y)=false:=beq_eq_false_iff_ne.mpr e;rw[this,Ű];simp[Ü e]
end
section
variable{κ:Type}[DecidableEq κ]
noncomputable def putK(kvs:List (κ×V))(k:κ)(v:V):List (κ×V):=
 if (kvs.any λkv=>decide (kv.1=k))=true then kvs.map (λkv=>if kv.1=k then(kv.1,v) else kv) else kvs++[(k,v)]
theorem j2(k:κ):∀kvs:List (κ×V),(kvs.any λg=>decide (g.1=k))=(bD kvs k).isSome
 |[]=>rfl
 |p::r=>by
  rw[Ŏ]
  by_cases e:p.1=k
  .simp only[cf e,decide_eq_true e,Bool.true_or,Option.isSome_some]
  .rw[cg e,decide_eq_false e,Ű];exact j2 k r
theorem u9(kvs:List (κ×V))(k j:κ)(y:V):bD (putK kvs k y) j=if j=k then ρ y else bD kvs j:=by
 delta putK
 by_cases a:(kvs.any λb=>decide (b.1=k))=true
 .rw[if_pos a,zv];rw[j2]at a
  by_cases e:j=k
  .let{x,c}:=wdF.mp a
   rw[if_pos e,e,c,weq,if_pos rfl]
  .rw[if_neg e]
   cases bD kvs j with
   |none=>rfl
   |some x=>rw[weq,if_neg e]
 .rw[if_neg a];refine xj k j y kvs ?_;rw[j2]at a
  cases q:bD kvs k with
  |none=>rfl
  |some x=>rw[q]at a;exact(a rfl).elim
theorem gf(kvs:List (κ×V))(k:κ)(v:V):(putK kvs k v).9<=kvs.9+1:=by
 delta putK;split
 .rw[Á];lia
 .rw[Ò,å,wer];lia
theorem gg{kvs:List (κ×V)}{k:κ}(v:V)(h:bD kvs k=τ):putK kvs k v=kvs++[(k,v)]:=by simp_all [putK,j2,if_neg]
theorem KV.any{kvs:List (κ×V)}{vs:List (κ×Value)}(r:KV kvs vs)(k:κ):(kvs.any λg=>decide (g.1=k))=vs.any λg=>decide (g.1=k):=by
 unfold KV at r
 induction r with
 |nil=>rfl
 |cons h t a=>rw[Ŏ,Ŏ,a,h.1]
theorem KV.put{kvs:List (κ×V)}{vs:List (κ×Value)}(r:KV kvs vs)(k:κ){y:V}{u:Value}(g:RelV y u):KV (putK kvs k y) (stored vs k u):=by
 unfold putK stored;rw[r.any k]
 by_cases e:(vs.any λa=>decide (a.1=k))=true
 .rw[if_pos e,if_pos e];exact r.repl k g
 .rw[if_neg e,if_neg e];exact Paired.snoc r ⟨rfl,g⟩
end
section
variable{K:À}
theorem xo{h:Heap}{g:Addr}{j:Str->Option Value}(n:h.Ns1 g j):∃od,h.get? g=ρ od/\∀name,weK name od=ρ (j name):=by
 let{o,c,l,d,hd,hk,_,f}:=n
 refine{o,d,λname=>?_};have e:=f name;unfold nsFind findBy at e;rw[<-Array.find?_toList]at e;unfold weK;rw[hd];dsimp only;split
 .rename_i y q;rw[q]at e;exact congrArg ρ e
 .rename_i q;rw[q]at e
  have a:c.toList.any (·.refKey)=false:=by
   rw[wf3];intro y i
   let{z,t,b}:=hk y (Array.mem_toList_iff.mp i)
   simp[DictEntry.refKey,b]
  have k:¬c.toList.any (·.refKey)=true:=by rw[a];exact Ý
  rw[if_neg k];exact congrArg ρ e
theorem B9.look{h:Heap}{x g C:Addr}{j:Str->Option Value}(I:B9 h x g C j):∃od,PySem.W.InstAt h x (Ŕ C g) C (ρ od)/\∀name,weK name od=ρ (j name):=
 let ⟨od,a,hl⟩:=xo I.ns
 {od,⟨I.obj,rfl,rfl,a⟩,hl}
theorem KT.put{H:Hp}{kvs:List (List Key×V)}{xs:List (List Key×Addr×Value)}(r:KT H kvs xs)(k:List Key){b:Addr}{y:V}{u:Value}(j:H b=ρ (.tup (k.map kV)))(g:RelV y u) :
 KT H (putK kvs k y) (storedH xs k b u):=by
 have e:(kvs.any λa=>decide (a.1=k))=(atKey xs k).isSome:=by
  rw[j2,(r.val k).qA,wgW]
 unfold putK storedH;rw[e]
 by_cases q:(atKey xs k).isSome=true
 .rw[if_pos q,if_pos q];exact r.repl k g
 .rw[if_neg q,if_neg q];exact Paired.snoc r ⟨rfl,j,g⟩
def mZ(H:Hp)(a:Addr)(y v:V)(H':Hp):Prop:=
 (∃kvs k,H a=ρ (.dK kvs)/\y=kV k/\kvs.9<sizeLine/\H'=upd H a (.dK (putK kvs k v))) \/
 ∃kvs k b,H a=ρ (.dT kvs)/\y=.ref b/\H b=ρ (.tup (k.map kV))/\kvs.9<sizeLine/\H'=upd H a (.dT (putK kvs k v))
theorem mZ.k{H:Hp}{a:Addr}{kvs:List (Key×V)}{k:Key}{v:V}(e:H a=ρ (.dK kvs))(hl:kvs.9<sizeLine):mZ H a (kV k) v (upd H a (.dK (putK kvs k v))):=.inl ⟨kvs,k,e,rfl,hl,rfl⟩
noncomputable def gX(kvs more:List (Key×V)):List (Key×V):=more.foldl (λacc kv=>putK acc kv.1 kv.2) kvs
theorem KV.merge:∀{more:List (Key×V)} {rs:List (Key×Value)} {kvs:List (Key×V)} {vs:List (Key×Value)},KV more rs->KV kvs vs->KV (gX kvs more) (merged vs rs):=by
 intro more rs kvs vs r;unfold KV at r
 induction r generalizing kvs vs with
 |nil=>intro q;exact q
 |@cons p q ps c h t a=>
  intro b
  have e:KV (putK kvs p.1 p.2) (stored vs q.1 q.2):=by
   have:=b.put p.1 h.2;rw[<-h.1];exact this
  exact a e
theorem wh:∀(more kvs:List (Key×V)),(gX kvs more).9<=kvs.9+more.9:=by intro more;induction more<;>grind [putK,gf,gX,å]
def OV(RM:List (TE×TE)):TE:=λσ H Q=>∀p,H p=τ->Bc RM σ (upd H p (.dK [])) λps H2=>H2 p=ρ (.dK [])/\∃kvs:List (Key×V),ps=kvs.map (λkv=>(kV kv.1,kv.2))/\kvs.9<=15/\Q (.ref p) (upd H2 p (.dK (gX [] kvs)))
theorem zo.binds{x g:Str}{st:Stmt}{f:Addr}{fd:î}{ps:List Str}(F:zo K x g st f fd)
 (h:∀(kV j pm:Value) (p:Option Addr) (l ct:Value) (us:List Value),us.9=ps.9->bindArgs (Į x g (cV st) (ck st) (ax st) .none kV j pm p l ct) {us,[]}=pure (ps.zip us)):Binds K fd ps []:=by
 let{c,d,kV,j,pm,p,l,ct,a,rfl,lk,b}:=F.ex
 exact .all (h kV j pm p l ct)
theorem G8{x g:Str}{st:Stmt}{f:Addr}{C:Value}{od t:Option Addr}{r:Array (Option Value)}{kV p pm j ct:Value}(l:K.lookup f=ρ {C,od,.func (Į x g (cV st) (ck st) (ax st) .none kV p pm t j ct),r})
 (c:wdV K j g=true) (k:š K (.ref f)=true):zo K x g st f (Į x g (cV st) (ck st) (ax st) .none kV p pm t j ct):={⟨C,od,kV,p,pm,t,j,ct,r,rfl,l,c⟩,k}
theorem oa:∀{names:List (Str×NameKind)} (g:List (Str×Addr)),(∀y∈names,y.2=.free->∃c,env.cells.lookup y.1=ρ c)->(∀y c,g.lookup y=ρ c->env.cells.lookup y=ρ c) ->
 ∃cl:List (Str×Addr),(forIn names g (λ(x:Str×NameKind) p=>(match x with |(name,kind)=>if kind == .free then do let c <-cellOf env name;pure (γ ((name,c)::p)) else pure (γ p):Sem (ForInStep (List (Str×Addr))))))=pure cl /\
  (∀y c,cl.lookup y=ρ c->env.cells.lookup y=ρ c)/\(∀y c,g.lookup y=ρ c->∃j,cl.lookup y=ρ j)/\∀y∈names,y.2=.free->∃c,cl.lookup y.1=ρ c
 |[],g,_,ha=>{g,rfl,ha,λy c e=>⟨c,e⟩,λ_ h=>nomatch h}
 |(n,k)::r,g,f,ha=>by
  rw[List.forIn_cons]
  by_cases hk:k=.free
  .let{c,hc}:=f (n,k) Ù hk
   have i:(k==Ė)=true:=by rw[hk];rfl
   let{cl,l,m,d,o}:=oa (env:=env) (names:=r) ((n,c)::g) (λy a=>f y (Ø _ a)) (λy j e=>by
    rw[ą]at e
    cases q:y==n with
    |true=>
     rw[q]at e;have:c=j:=Î e;subst this;have:y=n:=eq_of_beq q;subst this;exact hc
    |false=>
     rw[q]at e
     exact ha y j e)
   refine{cl,?_,m,λy j e=>?_,λy a b=>?_}
   .rw[<-l];simp only[i,if_true];have s:cellOf env n=pure c:=by unfold cellOf;rw[hc]
    rw[s];rfl
   .by_cases q:y=n
    .subst q;exact d y c (by simp[ą])
    .refine d y j ?_;have:(y==n)=false:=beq_eq_false_iff_ne.mpr q;rw[ą,this];exact e
   .rcases Þ.mp a with rfl |a
    .exact d n c (by simp[ą])
    .exact o y a b
  .have i:(k==Ė)=false:=by simpa using hk
   let{cl,l,m,d,o}:=oa (env:=env) (names:=r) g (λy a=>f y (Ø _ a)) ha
   refine{cl,?_,m,d,λy a b=>?_}
   .rw[<-l];simp only[i,ŏ,if_false];rfl
   .rcases Þ.mp a with rfl |a
    .exact absurd b hk
    .exact o y a b
theorem nh(g:∀y∈scope.names,y.2=.free->∃c,env.cells.lookup y.1=ρ c) :
 ∃cl,closureFor scope env=pure cl/\(∀y c,cl.lookup y=ρ c->env.cells.lookup y=ρ c)/\∀y∈scope.names,y.2=.free->∃c,cl.lookup y.1=ρ c:=by
 let{cl,b,d,_,f}:=oa (env:=env) (names:=scope.names) [] g (λy c e=>by simp at e)
 refine{cl,?_,d,f};simp only[closureFor]
 first
  |(rw[b];rfl)
  |(have a:=b;simp only at a ⊢;rw[a];rfl)
  |(refine Ī (congrArg (λm=>m >>= λh=>pure h) ?_) ?_;exact pure cl;exact b;rfl)
theorem yw(g:∀y∈scope.names,y.2≠.cell)(h:(relabel scope env).names.lookup x=ρ .cell\/(relabel scope env).names.lookup x=ρ .free):∃k,(x,k)∈scope.names/\k=Ė:=by
 unfold relabel at h;dsimp only at h
 have key:∀(names:List (Str×NameKind)),(∀y∈names,y.2≠.cell) ->
  ((names.map λ(n,k)=>if (k==Ė&&env.scope.kind == .function&&env.kindOf n==ρ .cell) then(n,Ŷ) else(n,k)).lookup x=ρ .cell \/
   (names.map λ(n,k)=>if (k==Ė&&env.scope.kind == .function&&env.kindOf n==ρ .cell) then(n,Ŷ) else(n,k)).lookup x=ρ .free)->∃k,(x,k)∈names/\k=Ė:=by
  intro names
  induction names with
  |nil=>intro _ h;simp at h
  |cons y r f=>
   let{n,k}:=y
   intro hc h;have i:=f (λy j=>hc y (Ø _ j));rw[Í]at h;dsimp only at h
   by_cases b:x=n
   .subst b
    by_cases hk:k=.free
    .exact⟨k,Ù,hk⟩
    .have l:(k==Ė)=false:=by simpa using hk
     simp only[l,whB,ŏ,if_false,ą,beq_self_eq_true]at h;rcases h with h |h
     .exact absurd (Î h) (hc (x,k) Ù)
     .exact absurd (Î h) hk
   .have c:(x==n)=false:=beq_eq_false_iff_ne.mpr b
    have d:∀a:NameKind,weN x ((if (k==Ė&&env.scope.kind == .function&&env.kindOf n==ρ .cell)=true then(n,Ŷ) else(n,k))::(r.map λ(n,k)=>if (k==Ė&&env.scope.kind == .function&&env.kindOf n==ρ .cell) then(n,Ŷ) else(n,k)))=ρ a ->
     (r.map λ(n,k)=>if (k==Ė&&env.scope.kind == .function&&env.kindOf n==ρ .cell) then(n,Ŷ) else(n,k)).lookup x=ρ a:=by
     intro a e;split at e
     .simpa only[ą,c] using e
     .simpa only[ą,c] using e
    let{m,o,p}:=i (h.imp (d _) (d _))
    exact{m,Ø _ o,p}
 exact key scope.names g h
theorem D7(h:ng J l g j r H Q):xm (cA 0) 1 J l g j r H Q:=
 let ⟨W,a,t⟩:=h
 {W,a,λi m d e w=>let ⟨p,q⟩:=t i m d e w;{p,q.imp id λ⟨a,b,c⟩=>{a,b,λx f k n y=>by revert k;refine Bi 1 _ ?_;exact λ_=>{{[ρ x],rfl,rfl},c x f y}}}}
theorem ua(h:scope.names.lookup x=ρ .free):(relabel scope env).names.lookup x=ρ .cell\/(relabel scope env).names.lookup x=ρ .free:=by
 unfold relabel;dsimp only
 have key:∀(names:List (Str×NameKind)),names.lookup x=ρ .free ->
  ((names.map λ(n,k)=>if (k==Ė&&env.scope.kind == .function&&env.kindOf n==ρ .cell) then(n,Ŷ) else(n,k)).lookup x=ρ .cell \/
   (names.map λ(n,k)=>if (k==Ė&&env.scope.kind == .function&&env.kindOf n==ρ .cell) then(n,Ŷ) else(n,k)).lookup x=ρ .free):=by
  intro names
  induction names with
  |nil=>intro h;simp at h
  |cons y r c=>
   let{n,k}:=y
   intro h;rw[Í];dsimp only
   by_cases b:x=n
   .subst b
    have hk:k=.free:=by
     rw[ą]at h;simp only[beq_self_eq_true]at h;exact Î h
    subst hk;split
    .left;simp[ą]
    .right;simp[ą]
   .have a:(x==n)=false:=beq_eq_false_iff_ne.mpr b;rw[ą,a]at h;have q:=c h;split
    .simpa only[ą,a] using q
    .simpa only[ą,a] using q
 exact key scope.names h
theorem da{Ok:Hp->Prop}{Q:Hp->Prop}(p:V->Bool)(g:V->V)(I:kX J Ok xs)(hl:H l=τ)(hz:xs.9<=sizeLine)(r:∀H',a7 H H'->Ok H')
 (T:∀x j t,x∈xs->a7 H j->(∀H',a7 j H'->t (p x) H')->U (ρ x::C) j t)
 (he:∀x j t,x∈xs->p x=true->a7 H j->(∀H',a7 j H'->t (g x) H')->te (ρ x::C) j t)
 (hd:∀H',a7 H H'->H' l=ρ (.lst ((xs.filter p).map g))->Q H'):ng J l C U te H Q:=by
 refine{λi m k c=>m=xs.9-i/\i<=xs.9/\a7 H c/\c l=ρ (.lst k)/\k=((xs.take i).filter p).map g,{xs.9,by simp,à _,a7.upd hl,a6,by simp},?_};rintro i m k c ⟨rfl,hi,s2,f,h⟩;refine{f,?_}
 by_cases a:i<xs.9
 .refine .inr {I.go i c (r _ s2) a,?_,λx j y=>?_}
  .rw[h,Á];refine ĺ (ě _ _) ?_;rw[â];omega
  .let{e,q}:=I.we i c x j (r _ s2) a y
   subst e;have mem:x∈xs:=ê q;have s:xs.take (i+1)=xs.take i++[x]:=by rw[Ē,q];rfl
   refine T x _ _ mem s2 λv d=>?_
   cases n:p x with
   |false=>
    rw[if_neg Ý];refine{xs.9-(i+1),1.0,rfl,a,s2.trans d,d _ _ f,?_};rw[s,Ğ,h];simp[n]
   |true=>
    rw[if_pos rfl];refine he x _ _ mem n (s2.trans d) λw u=>?_;refine{u _ _ (d _ _ f),xs.9-(i+1),1.0,rfl,a,?_,a6,?_}
    .intro b o e;rw[a9 (ae e hl)];exact u _ _ (d _ _ (s2 _ _ e))
    .rw[s,Ğ,h];simp[n]
 .have e:i=xs.9:=1.0;subst e;refine .inl {I.stop c (r _ s2),hd c s2 ?_};rw[f,h,õ]
theorem G9(hk:kvs.map (·.1)=g.map (Ã:Str->Key))(rel:KV kvs vs)(hl:us.9=vs.9)
 (l:∀(j:Nat) (u:Value),us[j]?=ρ u->∃k x,vs[j]?=ρ (k,x)/\(bp P w).is k u=true):StrsAre us g:=by
 have e:vs.map (·.1)=g.map (Ã:Str->Key):=rel.keys ▸ hk;clear hk rel
 induction g generalizing us vs with
 |nil=>
  have:vs=[]:=by cases vs with |nil=>rfl |cons a b=>simp at e
  subst this;have:us=[]:=we1.mp hl;subst this;exact .nil
 |cons k g i=>
  cases vs with
  |nil=>simp at e
  |cons v vs=>
   cases us with
   |nil=>simp at hl
   |cons u us=>
    rw[Í,Í]at e;injection e with m n
    let{f,x,o,p}:=l 0 u rfl
    have c:v=(f,x):=by simpa using o
    subst c;have d:f=(Ã k:Key):=m;subst d
    let{t,rfl}:=wgq (x:=k) (v:=u) p
    exact .cons k t (i (by simpa using hl) (λj q h=>l (j+1) q (by simpa using h)) n)
theorem xq:∀{kvs:List (Key×V)} {vs:List (Key×Value)} {us:List Value},KV kvs vs->us.9=vs.9 ->
 (∀(j:Nat) (u:Value),us[j]?=ρ u->∃k x,vs[j]?=ρ (k,x)/\(bp P w).is k u=true)->Vals (kvs.map λg=>kV g.1) us
 |_,_,us,.nil,hl,_=>by
  have:us=[]:=we1.mp hl;subst this;exact .nil
 |_,_,us,.cons (a:=p) (b:=q) r t,hl,d=>by
  cases us with
  |nil=>simp at hl
  |cons u us=>
   let{f,x,l,m}:=d 0 u rfl
   have c:q=(f,x):=by simpa using l
   subst c;refine .cons ?_ (xq t (by simpa using hl) λj n h=>d (j+1) n (by simpa using h));have e:p.1=f:=r.1;show RelV (kV p.1) u;rw[e];rcases bT m with⟨i,t,rfl,rfl⟩ |⟨y,t,rfl,rfl⟩
   .exact⟨t,rfl⟩
   .exact⟨t,rfl⟩
noncomputable def rF(σ:List Str)(v:Str):List Str:=if σ.any (· == v)=true then σ else σ++[v]
noncomputable def cL(val:Nat->Str)(i:Nat):List Str:=((ð i).map val).foldl rF []
theorem ir(val:Nat->Str)(i:Nat):cL val (i+1)=rF (cL val i) (val i):=by
 delta cL;rw[wes,Û,we4];rfl
theorem xr(val:Nat->Str):∀i,(cL val i).9<=i
 |0=>Ç _
 |i+1=>by
  rw[ir];delta rF;have a:=xr val i;split
  .lia
  .grind
theorem DX(σ:List Str)(v k:Str):(rF σ v).any (· == k)=(σ.any (· == k) ||decide (k=v)):=by
 delta rF
 by_cases h:σ.any (· == v)=true
 .rw[if_pos h]
  by_cases e:k=v
  .subst e;rw[h];simp
  .simp[e]
 .rw[if_neg h,List.any_append]
  by_cases e:k=v
  .subst e;simp
  .have a:(v==k)=false:=by simpa [beq_iff_eq] using(λb:v=k=>e b.symm)
   simp[a,e]
theorem yx(σ:List Str)(v:Str):(rF σ v).9=if σ.any (· == v) then σ.length else σ.9+1:=by
 delta rF;split<;>simp
theorem D8{h:Heap}{a:Addr}{m g:Str->Option Value}(x:h.Ns a m)(y:h.Ns a g):m=g:=by
 let{o,k,l,e,hd,_,f}:=x
 let{p,i,j,b,c,_,d}:=y
 rw[e]at b;cases b;rw[hd]at c;cases c;funext n;rw[<-f n,<-d n]
theorem Bj{X:Cx}(g:X.env.scope=l)(r:X.N=N)(h:o9 l scope N x ys p=true):bZ X scope x ys p:=by
 unfold o9 at h;simp only[ś]at h
 let{{{{{{{b,d},f},k},m},n},o},s}:=h
 refine{?_,λy a=>?_,λy a e=>?_,of_decide_eq_true m,λy a e=>?_,of_decide_eq_true n,of_decide_eq_true o,λj y c=>?_}
 .cases e:scope.kind<;>rw[e]at b<;>first |rfl |cases b
 .have:=í.mp d y a;simpa using this
 .have:=í.mp f y a;simpa [e] using this
 .have:=í.mp k y a;have q:l.names.lookup y.1=ρ .cell\/l.names.lookup y.1=ρ .free:=by simpa [e] using this
  show X.env.scope.names.lookup y.1=ρ .cell\/X.env.scope.names.lookup y.1=ρ .free;rw[g];exact q
 .have hl:j<ys.9:=(Ô.mp c).1;have:=í.mp s j (Ŗ.mpr hl);rw[c]at this
  cases e:p[j]? with
  |none=>rw[e]at this;cases this
  |some i=>
   rw[e]at this;simp only[ś,whq,decide_eq_true_eq]at this;exact{i,rfl,by rw[r];exact this.1.1,by rw[g];exact this.1.2,this.2}
noncomputable def ke(ks:List Str):List (Key×V):=ks.map λk=>((Ã k:Key),V.bl true)
theorem Bk(g:List Str):(ke g).map (·.1)=g.map (Ã:Str->Key):=by
 delta ke;rw[Ì];rfl
theorem DY(g:List Str):(ke g).9=g.9:=by delta ke;rw[Á]
noncomputable def iu(es:List (Key×V))(M3:List Str):Bool:=(es.map (·.2)).any λe=>jy e (M3.map V.str)
theorem Ga{e:V}{a b:List Str}(h:∀k∈a,k∈b)(q:jy e (a.map V.str)=true):jy e (b.map V.str)=true:=by
 unfold jy at q ⊢
 let{y,c,d}:=ķ.mp q
 let{k,hk,rfl}:=Å.mp c
 exact ķ.mpr {_,Å.mpr {k,h k hk,rfl},d}
theorem Bl{g:List (Key×V)}{a b:List Str}(h:∀k∈a,k∈b)(q:iu g a=true):iu g b=true:=by
 unfold iu at q ⊢
 let{y,c,d}:=ķ.mp q
 exact ķ.mpr {y,c,Ga h d}
structure M4(ks:List Str)(es:Str->List (Key×V))(ls:List Str):Prop where
 sub:ls.Sublist ks
 Wb:∀k∈ls,iu (es k) ls=true
 most:∀M3:List Str,(∀k∈M3,k∈ks/\iu (es k) M3=true)->∀k∈M3,k∈ls
theorem j3(h:k∈mv.map (·.1)):∃a,(k,a)∈mv/\bD (cn mv) (Ã k:Key)=ρ (.ref a):=by
 induction mv with
 |nil=>simp at h
 |cons m mv c=>
  let{j,b}:=m
  by_cases e:j=k
  .subst e;exact{b,Ù,cf rfl}
  .have d:k∈mv.map (·.1):=by
    rcases Þ.mp h with z |z
    .exact absurd z.symm e
    .exact z
   let{a,ha,q}:=c d
   refine{a,Ø _ ha,?_};unfold cn;rw[Í,cg (λz=>e (Đ z))];exact q
theorem Gb{Ok:Hp->Prop}{Q:Hp->Prop}(R:V->Prop)(p:kX J Ok xs)(hl:H l=τ)(t:xs.9<=sizeLine)(g:∀H',a7 H H'->Ok H')
 (he:∀x j C,x∈xs->a7 H j->(∀y H',R y->a7 j H'->C y H')->I (ρ x::r) j C)
 (hd:∀ys H',a7 H H'->ys.9=xs.9->(∀y∈ys,R y)->H' l=ρ (.lst ys)->Q H'):ng J l r tX I H Q:=by
 refine{λi m ys a=>m=xs.9-i/\i<=xs.9/\a7 H a/\a l=ρ (.lst ys)/\ys.9=i/\∀y∈ys,R y,{xs.9,by simp,à _,a7.upd hl,a6,rfl,λy d=>(nomatch d)},?_};rintro i m ys a ⟨rfl,hi,s2,f,h,k⟩;refine{f,?_}
 by_cases c:i<xs.9
 .refine .inr {p.go i a (g _ s2) c,(),λx j y=>?_}
  let{e,s}:=p.we i a x j (g _ s2) c y
  subst e;delta tX;dsimp only;rw[if_pos rfl];refine he x _ _ (ê s) s2 λz u t n=>?_;refine{n _ _ f,xs.9-(i+1),(),rfl,c,?_,a6,by simp[h],λy d=>?_}
  .intro b o e;rw[a9 (ae e hl)];exact n _ _ (s2 _ _ e)
  .rcases ñ.mp d with q |q
   .exact k y q
   .have:y=z:=by simpa using q
    subst this;exact t
 .have e:i=xs.9:=();subst e;exact .inl {p.stop a (g _ s2),hd ys a s2 h k f}
noncomputable def roundF(ss:List Str)(es:Str->List (Key×V))(M3:List Str):List Str:=ss.filter λp=>iu (es p) M3
noncomputable def rounds(ss:List Str)(es:Str->List (Key×V)):Nat->List Str
 |0=>ss
 |n+1=>roundF ss es (rounds ss es n)
theorem DW.low{lo j:Nat}{H:Hp}{h:Heap}{e C:Addr}{od:Option Addr}(F:DW lo H h e C od)(hl:j<=lo):DW j H h e C od:=by
 let{g,n,i,k,l,m,f}:=F
 refine{Õ hl g,n,i,k,l,m,?_};rcases f with f |⟨T,o,p,a,b,c,d⟩
 .exact .inl f
 .exact .inr {T,o,p,a,Õ hl b,c,d}
theorem eQ.f{H:Hp}{a:Addr}{o:Obj}{kvs:List (Key×V)}{k:Key}(e:H a=ρ (.frz o (.dK kvs))):eQ H a (kV k) (bD kvs k):=.inl {kvs,k,.inr ⟨o,e⟩,rfl,rfl}
noncomputable def qF(f:Str->V)(ks:List Str):List (Key×V):=ks.map λp=>((Ã p:Key),f p)
theorem kY(f:Str->V)(h:k∈g):bD (qF f g) (Ã k:Key)=ρ (f k):=by
 induction g with
 |nil=>simp at h
 |cons j g a=>
  by_cases e:j=k
  .subst e;exact cf rfl
  .unfold qF;rw[Í,cg (λz=>e (Đ z))];exact a (by rcases Þ.mp h with z |z;exact absurd z.symm e;exact z)
theorem zx(f:Str->V)(g:List Str):(qF f g).9=g.9:=by unfold qF;rw[Á]
theorem xt(f:Str->V)(g:List Str)(k:Str):qF f (g++[k])=qF f g++[((Ã k:Key),f k)]:=by unfold qF;rw[Û];rfl
noncomputable def Jx(f:Str->Int):V->V:=λv=>match v with
 |.str z=>.int (f z)
 |_=>.non
theorem qG(f:Str->Int)(g:List Str):(g.map V.str).map (Jx f)=(g.map f).map V.int:=by
 rw[Ì,Ì];rfl
theorem zy{R:It->Hp->Prop}(h:g d=ρ (.dK kvs)\/∃o,g d=ρ (.frz o (.dK kvs)))
 (k:∀o H',H' d=ρ (.frz o (.dK kvs))->(∀c,c≠d->H' c=g c)->R (Jw d o kvs) H') :
 (g d=ρ (.dK kvs)/\∀o,R (Jw d o kvs) (upd g d (.frz o (.dK kvs))))\/∃o,g d=ρ (.frz o (.dK kvs))/\R (Jw d o kvs) g:=by
 rcases h with h |⟨o,h⟩
 .exact .inl {h,λo=>k o _ a6 λc hc=>a9 hc}
 .exact .inr {o,h,k o _ h λc _=>rfl}
theorem bq.keep(t:bq H rs g)(k:∀r xs,H r=ρ (.tup xs)->H' r=ρ (.tup xs)):bq H' rs g:={t.1,λi r xs a b=>k _ _ (t.2 i r xs a b)}
theorem bq.snoc(t:bq H rs g)(h:H r=ρ (.tup xs)):bq H (rs++[r]) (g++[xs]):=by
 refine{by rw[Ò,Ò,t.1];rfl,λi a b c d=>?_}
 by_cases hi:i<rs.9
 .rw[ģ hi]at c;rw[ģ (by rw[<-t.1];exact hi)]at d;exact t.2 i a b c d
 .have e:i=rs.9:=by
   have:=(Ô.mp c).1;rw[Ò,wcD]at this
   lia
  subst e;rw[ĉ (Ç _),Ż]at c;rw[ĉ (by rw[t.1];exact Ç _),t.1,Ż]at d;cases c;cases d;exact h
theorem eQ.rd{H:Hp}{a:Addr}{kvs:List (Key×V)}{k:Key}(e:Rd H a (.dK kvs)):eQ H a (kV k) (bD kvs k):=.inl ⟨kvs,k,e,rfl,rfl⟩
theorem DZ(h:tY kvs=true)(e:bD kvs k=ρ v):du v=true:=by
 unfold bD at e
 cases q:kvs.find? λa=>decide (a.1=k) with
 |none=>rw[q]at e;cases e
 |some a=>
  rw[q]at e;have:=í.mp h a (List.mem_of_find?_eq_some q);cases e;exact this
theorem under(n:Nat){P:Int->Prop}(h:∀k:Fin n,P ((k.val:Nat):Int))(d:Int)(a:0<=d)(b:d<(n:Int)):P d:=by
 let{k,rfl}:=Int.eq_ofNat_of_zero_le a
 exact h {k,Int.ofNat_lt.mp b}
theorem az{X:Cx}(ys:List Str)(ix:List Nat)(h:o9 X.env.scope scope X.N x ys ix=true:=by kernel_rfl):bZ X scope x ys ix:=Bj rfl rfl h
inductive RN(a:Addr)(y z:V)(H:Hp)(Q:VK):Prop
 |mk (kvs k) (_:H a=ρ (.dK kvs)) (_:y=kV k) (_:(putK kvs k z).9<=sizeLine) (_:∀v,bD kvs k=ρ v->Q v H) (_:bD kvs k=τ->Q z (upd H a (.dK (putK kvs k z))))
def OW(td ty tx:TE):TE:=λσ H Q=>td σ H λx H1=>∃a,x=.ref a/\RD H1 a/\ty σ H1 λy H2=>tx σ H2 λz H3=>RN a y z H3 Q
end
section
variable{M:ė}{A:Around}{E:Value->Shared->Prop}{s:Shared}{base:Heap}{env:Env}{outer:List Env}{L e C:Addr}{od:Option Addr}{lo:Nat}{H:Hp}
structure yy(lo:Nat)(H:Hp)(fs:List Addr)(h h':Heap):Prop where
 keep:∀b o,h.get? b=ρ o->(b<lo\/H b≠τ)->b∉fs->h'.get? b=ρ o
 slot:∀b o,h.get? b=ρ o->b∈fs->∃sl,h'.get? b=ρ {o with slots:=sl}
theorem xu{Q:Unit->Shared->Prop}
 (M5:A.frames=ρ (env::outer)) (hl:s.heap.FunFrames base (env::outer)) (hf:env.frame=ρ L) (OX:lo<=s.8) (OY:∀b,s.8<=b->H b=τ) (RO:lo<=e) (Ut:H e=τ)
 (he:s.heap.get? e=ρ oe) (Jy:oe.cls=.ref C) (Uu:oe.dict=od) (hd:oe.data=.fields vs) (hsz:1<vs.size)
 (h:∀h',DW lo H h' e C od->yy lo H ((env::outer).filterMap (·.frame)) s.heap h'->Q .unit {s with heap:=h'}) :
 wpAny M A (do let a <-frameOf env;let pl <-entryPlaceOf L Jz;let b <-wdx head a .none (rawInt L) .none pl;setField (.ref e) 1 b) (λ_ s'=>wpAny M A (ń (.ref e) τ) Q E s') E s:=by
 have OZ:e∉(env::outer).filterMap (·.frame):=λhm=>by
  let{_,o,ho,RP}:=hl.mem hm
  rw[he]at ho;injection ho with ho;subst ho;exact RP vs hd
 refine Â (wpAny_frameOf_fun M5 hl hf λh₁ P0=>?_);refine Â (wpAny_entryPlaceOf λpl hpl=>?_);unfold wdx newFields;refine Â (we5 ?_ (hpl.sizeOk5 _ _ _ _ _));have Uv:h₁.get? e=ρ oe:=(P0.2.1 e OZ).trans he;have Uw:=Ð (h:=h₁) {cls:=.type "traceback",dict:=τ,data:=.fields ([head,.ref L,.none,rawInt L,.none]++(if pl.isEmpty then Ú 6 ä else pl)).6} Uv;refine ū Uw hd hsz ?_;have RQ:h₁.objs.size≠e:=Ŀ (Æ Uv);have Ux:=œ hd (·.setIfInBounds 1 (Ä h₁.7));have Uy:=ō (č (·.setIfInBounds 1 (Ä h₁.7))) Uw (wcE Ux)
 have Uz:=(þ (h₁.push {cls:=.type "traceback",dict:=τ,data:=.fields ([head,.ref L,.none,rawInt L,.none]++(if pl.isEmpty then Ú 6 ä else pl)).6})
  (č (·.setIfInBounds 1 (Ä h₁.7))) (Ü RQ)).trans (ç h₁ rfl)
 unfold ń;refine Â (Ď Uy Ux (x:=.ref h₁.7) (by simp[hsz]) ?_);rw[if_pos (show (Ä h₁.objs.size != ä)=true from by simp)];refine ū Uz rfl (by simp only[ö,Ò,å,wer]<;>lia) (h _ ?_ ?_)
 .refine{RO,Ut,vs.setIfInBounds 1 (.ref h₁.7),oe.slots,?_,by simpa using hsz,.inr {h₁.7,_,_,by simp[hsz],by rw[P0.1];exact OX,OY _ (by rw[P0.1];exact Ç _),RQ,
   ō _ Uz (wcE (œ rfl _)),œ rfl _,by first |(simp;done) |(rcases hpl with rfl |⟨_,_,_,_,_,_,_,rfl⟩<;>simp)}}
  rw[þ _ _ RQ,Uy]
  let{c,d,dt,sl}:=oe
  dsimp only at Jy Uu hd;subst Jy Uu hd;rfl
 .have keep:∀b o,b≠e->h₁.get? b=ρ o ->
   (((h₁.push {cls:=.type "traceback",dict:=τ,data:=.fields ([head,.ref L,.none,rawInt L,.none]++(if pl.isEmpty then Ú 6 ä else pl)).6}).update e (č (·.setIfInBounds 1 (Ä h₁.7)))).update h₁.7
     (č (·.setIfInBounds 3 ((τ:Option Addr).elim ä λf=>rawInt f)))).get? b=ρ o:=λb o Wc hb=>by
   have Wd:h₁.objs.size≠b:=Ŀ (Æ hb);rw[þ _ _ Wd,þ _ _ (Ü Wc)];exact Ð _ hb
  refine{λb o hb hx RP=>keep b o ?_ ((P0.2.1 b RP).trans hb),λb o hb hm=>?_}
  .rintro rfl;rcases hx with hx |hx
   .exact absurd (Ö hx RO) (ò _)
   .exact hx Ut
  .let{sl,hs}:=P0.2.2 b o hb
   exact{sl,keep b _ (λz=>OZ (z ▸ hm)) hs}
theorem zz{Q:Unit->Shared->Prop}(p:A.frames=ρ (env::outer))(hl:s.heap.FunFrames base (env::outer))(I:env.frame=ρ L)(r:lo<=s.8)(g:∀b,s.8<=b->H b=τ)
 (F:DW lo H s.heap e C od) (h:∀h',DW lo H h' e C od->yy lo H ((env::outer).filterMap (·.frame)) s.heap h'->Q .unit {s with heap:=h'}) :
 wpAny M A (Β (.ref e) env) (λ_ s'=>wpAny M A (ń (.ref e) τ) Q E s') E s:=by
 let{m,n,z,N,v,t,k}:=F
 unfold Β;simp only[I];rcases k with k |⟨T,O,B,G,u,x,y,w,i,k⟩
 .refine Â (Ď v rfl k ?_);rw[if_neg ⋯];exact xu p hl I r g m n v rfl rfl rfl t h
 .refine Â (Ď v rfl G ?_);rw[if_pos (show (Ä T != ä)=true from by simp)];refine Â (Ď w i k ?_);rw[if_neg (show ¬((ä==rawInt L)=true) from by simp[rawInt])];refine Â (ū w i (wcJ.mp k).1 ?_);have other:∀b,b≠T->(s.heap.update T (č (·.setIfInBounds 3 ä))).get? b=s.heap.get? b:=λb a=>þ _ _ (Ü a)
  have c:∀b o,s.heap.get? b=ρ o->(∀z,o.data≠.fields z)->b≠T:=λb o a d q=>by
   rw[q,w]at a;injection a with a;subst a;exact d B i
  have f:(s.heap.update T (č (·.setIfInBounds 3 ä))).7=s.8:=wfK ..;refine xu (s:={s with heap:=s.heap.update T (č (·.setIfInBounds 3 ä))}) p (hl.of_keeps λb o a d=>{o,(other b (c b o a d)).trans a,rfl}) I (by show lo<=_;rw[f];exact r) (λb a=>g b (by rw[<-f];exact a)) m n ((other e (Ü y)).trans v) rfl rfl rfl t λh' J P=>h h' J {λb o a l hn=>P.keep b o ((other b ?_).trans a) l hn,λb o a D=>P.slot b o ((other b ?_).trans a) D}
  .rintro rfl;rcases l with l |l
   .exact absurd (Ö l u) (ò _)
   .exact l x
  .rintro rfl
   let{_,R,j,d}:=hl.mem D
   rw[w]at j;injection j with j;subst j
   exact d B i
theorem Bm{Q:Unit->Shared->Prop}(F:DW lo H s.heap e C od)(h:∀h',DW lo H h' e C od->(∀b o,s.heap.get? b=ρ o->(b<lo\/H b≠τ)->h'.get? b=ρ o)->Q .unit {s with heap:=h'}) :
 wpAny M A (ń (.ref e) τ) Q E s:=by
 let{g,i,p,r,n,j,f}:=F
 unfold ń;rcases f with f |⟨T,w,v,t,a,k,l,u,d,f⟩
 .refine Â (Ď n rfl f ?_);rw[if_neg ⋯];exact Ë (h _ {g,i,p,r,n,j,.inl f} λb o q _=>q)
 .have c:3<v.size:=(wcJ.mp f).1;refine Â (Ď n rfl t ?_);rw[if_pos (show (Ä T != ä)=true from by simp)];refine ū u d c (h _ {g,i,p,r,?_,j,.inr {T,_,_,t,a,k,l,ō _ u (wcE (œ d _)),œ d _,by simp[c]}} λb o q m=>?_)
  .exact(þ _ _ l).trans n
  .refine(þ _ _ ?_).trans q;rintro rfl;rcases m with m |m
   .exact absurd (Ö m a) (ò _)
   .exact m k
end
section
variable{a:Addr}
theorem Paired.M6{α β:Type}{F G:α->β->Prop}:∀{g:List α} {j:List β},Paired F g j->(∀a b,F a b->G a b)->Paired G g j
 |_,_,.nil,_=>.nil
 |_,_,.cons r t,f=>.cons (f _ _ r) (Paired.M6 t f)
inductive QS(K:À)(neg:Bool)(x y:V)(H:Hp)(Q:VK):Prop
 |mk (p xs) (_:y=.ref p) (_:(aL K H p xs\/gF K H p xs)) (_:du x=true) (_:xs.all du=true) (_:Q (.bl (if neg then !jy x xs else jy x xs)) H)
theorem KT.keeps(r:KT H kvs xs)(g:∀b ys,H b=ρ (.tup ys)->H' b=ρ (.tup ys)):KT H' kvs xs:=
 Paired.M6 r λ_ _ z=>{z.1,g _ _ z.2.1,z.2.2}
end
section
variable{C:Addr}{sp:Sp}{x m:Str}{ta:TE}{t:TA}
theorem Gd{α:Type}{M:ė}{A:Around}{m:Sem α}{Q:α->Shared->Prop}{E:Value->Shared->Prop}{s:Shared}(h:wpAny M A m Q (λ_ _=>False) s):wpAny M A m Q E s:=ß h (λ_ _ x=>x) λ_ _ z=>z.elim
noncomputable def M7(C:Addr)(m:Str)(sp:Sp)(ta:TE)(t:TA):Jt:=λE σ H Q=>ta σ H λx H1=>Ur C m x H1 (t σ H1 λvs H2=>sp (x::vs) H2 Q E)
noncomputable def M8(C:Addr)(sp:Sp)(t:TA):Jt:=λE σ H Q=>t σ H λvs H1=>∀x dx,H1 x=τ->H1 dx=τ->dx≠x ->
 sp (.ref x::vs) (upd (upd H1 dx (.own x)) x (.ins C dx [])) (λv H2=>v=.non/\Q (.ref x) H2) E
end
section
variable(P:É)(w:World)
def bL(H:Hp)(h:Heap)(a:Addr):HO->Prop
 |.lst xs=>xs.9<=sizeLine/\∃(its:List Value) (n:Nat),Vals xs its/\h.get? a=ρ {cls:=.type "list",data:=.seq its.toArray n}
 |.tup xs=>xs.9<=sizeLine/\∃its:List Value,Vals xs its/\IsTup h a its.6
 |.dK kvs=>kvs.9<=sizeLine/\(a==Ĉ)=false/\∃vs,KV kvs vs/\h.DictOf (bp P w) a vs
 |.dT kvs=>kvs.9<=sizeLine/\(a==Ĉ)=false/\∃xs:List (List Key×Addr×Value),
   Paired (λ(p:List Key×V) (q:List Key×Addr×Value)=>p.1=q.1/\H q.2.1=ρ (.tup (p.1.map kV))/\RelV p.2 q.2.2) kvs xs /\
   ∃o es ep,h.get? a=ρ o/\o.ExactDict/\o.data=.dict es ep/\es.toList=xs.map (entryOfKey (ſ (bp P w)))/\(xs.map (·.1)).Nodup
 |.set S n=>h.SetOf (intKind P w) a S n
 |.ins C dx fs=>H dx=ρ (.own a)/\fs.9<=1000/\dx≠a/\h.get? a=ρ (Ŕ C dx) /\
   ∃mA,h.Ns1 dx mA/\(∀f,j0 (fs.lookup f) (mA f))/\wgF mA (fs.map (·.1))
 |.own _=>∃o,h.get? a=ρ o
 |.xd fs=>∃mA,h.Ns1 a mA/\∀f,j0 (fs.lookup f) (mA f)
 |.rng lo hi=>∃t u v,h.get? a=ρ {cls:=.type "range",data:=.fields #[.int lo t,.int hi u,.int 1 v]}
 |.frz o u=>h.get? a=ρ o/\bL H h a u
 |.tbl ps=>h.get? a=ρ {cls:=.none,data:=.fields ps}
 |.met f x=>h.get? a=ρ (wf4 (.ref f) (.ref x))
 |.ext φ=>φ h/\(∃o,h.get? a=ρ o)/\∀h1 h2:Heap,φ h1->(∀o,h1.get? a=ρ o->h2.get? a=ρ o)->φ h2
def jA(H:Hp)(h:Heap):Prop:=∀a o,H a=ρ o->bL P w H h a o
end
section
variable{te:TE}{tl th:TO}
theorem Rd.ok{P:É}{w:World}{H:Hp}{h:Heap}{a:Addr}{u:HO}(r:Rd H a u)(x:jA P w H h):bL P w H h a u:=by
 rcases r with r |⟨o,r⟩
 .exact x a u r
 .let{_,q}:=x a _ r
  exact q
structure Inv(X:Cx)(pins:List (Addr×Obj))(σ:List (Option V))(H:Hp)(s:Shared):Prop where
 ok:X.Ok
 os:s.os=X.s₀.os
 bare:AllBare s.gens
 base:Un X.fs X.ex X.H₀ H X.s₀.heap s.heap
 loc:∃m,s.heap.Ns X.env.locals m/\∀(i:Nat) (x:Str) (v:V),X.N[i]?=ρ x->σ[i]?=ρ (ρ v)->O3 X.env.scope x->∃u,RelV v u/\Look X.env s.heap m x u
 cell:∀x c,X.env.cells.lookup x=ρ c->∃v,s.heap.IsCell c v
 free:H X.env.locals=τ
 gB:∀x c,X.env.cells.lookup x=ρ c->H c=τ
 pin:∀p∈X.pn++pins,s.heap.get? p.1=ρ p.2/\H p.1=τ/\p.1≠X.env.locals/\p.1∉X.fs/\∀v,p.2.data≠.cell v
 b7:jA X.prog X.w H s.heap
 len:σ.9=X.N.9
def EP(X:Cx)(pins:List (Addr×Obj))(σ:St)(Q:VK)(u:Value)(s':Shared):Prop:=∃v H',Inv X pins σ H' s'/\RelV v u/\Q v H'
def TP(X:Cx)(pins:List (Addr×Obj))(σ:St)(Q:Bool->Hp->Prop)(b:Bool)(s':Shared):Prop:=∃H',Inv X pins σ H' s'/\Q b H'
def AP(X:Cx)(pins:List (Addr×Obj))(σ:St)(Q:List V->Hp->Prop)(us:List Value)(s':Shared):Prop:=∃vs H',Inv X pins σ H' s'/\Vals vs us/\Q vs H'
abbrev PE(X:Cx)(e:Expr)(t:TE):Prop:=Bx (∀(pins:List (Addr×Obj)) (s:Shared) (σ:St) (H:Hp) (Q:VK),Inv X pins σ H s->t σ H Q->wpAny (model X.prog X.w) X.A (eval e X.5) (EP X pins σ Q) X.xe s)
abbrev PT(X:Cx)(e:Expr)(t:TT):Prop:=Bx (∀(pins:List (Addr×Obj)) (s:Shared) (σ:St) (H:Hp) (Q:Bool->Hp->Prop),Inv X pins σ H s->t σ H Q->wpAny (model X.prog X.w) X.A (isTrue e X.env (eval e X.5)) (TP X pins σ Q) X.xe s)
abbrev PW(X:Cx)(e:Expr)(t:TT):Prop:=Bx (∀(whole:Sem Value) (pins:List (Addr×Obj)) (s:Shared) (σ:St) (H:Hp) (Q:Bool->Hp->Prop),Inv X pins σ H s->t σ H Q->wpAny (model X.prog X.w) X.A (isTrue e X.env whole) (TP X pins σ Q) X.xe s)
theorem PW.pt{X:Cx}{e:Expr}{t:TT}(h:PW X e t):PT X e t:={h _}
abbrev PA(X:Cx)(es:List Expr)(t:TA):Prop:=Bx (∀(pos:Pos) (pins:List (Addr×Obj)) (s:Shared) (σ:St) (H:Hp) (Q:List V->Hp->Prop),Inv X pins σ H s->t σ H Q->wpAny (model X.prog X.w) X.A (spliced (backTo pos (starEach es X.5))) (AP X pins σ Q) X.xe s)
abbrev PG(X:Cx)(target:Expr)(t:TG):Prop:=Bx (∀(pins:List (Addr×Obj)) (s:Shared) (σ:St) (H:Hp) (v:V) (u:Value) (Q:St->Hp->Prop),Inv X pins σ H s->RelV v u->t v σ H Q ->
  wpAny (model X.prog X.w) X.A (assign target X.env u) (λ_ s'=>∃σ' H',Inv X pins σ' H' s'/\Q σ' H') X.xe s)
abbrev QT(X:Cx)(ts:List Expr)(t:QQ):Prop:=Bx (∀(pins:List (Addr×Obj)) (s:Shared) (σ:St) (H:Hp) (vs:List V) (us:List Value) (Q:St->Hp->Prop),Inv X pins σ H s->Vals vs us->t vs σ H Q ->
  wpAny (model X.prog X.w) X.A (assignInOrder ((ŗ ts X.5).map (·.2)) us) (λ_ s'=>∃σ' H',Inv X pins σ' H' s'/\Q σ' H') X.xe s)
def QU(X:Cx)(op:Operator)(t:Ot):Prop:=
 ∀(pins:List (Addr×Obj)) (s:Shared) (σ:St) (H:Hp) (x y:V) (v u:Value) (Q:VK),Inv X pins σ H s->RelV x v->RelV y u->t x y H Q ->
  wpAny (model X.prog X.w) X.A (inplaceOp op v u) (EP X pins σ Q) X.xe s
structure Turn(P:É)(w:World)(K:À)(tg:Expr)(J:It)(fp:List Addr)(it:Addr)(tn:Nat->Heap->Prop):Prop where
 mem:it∈fp
 obj:∀i h,tn i h->∀b∈fp,∃o,h.get? b=ρ o/\∀v,o.data≠.cell v
 keep:∀i h h',tn i h->(∀b∈fp,∀o,h.get? b=ρ o->h'.get? b=ρ o)->tn i h'
 item:∀(X:Cx),X.prog=P->X.w=w->X.K=K->X.calm=true->∀(i:Nat) (pins:List (Addr×Obj)) (s:Shared) (σ:St) (H:Hp) (E:Value->Shared->Prop),Inv X pins σ H s->(∀b∈fp,sT X pins H b)->tn i s.heap->J.go i H ->
  wpAny (model P w) X.A (pyNext (.ref it)) (λr s1=>∃u,r=ρ u /\
   wpAny (model P w) X.A (weo tg (.ref it) u) (λ_ s2=>∃x H',Inv X pins σ H' s2/\RelV x u/\J.we i H x H'/\tn (i+1) s2.heap/\∀b∈fp,H' b=τ) E s1) E s
 done:∀(X:Cx),X.prog=P->X.w=w->X.K=K->X.calm=true->∀(i:Nat) (pins:List (Addr×Obj)) (s:Shared) (σ:St) (H:Hp) (E:Value->Shared->Prop),Inv X pins σ H s->(∀b∈fp,sT X pins H b)->tn i s.heap->J.stop i H ->
   wpAny (model P w) X.A (pyNext (.ref it)) (λr s1=>r=τ/\Inv X pins σ H s1) E s
 self:∀(A:Around) (i:Nat) (s:Shared) (Q:Value->Shared->Prop) (E:Value->Shared->Prop),tn i s.heap->Q (.ref it) s->wpAny (model P w) A (pyIter (.ref it)) Q E s
def P4(X:Cx)(pins:List (Addr×Obj))(σ:St)(tg:Expr)(R:It->Hp->Prop)(QV:Value)(s2:Shared):Prop:=
 ∃(it:Addr) (fp:List Addr) (tn:Nat->Heap->Prop) (J:It) (H':Hp),QV=.ref it/\Inv X pins σ H' s2/\Turn X.prog X.w X.K tg J fp it tn/\tn 0 s2.heap/\(∀b∈fp,sT X pins H' b)/\R J H'
abbrev PI(X:Cx)(tg iter:Expr)(wi:TI):Prop:=Bx (∀(pins:List (Addr×Obj)) (s:Shared) (σ:St) (H:Hp) (R:It->Hp->Prop),Inv X pins σ H s->wi σ H R ->
  wpAny (model X.prog X.w) X.A (eval iter X.5) (λv s1=>wpAny (model X.prog X.w) X.A (pyIter v) (P4 X pins σ tg R) X.xe s1) X.xe s)
def mH(X:Cx)(f:Value->Value->Sem Value)(r:R2):Prop:=
 ∀(pins:List (Addr×Obj)) (s:Shared) (σ:St) (H:Hp) (x y:V) (v u:Value) (Q:VK),Inv X pins σ H s->RelV x v->RelV y u->r x y H Q ->
  wpAny (model X.prog X.w) X.A (f v u) (EP X pins σ Q) X.xe s
def RT(X:Cx)(f:Value->Sem Value)(r:V->Hp->VK->Prop):Prop:=
 ∀(pins:List (Addr×Obj)) (s:Shared) (σ:St) (H:Hp) (x:V) (v:Value) (Q:VK),Inv X pins σ H s->RelV x v->r x H Q ->
  wpAny (model X.prog X.w) X.A (f v) (EP X pins σ Q) X.xe s
theorem DT.ok{i j:Int}(h:DT i j):IntMulOk i j:=by
 rcases h with⟨a,b⟩ |⟨a,b⟩
 .exact .of_left (intBits_le_64 a b)
 .exact .of_right (intBits_le_64 a b)
def CE(outer:List Env)(P:É)(w:World)(H:Hp)(s:Shared)(Q:VK)(u:Value)(s':Shared):Prop:=
 ∃v H',s'.os=s.os/\AllBare s'.gens/\Un (oI outer) [] H H' s.heap s'.heap/\jA P w H' s'.heap/\RelV v u/\Q v H'
def CR(CX:FL)(outer:List Env)(P:É)(w:World)(H:Hp)(s:Shared)(Q:VK)(E:XK)(r:ġ)(s':Shared):Prop:=
 match r with
 |.ok (.ret u)=>CE outer P w H s Q u s'
 |.ok _=>False
 |.error e=>CX outer H s E e s'
abbrev PK(X:Cx)(We:List ĭ)(t:TA):Prop:=Bx (∀(pos:Pos) (pins:List (Addr×Obj)) (s:Shared) (σ:St) (H:Hp) (Q:List V->Hp->Prop),Inv X pins σ H s->t σ H Q->wpAny (model X.prog X.w) X.A (evalAll ((backToKw pos (Ĝ We X.5)).map (·.2))) (AP X pins σ Q) X.xe s)
abbrev PO(X:Cx)(e:Option Expr)(t:TO):Prop:=Bx (∀(pins:List (Addr×Obj)) (s:Shared) (σ:St) (H:Hp) (Q:Option Int->Hp->Prop),Inv X pins σ H s->t σ H Q ->
  wpAny (model X.prog X.w) X.A (evalPart e X.5) (λu s'=>∃o H',Inv X pins σ H' s'/\IsPart u o/\Q o H') X.xe s)
def Wf(r:V->Option Int->Option Int->Hp->VK->Prop)(te:TE)(tl th:TO):TE:=λσ H Q=>te σ H λx H1=>tl σ H1 λl H2=>th σ H2 λu H3=>r x l u H3 Q
def P5(X:Cx)(r:R2):Prop:=
 ∀(value slice:Expr) (pins:List (Addr×Obj)) (s:Shared) (σ:St) (H:Hp) (x y:V) (v u:Value) (Q:VK),Inv X pins σ H s->RelV x v->RelV y u->r x y H Q ->
  wfJ slice false v u=operate [v,u] (getItem v u)->wpAny (model X.prog X.w) X.A (wgn value slice v u) (EP X pins σ Q) X.xe s
theorem ub(h:Heap)(g:Ĉ<h.7):bL P w H (h.push {cls:=.type "dict",data:=.dict #[]}) h.objs.size (.dK []):=
 {à _,beq_eq_false_iff_ne.mpr (Ü (Ñ g)),[],.nil,Heap.DictOf.new h}
abbrev QW(X:Cx)(pos:Pos)(keys:List (Option Expr))(values:List Expr)(RM:List (TE×TE)):Prop:=Bx (∀(pins:List (Addr×Obj)) (s:Shared) (σ:St) (H:Hp) (Q:List (V×V)->Hp->Prop),Inv X pins σ H s->Bc RM σ H Q ->
  wpAny (model X.prog X.w) X.A (evalPairs (pairTrees keys values X.env pos)) (λvs s'=>∃ps H',Inv X pins σ H' s'/\VV ps vs/\Q ps H') X.xe s)
theorem D9{X:Cx}:QW X pos [] [] []:={λa s σ H Q I h=>pairTrees_nil_walk {[],H,I,.nil,h}}
theorem oO{X:Cx}(hk:PE X k tk)(j:PE X v l)(p:QW X pos r vs g) :
 QW X pos (ρ k::r) (v::vs) ((tk,l)::g):={λa s σ H Q I h=>
 pairTrees_cons_walk (bU (hk a s σ H _ I h) λu s1 ⟨x,b,c,d,e⟩=>bU (j a s1 σ b _ c e) λw s2 ⟨y,f,i,m,n⟩=>
  bU (p a s2 σ f _ i n) λz A ⟨ps,o,q,rel,t⟩=>{(x,y)::ps,o,q,.cons ⟨d,m⟩ rel,t})}
noncomputable def qH(P:É)(w:World):FL:=λouter H s E ev s'=>∃e C od H',ev=.ref e/\s'.os=s.os/\AllBare s'.gens/\Un (oI outer) [] H H' s.heap s'.heap/\jA P w H' s'.heap/\DW s.heap.objs.size H' s'.heap e C od/\E (.ref C) od H'
def Dc(X:Cx)(E:XK):Prop:=∀(pins:List (Addr×Obj)) (σ:St) (H:Hp) (s:Shared) (e C:Addr) (od:Option Addr),Inv X pins σ H s->DW X.s₀.heap.objs.size H s.heap e C od->E (.ref C) od H->X.xe (.ref e) s
abbrev PJ(X:Cx)(es:List Expr)(t:TJ):Prop:=Bx (∀(pins:List (Addr×Obj)) (s:Shared) (σ:St) (H:Hp) (acc:Str) (Q:Str->Hp->Prop),Inv X pins σ H s->t acc σ H Q ->
 wpAny (model X.prog X.w) X.A (joinParts acc (evalEach es X.5)) (λu s'=>∃z H',Inv X pins σ H' s'/\(∃tk,u=.str z tk)/\Q z H') X.xe s)
theorem zA{X:Cx}{e:PySem.Expr}:PE X e (λ_ _ _=>False):={λ_ _ _ _ _ _ h=>h.elim}
end
section
variable{X:Cx}{pins:List (Addr×Obj)}{σ:List (Option V)}{H H':Hp}{s:Shared}{h':Heap}
theorem Cx.Ok.RU(ok:X.Ok)(e:X.base.get? b=ρ o):b∉X.fs:=λa=>by
 have:=(ok.oJ.mem a).1;rw[e]at this;cases this
theorem Inv.bs(I:Inv X pins σ H s):∀b o,X.base.get? b=ρ o->s.heap.get? b=ρ o/\H b=τ:=λb o e=>
 {I.base.keep b o (I.ok.bs b o e).1 (I.ok.bs b o e).2 (I.ok.RU e) (I.ok.B8 b o e),I.base.free b o (I.ok.bs b o e).1 (I.ok.bs b o e).2 (I.ok.B8 b o e)}
theorem Inv.bk(I:Inv X pins σ H s):∀b o,X.base.get? b=ρ o->s.heap.get? b=ρ o:=λb o e=>(I.bs b o e).1
theorem Inv.mod(I:Inv X pins σ H s):Mod X.K X.mg X.base:=I.ok.mod
theorem Inv.fJ(I:Inv X pins σ H s):X.K.In s.heap:=I.ok.mod.Jm.keeps I.bk
theorem Inv.Bn(I:Inv X pins σ H s):∀x c,X.env.cells.lookup x=ρ c->c≠X.env.locals:=λx c e z=>by
 let{v,o,d,hd}:=I.cell x c e
 let{m,{f,g,h,a,b,_},_}:=I.loc
 rw[z,a]at d;cases d;rw[b]at hd;cases hd
theorem Inv.oJ(I:Inv X pins σ H s):s.heap.FunFrames X.base X.outer:=by
 have all:∀(l:List Env),(∀b∈oI l,b∈X.fs)->X.s₀.heap.FunFrames X.base l->s.heap.FunFrames X.base l:=by
  intro l
  induction l with
  |nil=>intro _ _;trivial
  |cons env r g=>
   intro f hl
   let{hk,{L,o,a,hn,h,hd},i}:=hl
   have c:L∈X.fs:=f L (by delta oI;rw[ĕ,a];exact Ù)
   let{j,e}:=I.base.slot L o h (I.ok.Jn L c) c λz=>I.ok.DR L z c
   exact{hk,{L,_,a,hn,e,hd},g (λb d=>f b (by delta oI;rw[ĕ,a];exact Ø _ d)) i}
 exact all X.outer (λ_ d=>d) I.ok.oJ
theorem Inv.stack(I:Inv X pins σ H s):s.heap.FunFrames X.base X.stack:=by
 rcases I.ok.KU with e |⟨e,a⟩
 .rw[e];exact I.oJ
 .rw[e]
  let{m,hn,_}:=I.loc
  refine .cons (by rw[I.ok.kind];decide) a hn ?_ I.oJ;exact Heap.get?_none_of_le (Õ I.ok.FT I.ok.above)
theorem Inv.uc(I:Inv X pins σ H s):∀b∈oI X.stack,b∈X.env.locals::X.fs:=λb a=>by
 rcases I.ok.KU with e |⟨e,c⟩
 .grind
 .grind [oI]
theorem Inv.mI(I:Inv X pins σ H s):∀b∈oI X.stack,H b=τ:=λb a=>by
 rcases Þ.mp (I.uc b a) with e |a
 .rw[e];exact I.free
 .let{_,o,c,_}:=I.ok.oJ.mem a
  exact I.base.free b o c (I.ok.Jn b a) λz=>I.ok.DR b z a
theorem Inv.step{g':Array ĳ}{t':Nat}{d':Drawn}{ch:List Addr}(I:Inv X pins σ H s)
 (g:∀b∈ch,(b∈X.ex\/X.s₀.8<=b)/\b≠X.env.locals/\(∀x c,X.env.cells.lookup x=ρ c->c≠b)/\∀p∈X.pn++pins,p.1≠b)
 (keep:∀b o,b≠X.env.locals->b∉X.fs->b∉ch->s.heap.get? b=ρ o->H b=τ->h'.get? b=ρ o)
 (slot:∀b o,b≠X.env.locals->b∈X.fs->b∉ch->s.heap.get? b=ρ o->H b=τ->∃J,h'.get? b=ρ {o with slots:=J}) (free:∀b o,b∉ch->s.heap.get? b=ρ o->H b=τ->H' b=τ)
 (there:∀b o,b∉ch->s.heap.get? b=ρ o->∃C,h'.get? b=ρ C)
 (nY:∀b xs,H b=ρ (.tup xs)->H' b=ρ (.tup xs)) (mY:∀b o u,H b=ρ (.frz o u)->H' b=ρ (.frz o u)) (nZ:∀b ps,H b=ρ (.tbl ps)->∃more,H' b=ρ (.tbl (ps++more)))
 (ns:∀m,s.heap.Ns X.env.locals m->h'.Ns X.env.locals m) (b7:jA X.prog X.w H' h') (T:AllBare g') :
 Inv X pins σ H' {s with heap:=h',gens:=g',drawn:=d',toks:=t'}:=by
 have B:∀b o,X.s₀.heap.get? b=ρ o->b≠X.env.locals:=λb o e=>Ñ (Ö (Æ e) I.ok.above)
 have j:∀b o,X.s₀.heap.get? b=ρ o->b∉X.ex->b∉ch:=λb o e a y=>by
  rcases(g b y).1 with z |z
  .exact a z
  .exact absurd (Ö (Æ e) z) (ò _)
 have f:∀x c,X.env.cells.lookup x=ρ c->∀v,s.heap.IsCell c v->h'.IsCell c v:=λx c e v ⟨o,A,hd⟩=>by
  have h:c∉ch:=λz=>(g c z).2.2.1 x c e rfl
  by_cases hc:c∈X.fs
  .let{J,q}:=slot c o (I.Bn x c e) hc h A (I.gB x c e)
   exact{_,q,hd}
  .exact{o,keep c o (I.Bn x c e) hc h A (I.gB x c e),hd}
 refine{I.ok,I.os,T,{λb o e n y a=>?_,λb o e n y a=>?_,λb o e n a=>?_,λb o e a=>?_,λb xs e=>nY b xs (I.base.nY b xs e),λb o xs e=>mY b o xs (I.base.mY b o xs e),λb ps e=>?_},?_,λx c e=>?_,?_,λx c e=>?_,λp G=>?_,b7,I.len}
 .exact keep b o (B b o e) y (j b o e a) (I.base.keep b o e n y a) (I.base.free b o e n a)
 .let{J,t}:=I.base.slot b o e n y a
  let{E,D}:=slot b _ (B b o e) y (j b o e a) t (I.base.free b o e n a)
  exact⟨E,D⟩
 .let{C,t}:=I.base.there b o e a
  exact free b C (j b o e a) t (I.base.free b o e n a)
 .let{C,t}:=I.base.there b o e a
  exact there b C (j b o e a) t
 .let{m1,t}:=I.base.nZ b ps e
  let{M,D}:=nZ b _ t
  exact{m1++M,by rw[D,Array.append_assoc]}
 .let{m,hn,hl}:=I.loc
  refine{m,ns m hn,λi x v t D N=>?_}
  let{u,r,l}:=hl i x v t D N
  refine{u,r,?_};rcases l with l |⟨k,c,e,z⟩
  .exact .inl l
  .exact .inr {k,c,e,f x c e _ z}
 .let{v,z}:=I.cell x c e
  exact{v,f x c e v z}
 .let{m,{o,_,_,A,_},_}:=I.loc
  exact free _ o (λz=>(g _ z).2.1 rfl) A I.free
 .let{v,o,A,hd}:=I.cell x c e
  exact free c o (λz=>(g c z).2.2.1 x c e rfl) A (I.gB x c e)
 .let{e,n,ne,L,d}:=I.pin p G
  have h:p.1∉ch:=λz=>(g p.1 z).2.2.2 p G rfl;exact{keep p.1 p.2 ne L h e n,free p.1 p.2 h e n,ne,L,d}
theorem Inv.un{t':Nat}(I:Inv X pins σ H s)(u:Un X.fs [] H H' s.heap h')(b7:jA X.prog X.w H' h'):Inv X pins σ H' {s with heap:=h',toks:=t'}:=by
 let{m,{o,k,l,g,r},_}:=id I.loc
 let{p,h}:=u.any g I.free (by simp)
 exact I.step (g':=s.gens) (d':=s.drawn) (ch:=[]) (λ_ z=>nomatch z) (λb o _ c _ e n=>u.keep b o e n c (by simp)) (λb o _ c _ e n=>u.slot b o e n c (by simp)) (λb o _ e n=>u.free b o e n (by simp)) (λb o _ e=>u.there b o e (by simp)) u.nY u.mY u.nZ (λq i=>by
  let{t,d,f,a,j}:=i
  rw[g]at a;cases a
  exact{_,d,f,h,j}) b7 I.bare
theorem Inv.call{g':Array ĳ}{t':Nat}{d':Drawn}{ch:List Addr}(I:Inv X pins σ H s)(u:Un (oI X.stack) ch H H' s.heap h')(b7:jA X.prog X.w H' h')(j:AllBare g')
 (g:∀b∈ch,(b∈X.ex\/X.s₀.8<=b)/\b≠X.env.locals/\(∀x c,X.env.cells.lookup x=ρ c->c≠b)/\∀p∈X.pn++pins,p.1≠b) :
 Inv X pins σ H' {s with heap:=h',gens:=g',drawn:=d',toks:=t'}:=by
 let{m,{o,t,v,i,r},_}:=id I.loc
 let{y,d}:=u.any i I.free λz=>(g _ z).2.1 rfl
 exact I.step (ch:=ch) g (λb o d k hc e n=>u.keep b o e n (λz=>(Þ.mp (I.uc b z)).elim d k) hc) (λb o _ _ hc e n=>u.any e n hc) (λb o hc e n=>u.free b o e n hc) (λb o hc e=>u.there b o e hc) u.nY u.mY u.nZ (λA l=>by
  let{B,f,h,a,q}:=l
  rw[i]at a;cases a
  exact{_,f,h,d,q}) b7 j
theorem Inv.Dd(I:Inv X pins σ H s)(h:∀p∈g,s.heap.get? p.1=ρ p.2/\H p.1=τ/\p.1≠X.env.locals/\p.1∉X.fs/\∀v,p.2.data≠.cell v):Inv X g σ H s:=
 {I.ok,I.os,I.bare,I.base,I.loc,I.cell,I.free,I.gB,λp a=>(ñ.mp a).elim (λz=>I.pin p (ņ _ z)) (h p),I.b7,I.len}
theorem Inv.xx(I:Inv X pins σ H s)(j:s'.os=s.os)(u:Un (oI X.stack) ch H H' s.heap s'.heap)(b7:jA X.prog X.w H' s'.heap)(l:AllBare s'.gens)
 (g:∀b∈ch,(b∈X.ex\/X.s₀.8<=b)/\b≠X.env.locals/\(∀x c,X.env.cells.lookup x=ρ c->c≠b)/\∀p∈X.pn++pins,p.1≠b):Inv X pins σ H' s':=by
 let{h',g',d',t',a}:=s'
 have e:a=s.os:=j;subst e;exact I.call (g':=g') (t':=t') (d':=d') u b7 l g
structure Ends where
 nx:St->Hp->Prop
 rt:VK
 bk:St->Hp->Prop:=λ_ _=>False
 ct:St->Hp->Prop:=λ_ _=>False
noncomputable abbrev Ends.M9(D:Ends)(N:St->Hp->Prop):Ends:=⟨N,D.rt,D.bk,D.ct⟩
noncomputable abbrev Ends.lp(D:Ends)(N:St->Hp->Prop):Ends:=⟨N,D.rt,D.nx,N⟩
noncomputable abbrev TS:=Ends->St->Hp->Prop
theorem Bo(j:X.N[i]?=ρ x)(p:O3 X.env.scope x)(hd:(x==("__debug__":Str))=false:=by decide)(g:(x==("__classdict__":Str))=false:=by decide):PE X (.Name x pos) (jz i):=by
 refine{?_};intro b s σ H Q I h
 let{v,e,h}:=h
 let{m,hn,hl}:=I.loc
 let{u,r,l}:=hl i x v j e p
 have fin:EP X b σ Q u s:=⟨v,H,I,r,h⟩;rcases l with⟨hk,d⟩ |⟨hk,c,hc,a⟩
 .exact Ų (ο I.ok.kind hk hn d fin) hd
 .rcases hk with hk |hk
  .exact Ų (wgr I.ok.kind hk hc a fin) hd
  .exact Ų (wpAny_loadName_free I.ok.kind hk hc a fin g) hd
theorem dj{b j pos}:PE X (.Constant (.bool b) j pos) (tC (.bl b)):={λ_ _ _ H _ I h=>Constant_bool {.bl b,H,I,rfl,h}}
theorem cm{j pos}:PE X (.Constant .none j pos) (tC .non):={λ_ _ _ H _ I h=>Constant_none {.non,H,I,rfl,h}}
def Ma:TS:=λ_ _ _=>False
theorem cW:QT X [] FU:=by
 refine{?_};intro a s σ H b c Q I r h
 let{e,h}:=h
 subst e;cases r;exact assignInOrder_nil ⟨σ,H,I,h⟩
theorem aS{e:Expr}{g:List Expr}{t:TG}{u:QQ}(j:PG X e t)(l:QT X g u)
 (p:(ŗ (e::g) X.5).map (·.2)=assign e X.5::(ŗ g X.5).map (·.2):=by rfl):QT X (e::g) (kU t u):=by
 refine{?_};intro a s σ H m n Q I r h
 let{v,o,c,h}:=h
 subst c
 cases r with
 |cons r d=>
  rw[p];refine assignInOrder_cons (bU (j a s σ H _ _ _ I r h) λ_ s1 ⟨b,f,i,k⟩=>?_);exact l a s1 b f _ _ Q i d k
structure cO(k:Nat)(A:Around):Prop where
 hd:A.handled=τ
 dp:A.depth+3*k+5<recursionLimit
 un:A.units+16*k+200<ú
theorem cO.mono(r:cO k A)(h:j<=k):cO j A:={r.hd,by have:=r.dp;lia,by have:=r.un;lia}
theorem cO.deeper(r:cO (k+1) A)(env:Env):cO k (A.deeper env):=
 {r.hd,by have:=r.dp;show A.depth+1+3*k+5<_;lia,by have:=r.un;show A.units+3+16*k+200<_;lia}
theorem cO.make(r:cO (k+1) A)(C:Addr)(us:List Value)(g:List (Str×Value)):cO k (A.under (.builtin "type.__call__" {.ref C::us,g})):=
 {r.hd,by have:=r.dp;rw[Ba];lia,by have:=r.un;rw[Bb];lia}
theorem cO.depth(r:cO k A):A.depth<recursionLimit:=by have:=r.dp;lia
theorem cO.units(r:cO k A):A.units+64<ú:=by have:=r.un;lia
theorem cO.ud(r:cO k A):A.units<ú:=by have:=r.un;lia
theorem jB:PA X [] wg:={λ_ _ _ _ H Q I h=>we6 {[],H,I,.nil,h}}
theorem gb:PO X τ Jo:=by
 refine{?_};intro a s σ H Q I h;rw[evalPart_none];exact Ë {τ,H,I,.none,h}
theorem ue:∀{kvs:List (Key×V)} {ws:List (Value×Value)},VV (kvs.map λg=>(kV g.1,g.2)) ws->∃rs,Carries (bp P w) ws rs/\KV kvs rs
 |[],_,r=>by rw[Ů]at r;cases r;exact{[],Ā,.nil}
 |p::kvs,_,r=>by
  rw[Í]at r
  cases r with
  |@cons a b as bs h t=>
   let{rs,c,q}:=ue (P:=P) (w:=w) t
   let{b1,d}:=b
   exact{(p.1,d)::rs,{tW h.1,rfl,c},.cons ⟨rfl,h.2⟩ q}
theorem fo(g:cO k A):A.units+1<ú:=ĺ (Nat.add_le_add_left (by decide:1<=64) _) g.units
theorem pv(i:Nat)(j:X.N[i]?=ρ x:=by rfl)(l:O3 X.env.scope x:=by first |exact ó rfl |exact ŷ (ó rfl) |exact ŷ (ŷ rfl))(hd:(x==("__debug__":Str))=false:=by decide)
 (g:(x==("__classdict__":Str))=false:=by decide):PE X (.Name x pos) (jz i):=Bo j l hd g
theorem rG:∀{us:List Value},Vals (bs.map V.bl) us->LSm.BoolsAre us bs:=by
 induction bs with
 |nil=>intro us r;rw[Ů]at r;cases r;exact .nil
 |cons n ns a=>
  intro us r;rw[Í]at r
  cases r with
  |cons b c=>
   cases b;exact .cons n (a c)
noncomputable abbrev JA:=(St->XK)->TS
end
noncomputable abbrev Ends.fn(Q:VK):Ends:={λ_ H'=>Q .non H',Q,λ_ _=>False,λ_ _=>False}
def SP(X:Cx)(pins:List (Addr×Obj))(D:Ends)(f:Flow)(s':Shared):Prop:=
 match f with
 |.next=>∃σ' H',Inv X pins σ' H' s'/\D.nx σ' H'
 |.brk=>∃σ' H',Inv X pins σ' H' s'/\D.bk σ' H'
 |.cont=>∃σ' H',Inv X pins σ' H' s'/\D.ct σ' H'
 |.ret u=>∃v σ' H',Inv X pins σ' H' s'/\RelV v u/\D.rt v H'
abbrev PS(X:Cx)(st:Stmt)(t:TS):Prop:=Bx (∀(pins:List (Addr×Obj)) (s:Shared) (σ:St) (H:Hp) (D:Ends),Inv X pins σ H s->t D σ H->wpAny (model X.prog X.w) X.A (exec st X.5) (SP X pins D) X.xe s)
abbrev yz(X:Cx)(st:List Stmt)(t:TS):Prop:=Bx (∀(pins:List (Addr×Obj)) (s:Shared) (σ:St) (H:Hp) (D:Ends),Inv X pins σ H s->t D σ H->wpAny (model X.prog X.w) X.A (execs st X.5) (SP X pins D) X.xe s)
theorem Cx.Ok.kT{X:Cx}(ok:X.Ok)(E:Value->Shared->Prop):(X.kT E).Ok:=
 ⟨ok.mod,ok.kind,ok.glob,ok.blt,ok.above,ok.inj,ok.has,ok.LL,ok.hd,ok.frames,ok.KU,ok.QP,ok.bs,ok.FT,ok.B8,ok.DR,ok.oJ,ok.Jn⟩
theorem Cx.Ok.eS{X:Cx}{E:Value->Shared->Prop}(ok:(X.kT E).Ok):X.Ok:=
 ⟨ok.mod,ok.kind,ok.glob,ok.blt,ok.above,ok.inj,ok.has,ok.LL,ok.hd,ok.frames,ok.KU,ok.QP,ok.bs,ok.FT,ok.B8,ok.DR,ok.oJ,ok.Jn⟩
def La:TS:=λD σ H=>D.nx σ H
def E1(te:TE)(g:TG):TS:=λD σ H=>te σ H λx H1=>g x σ H1 D.nx
inductive RV(i:Nat)(te:TE)(ti:Ot)(D:Ends)(σ:St)(H:Hp):Prop
 |mk (x) (_:σ[i]?=ρ (ρ x)) (_:te σ H λy H1=>ti x y H1 λz H2=>D.nx (σ.set i (ρ z)) H2)
def Mb(c:TT)(tb:TS):TS:=λD σ H=>∃W:Nat->St->Hp->Prop,(∃m,W m σ H)/\∀m σ H,W m σ H ->
 c σ H λb H1=>if b=true then ∃N:St->Hp->Prop,(∀σ' H',N σ' H'->∃m',m'<m/\W m' σ' H')/\tb (D.lp N) σ H1 else D.nx σ H1
def Md(wi:TI)(g:TG)(tb:TS):TS:=λD σ H=>wi σ H λJ H1=>∃W:Nat->Nat->St->Hp->Prop,(∃m,W 0 m σ H1)/\∀i m σ H,W i m σ H ->
 (J.stop i H/\D.nx σ H)\/(J.go i H/\∃N:St->Hp->Prop,(∀σ' H',N σ' H'->∃m',m'<m/\W (i+1) m' σ' H')/\∀x H',J.we i H x H'->g x σ H' λσ2 H2=>tb (D.lp N) σ2 H2)
theorem eG{K:À}{a:Addr}{xs:List V}{g:TG}{t:TS}{D:Ends}{σ:St}{H:Hp}(Pv:Nat->St->Hp->Prop)(I:Pv 0 σ H)(hl:∀i σ H,i<=xs.9->Pv i σ H->aL K H a xs)
 (J:∀i x σ H,xs[i]?=ρ x->Pv i σ H->g x σ H λj r=>t (D.lp (Pv (i+1))) j r) (hd:∀σ H,Pv xs.length σ H->D.nx σ H) :
 ∃W:Nat->Nat->St->Hp->Prop,(∃m,W 0 m σ H)/\∀i m σ H,W i m σ H ->
  ((O4 K a).stop i H/\D.nx σ H)\/((O4 K a).go i H/\∃N:St->Hp->Prop,(∀l H',N l H'->∃C,C<m/\W (i+1) C l H')/\∀x H',(O4 K a).we i H x H'->g x σ H' λj r=>t (D.lp N) j r):=by
 refine{λi m σ H=>m=xs.9-i/\i<=xs.9/\Pv i σ H,{xs.9,by simp,à _,I},?_};rintro i m σ H ⟨rfl,hi,p⟩;have q:=hl i σ H hi p
 by_cases b:i<xs.9
 .refine .inr {{xs,xs[i],q,by simp[b]},Pv (i+1),λl H' c=>{xs.9-(i+1),(),rfl,b,c},λx H' y=>?_}
  let{e,y}:=y
  subst e;exact J i x σ _ (y xs q) p
 .have e:i=xs.9:=();subst e;exact .inl {{xs,q,Ç _},hd σ H p}
theorem cP{lo:Int}{n:Nat}{g:TG}{t:TS}{D:Ends}{σ:St}{H:Hp}(Pv:Nat->St->Hp->Prop)(I:Pv 0 σ H)
 (J:∀i σ H,i<n->Pv i σ H->g (.int (lo+i)) σ H λj r=>t (D.lp (Pv (i+1))) j r) (hd:∀σ H,Pv n σ H->D.nx σ H) :
 ∃W:Nat->Nat->St->Hp->Prop,(∃m,W 0 m σ H)/\∀i m σ H,W i m σ H ->
  ((KW lo n).stop i H/\D.nx σ H)\/((KW lo n).go i H/\∃N:St->Hp->Prop,(∀l H',N l H'->∃C,C<m/\W (i+1) C l H')/\∀x H',(KW lo n).we i H x H'->g x σ H' λj r=>t (D.lp N) j r):=by
 refine{λi m σ H=>m=n-i/\i<=n/\Pv i σ H,{n,by simp,à _,I},?_};rintro i m σ H ⟨rfl,hi,p⟩
 by_cases a:i<n
 .refine .inr {a,Pv (i+1),λl H' b=>{n-(i+1),(),rfl,a,b},λx H' y=>?_}
  let{e,y}:=y
  subst e y;exact J i σ _ a p
 .have e:i=n:=();subst e;exact .inl {Ç _,hd σ H p}
def d7(X:Cx)(f:Value)(r:List V->Hp->VK->Prop):Prop:=
 ∀(pins:List (Addr×Obj)) (s:Shared) (σ:St) (H:Hp) (xs:List V) (us:List Value) (Q:VK),Inv X pins σ H s->Vals xs us->r xs H Q ->
  wpAny (model X.prog X.w) X.A (call f us) (EP X pins σ Q) X.xe s
structure Ge(K:À)(C:Addr)(m:Str)(f:Addr):Prop where
 at_:ø K (.ref C) m=ρ (ρ (.ref f))
 fn:wet K (.ref f)=true
 kp:š K (.ref f)=true
def RW(K:À)(ta tv:TE)(f:Str):TS:=λD σ H=>tv σ H λy H1=>ta σ H1 λx H2=>∃a C dx fs,x=.ref a/\H2 a=ρ (.ins C dx fs)/\wY K C/\bA K C f/\fs.9<1000 /\
 D.nx σ (upd H2 a (.ins C dx (bV f y fs)))
structure Bp(P:É)(w:World)(K:À)(mg:Str->Option Value)(base:Heap)(A:Around)(outer:List Env)(s:Shared)(H:Hp):Prop where
 frames:A.frames=ρ outer
 mod:Mod K mg base
 bs:∀b o,base.get? b=ρ o->s.heap.get? b=ρ o/\H b=τ
 FT:base.7<=s.8
 oJ:s.heap.FunFrames base outer
 Jn:∀b∈oI outer,H b=τ
 b7:jA P w H s.heap
 bare:AllBare s.gens
structure aI(P:É)(w:World)(K:À)(mg:Str->Option Value)(base:Heap)(CX:FL)(k:Nat)(f:Addr)(fd:î)(ps:List Str)(sp:Sp):Prop where
 len:∀vs H Q E,sp vs H Q E->vs.9=ps.9
 run:∀(A:Around) (outer:List Env) (s:Shared) (H:Hp) (args:Args) (us:List Value) (vs:List V) (Q:VK) (E:XK),cO k A->Bp P w K mg base A outer s H->BindsTo s fd args (ps.zip us)->Vals vs us->sp vs H Q E ->
  codeAny (model P w) A (.call (.ref f) args) (CR CX outer P w H s Q E) s
theorem Bp.make{P:É}{w:World}{K:À}{mg:Str->Option Value}{base:Heap}{A:Around}{outer:List Env}{s:Shared}{H:Hp}(e:Bp P w K mg base A outer s H)(C:Addr)(us:List Value)(g:List (Str×Value)) :
 Bp P w K mg base (A.under (.builtin "type.__call__" {.ref C::us,g})) outer s H:={by first |exact e.frames |(simpa [wgC,Code.envs,wgD,pushEnvs] using e.frames),e.mod,e.bs,e.FT,e.oJ,e.Jn,e.b7,e.bare}
def Passes(CX:FL)(X:Cx)(E:XK):Prop:=∀(pins:List (Addr×Obj)) (σ:St) (H:Hp) (s:Shared) (e:Value) (s':Shared),Inv X pins σ H s->CX X.stack H s E e s'->X.xe e s'
noncomputable def sU(CX:FL)(P:É)(w:World)(K:À)(mg:Str->Option Value)(base:Heap)(N:List Str)(qual:Str)(scope:ý)(f:Addr)(cd:Value)(A:Around)(outer:List Env)(s:Shared)(H:Hp)(E:XK):Cx where
 prog:=P
 w:=w
 K:=K
 mg:=mg
 base:=base
 A:=A.deeper (envOfC qual scope s.heap.objs.size f cd)
 N:=N
 s₀:=s
 H₀:=H
 env:=envOfC qual scope s.heap.objs.size f cd
 outer:=outer
 stack:=envOfC qual scope s.heap.objs.size f cd::outer
 ex:=[]
 calm:=true
 fn:=λ_=>true
 pn:=[]
 xe:=λe s'=>wpAny (model P w) (A.deeper (envOfC qual scope s.heap.objs.size f cd)) («leaving» (envOfC qual scope s.heap.objs.size f cd) e) (λ_ RX=>CX outer H s E e RX) (λe' RX=>CX outer H s E e' RX) s'
def Jb(X:Cx)(id:String)(r:V->List V->Hp->VK->Prop):Prop:=
 ∀(pins:List (Addr×Obj)) (s:Shared) (σ:St) (H:Hp) (x:V) (xs:List V) (v:Value) (us:List Value) (Q:VK),Inv X pins σ H s->RelV x v->Vals xs us->r x xs H Q ->
  wpAny (model X.prog X.w) X.A (call (.builtin id) (v::us)) (EP X pins σ Q) X.xe s
def UA(X:Cx)(id:String)(r:V->List V->Hp->VK->Prop):Prop:=
 ∀(pins:List (Addr×Obj)) (s:Shared) (σ:St) (H:Hp) (x:V) (xs:List V) (v:Value) (us:List Value) (Q:VK),Inv X pins σ H s->RelV x v->Vals xs us->r x xs H Q ->
  wpAny (model X.prog X.w) X.A (call (.builtin id) (v::us)) (EP X pins σ Q) X.xe s
def Lb(td ty tv:TE):TS:=λD σ H=>tv σ H λv H1=>td σ H1 λx H2=>ty σ H2 λy H3=>∃a H4,x=.ref a/\mZ H3 a y v H4/\D.nx σ H4
theorem ni{X:Cx}:Passes cz X E0:=λ_ _ _ _ _ _ _ h=>h.elim
theorem og{J:It}{Ok:Hp->Prop}{xs:List V}{g:TG}{C:TS}{D:Ends}{σ:St}{H:Hp}(r:kX J Ok xs)(Pv:Nat->St->Hp->Prop)(T:Pv 0 σ H)(U:∀i σ H,i<=xs.9->Pv i σ H->Ok H)
 (hs:∀i x σ H,xs[i]?=ρ x->Pv i σ H->g x σ H λj t=>C (D.lp (Pv (i+1))) j t) (hd:∀σ H,Pv xs.length σ H->D.nx σ H) :
 ∃W:Nat->Nat->St->Hp->Prop,(∃m,W 0 m σ H)/\∀i m σ H,W i m σ H ->
  (J.stop i H/\D.nx σ H)\/(J.go i H/\∃N:St->Hp->Prop,(∀l H',N l H'->∃I,I<m/\W (i+1) I l H')/\∀x H',J.we i H x H'->g x σ H' λj t=>C (D.lp N) j t):=by
 refine{λi m σ H=>m=xs.9-i/\i<=xs.9/\Pv i σ H,{xs.9,by simp,à _,T},?_};rintro i m σ H ⟨rfl,hi,p⟩;have q:=U i σ H hi p
 by_cases a:i<xs.9
 .refine .inr {r.go i H q a,Pv (i+1),λl H' b=>{xs.9-(i+1),(),rfl,a,b},λx H' y=>?_}
  let{e,c}:=r.we i H x H' q a y
  subst e;exact hs i x σ _ c p
 .have e:i=xs.9:=();subst e;exact .inl {r.stop H q,hd σ H p}
noncomputable def bB(X:Cx)(scope:ý)(N:List Str)(cl:List (Str×Addr))(L:Addr)(s:Shared)(H:Hp)(ex:List Addr)(pn:List (Addr×Obj)):Cx where
 prog:=X.prog
 w:=X.w
 K:=X.K
 mg:=X.mg
 base:=X.base
 A:=X.A
 N:=N
 s₀:=s
 H₀:=H
 env:=compEnvC scope cl L X.5
 outer:=X.stack
 stack:=X.stack
 ex:=ex
 fn:=λ_=>false
 calm:=X.calm
 pn:=pn
 xe:=λ_ _=>False
def Mf(wi:TI)(ix:List Nat)(tt:TT)(te:TE)(i:Nat):TS:=λD σ H=>wi σ H λJ H1=>∀l,H1 l=τ->ng J l (pick σ ix) tt te H1 (λH2=>D.nx (σ.set i (ρ (.ref l))) H2)
theorem ug{K:À}{a:Addr}{xs:List V}{g:TG}{t:TS}{D:Ends}{σ:St}{H:Hp}(Pv:Nat->St->Hp->Prop)(I:Pv 0 σ H)(hl:∀i σ H,i<=xs.9->Pv i σ H->aL K H a xs)
 (J:∀i x σ H T,xs[i]?=ρ x->Pv i σ H->H T=τ->g (.ref T) σ (upd H T (.tup [.int (i:Nat),x])) λj r=>t (D.lp (Pv (i+1))) j r) (hd:∀σ H,Pv xs.length σ H->D.nx σ H) :
 ∃W:Nat->Nat->St->Hp->Prop,(∃m,W 0 m σ H)/\∀i m σ H,W i m σ H ->
  ((OQ K a).stop i H/\D.nx σ H)\/((OQ K a).go i H/\∃N:St->Hp->Prop,(∀l H',N l H'->∃C,C<m/\W (i+1) C l H')/\∀x H',(OQ K a).we i H x H'->g x σ H' λj r=>t (D.lp N) j r):=by
 refine{λi m σ H=>m=xs.9-i/\i<=xs.9/\Pv i σ H,{xs.9,by simp,à _,I},?_};rintro i m σ H ⟨rfl,hi,p⟩;have q:=hl i σ H hi p
 by_cases b:i<xs.9
 .refine .inr {{xs,xs[i],q,by simp[b]},Pv (i+1),λl H' c=>{xs.9-(i+1),1.0,rfl,b,c},λx H' y=>?_}
  let{T,d,f,h,k,y}:=y
  subst h k;exact J i d σ _ T (y xs q) p f
 .have e:i=xs.9:=1.0;subst e;exact .inl {{xs,q,Ç _},hd σ H p}
abbrev QX(X:Cx)(st:Stmt)(t:TS):Prop:=Bx (∀(pins:List (Addr×Obj)) (s:Shared) (σ:St) (H:Hp) (D:Ends),Inv X pins σ H s->1<=s.toks->t D σ H->wpAny (model X.prog X.w) X.A (exec st X.5) (SP X pins D) X.xe s)
abbrev E2(X:Cx)(st:List Stmt)(t:TS):Prop:=Bx (∀(pins:List (Addr×Obj)) (s:Shared) (σ:St) (H:Hp) (D:Ends),Inv X pins σ H s->1<=s.toks->t D σ H->wpAny (model X.prog X.w) X.A (execs st X.5) (SP X pins D) X.xe s)
inductive Mg(a b c:Nat)(z0:Str)(ti:TE)(D:Ends)(σ:St)(H:Hp):Prop
 |mk (yA found) (_:σ[a]?=ρ (ρ (.str yA))) (_:σ[c]?=ρ (ρ (.str found))) (_:ti σ H λy H1=>∃i ch,y=.int i/\yA.9<=100/\found.9<=100/\yq yA.cps.toList i=ρ ch/\D.nx (((σ.set b (ρ (.str ⟨#[ch]⟩))).set c (ρ (.str (found++⟨#[ch]⟩)))).set a (ρ (.str (Λ yA ⟨#[ch]⟩ z0)))) H1)
def JB(C:Addr)(E:XK)(t:TA):TS:=λ_ σ H=>t σ H λvs H1=>vs.9=1/\E (.ref C) τ H1
def RY(X:Cx)(pins:List (Addr×Obj))(σ:St)(E:XK)(ev:Value)(s':Shared):Prop:=∃H0 s0,Inv X pins σ H0 s0/\qH X.prog X.w X.stack H0 s0 E ev s'
def UB(X:Cx)(pins:List (Addr×Obj))(E:St->XK)(ev:Value)(s':Shared):Prop:=∃σ,RY X pins σ (E σ) ev s'
abbrev QY(X:Cx)(e:Expr)(t:Jt):Prop:=Bx (∀(pins:List (Addr×Obj)) (s:Shared) (σ:St) (H:Hp) (Q:VK) (E:XK),Inv X pins σ H s->t E σ H Q->wpAny (model X.prog X.w) X.A (eval e X.5) (EP X pins σ Q) (RY X pins σ E) s)
abbrev RZ(X:Cx)(st:Stmt)(t:JA):Prop:=Bx (∀(pins:List (Addr×Obj)) (s:Shared) (σ:St) (H:Hp) (D:Ends) (E:St->XK),Inv X pins σ H s->t E D σ H->wpAny (model X.prog X.w) X.A (exec st X.5) (SP X pins D) (UB X pins E) s)
abbrev Mh(X:Cx)(st:List Stmt)(t:JA):Prop:=Bx (∀(pins:List (Addr×Obj)) (s:Shared) (σ:St) (H:Hp) (D:Ends) (E:St->XK),Inv X pins σ H s->t E D σ H->wpAny (model X.prog X.w) X.A (execs st X.5) (SP X pins D) (UB X pins E) s)
theorem uh{X:Cx}:Passes (qH P w) X E0:=λ_ _ _ _ _ _ _ h=>by
 let{_,_,_,_,_,_,_,_,_,_,a}:=h
 exact a.elim
section
variable{X:Cx}{a b:Expr}{ta tb:TE}{pos:Pos}{tA:TT}
abbrev PC(X:Cx)(op:CmpOp)(a b:Expr)(t:TE):Prop:=Bx (∀(pins:List (Addr×Obj)) (s:Shared) (σ:St) (H:Hp) (Q:VK),Inv X pins σ H s->t σ H Q ->
  wpAny (model X.prog X.w) X.A (eval a X.5) (λv s₁=>wpAny (model X.prog X.w) X.A (eval b X.5) (λu s₂=>wpAny (model X.prog X.w) X.A (ù op v u) (EP X pins σ Q) X.xe s₂) X.xe s₁) X.xe s)
theorem Gf{op:CmpOp}{t:TE}(h:PC X op a b t)(g:ũ op b=false:=by first |exact FZ _ ⋯ ⋯ |rfl):PT X (.Compare a [op] [b] pos) (tB t):=by
 refine{?_};intro e s σ H Q I hw;refine wfZ (bU (h e s σ H _ I hw) λv s1 g=>bU g λu s2 f=>bU f λc m ⟨x,i,j,k,l⟩=>?_) g
 let{d,rfl,q}:=l
 cases k;exact Ń ⟨i,j,q⟩
theorem bO{e:Expr}{t:TE}(h:PE X e t)(he:∀whole,isTrue e X.env whole=(do let v <-whole;standAt e.pos;holding [v] (truthy v)):=by intro _;rfl):PT X e (tB t):=by
 refine{?_};intro a s σ H Q I hw;refine isTrue_plain (bU (h a s σ H _ I hw) λv s1 ⟨x,b,c,f,g⟩=>?_) (he _)
 let{d,rfl,q}:=g
 cases f;exact Ń ⟨b,c,q⟩
theorem gH(ha:PT X a tA):PW X (.BoolOp .And [a] pos) tA:=by
 refine{?_};intro d b s σ H Q I h;refine isTrue_and (bU (ha b s σ H Q I h) λc s1 e=>?_)
 cases c with
 |true=>exact isTrue_and_nil e
 |false=>exact e
theorem dg(ha:PT X a tA):PW X (.BoolOp .Or [a] pos) tA:=by
 refine{?_};intro d b s σ H Q I h;refine isTrue_or (bU (ha b s σ H Q I h) λc s1 e=>?_)
 cases c with
 |false=>exact isTrue_or_nil e
 |true=>exact e
theorem cQ(ha:PT X a tA):PT X (.UnaryOp .Not a pos) (Rv tA):=by
 refine{?_};intro b s σ H Q I h;exact isTrue_not (ha b s σ H (λc d=>Q (!c) d) I h)
theorem fP{op}(h:PE X a t):PE X (.BoolOp op [a] pos) t:={λb s σ H Q I hw=>BoolOp_one (h b s σ H Q I hw)}
theorem Mi(ha:PE X a ta):PE X (.UnaryOp .Not a pos) (OI ta):=by
 refine{?_};intro b s σ H Q I h;refine UnaryOp_ (bU (ha b s σ H _ I h) λv s1 ⟨x,e,f,g,d⟩=>?_)
 let{c,rfl,d}:=d
 cases g;exact not_of (Ń {.bl (!c),e,f,rfl,d})
theorem ui{c:Expr}(hc:PT X c tA)(ha:PE X a ta)(j:PE X b tb):PE X (.IfExp c a b pos) (Wa tA ta tb):=by
 refine{?_};intro e s σ H Q I h;refine wpAny_IfExp (bU (hc e s σ H _ I h) λd s1 ⟨f,g,i⟩=>?_)
 cases d with
 |true=>exact ha e s1 σ f Q g i
 |false=>exact j e s1 σ f Q g i
theorem aw:yz X [] La:={λ_ _ σ H _ I h=>Ĭ ⟨σ,H,I,h⟩}
theorem Inv.quiet(I:Inv X g σ H s):interactive X.5=false:=by simp[interactive,I.ok.kind]
theorem bK:yz X g Ma:={λ_ _ _ _ _ _ h=>h.elim}
theorem uj{j e:Expr}{l:TE}{g:TG}(he:PE X e l)(p:PG X j g)(r:swapsWithSole [j] e pos.line X.5=pure false:=by rfl)(hw:swappedStores [j] e X.5=pure τ:=by rfl)
 (t:(ŗ [j] X.5).map (·.2)=[assign j X.5]:=by rfl):PS X (.Assign [j] e pos) (E1 l g):=by
 refine{?_};intro a s σ H D I h;refine wpAny_Assign_stores (bU (he a s σ H _ I h) λv s1 ⟨x,b,c,d,f⟩=>?_) r hw;rw[t];exact bU (p a s1 σ b x v _ c d f) λ_ s2 q=>q
theorem j4{c:Expr}{body:List Stmt}{tc:TT}{t:TS}(C:wgG (model X.prog X.w) X.A X.env X.xe)(hc:PT X c tc)(J:yz X body t):PS X (.While c body [] pos) (Mb tc t):=by
 refine{?_};intro a s σ H D I h
 let{W,{E,G},g}:=h
 refine wpAny_While (codeAny_whileLoop (λn L=>∃i u,Inv X a i u L/\W n i u) ?_ E ⟨σ,H,I,G⟩);rintro n s1 ⟨e,x,M,O⟩;refine Ĕ C (bU (hc a s1 e x _ M (g n e x O)) λb s2 ⟨y,z,k⟩=>?_)
 cases b with
 |true=>
  let{N,B,k}:=k
  rw[if_pos rfl];refine Ĕ C (bU (J a s2 e y _ z k) λf Q l=>?_)
  cases f with
  |next=>
   let{d,j,m,o}:=l
   let{p,q,r}:=B d j o
   exact⟨p,q,d,j,m,r⟩
  |cont=>
   let{d,j,m,o}:=l
   let{p,q,r}:=B d j o
   exact⟨p,q,d,j,m,r⟩
  |brk=>exact l
  |ret v=>exact l
 |false=>
  rw[if_neg Ý];exact Ĭ ⟨e,y,z,k⟩
theorem Inv.gY(I:Inv X (g++pl) σ H s):Inv X g σ H s:=I.Dd λp a=>I.pin p (ü _ (ņ _ a))
theorem Mj(ha:PE X a ta)(t:PE X b tb){R:V->V->Hp->Prop}(I:Inv X g σ H s)
 (h:ta σ H λx r=>tb σ r λy j=>R x y j) {Q:Value->Shared->Prop} {f:Value->Value->Sem Value}
 (C:∀v u s2 x y j,Inv X g σ j s2->RelV x v->RelV y u->R x y j->wpAny (model X.prog X.w) X.A (f v u) Q X.xe s2) :
 wpAny (model X.prog X.w) X.A (eval a X.5) (λv l=>wpAny (model X.prog X.w) X.A (eval b X.5) (λu p=>wpAny (model X.prog X.w) X.A (f v u) Q X.xe p) X.xe l) X.xe s:=by
 refine bU (ha g s σ H _ I h) λv s1 ⟨x,r,c,d,e⟩=>?_;refine bU (t g s1 σ r _ c e) λu s2 ⟨y,j,i,k,m⟩=>?_;exact C v u s2 x y j i d k m
theorem aD(g:mH X (binaryOp op) r)(ha:PE X a ta)(j:PE X b tb):PE X (.BinOp a op b pos) (wW r ta tb):=by
 refine{?_};intro c s σ H Q I h;exact wpAny_BinOp (Mj ha j I h λv u s2 x y d e f i q=>g c s2 σ d x y v u Q e f i q)
theorem Gg{r:V->Hp->VK->Prop}(g:RT X (unaryOp op) r)(ha:PE X a ta):PE X (.UnaryOp op a pos) (W3 r ta):=by
 refine{?_};intro b s σ H Q I h;exact UnaryOp_ (bU (ha b s σ H _ I h) λv s1 ⟨x,c,d,e,f⟩=>g b s1 σ c x v Q d e f)
theorem JC{f:Value->Value->Sem Value}{g:Int->Int->Bool}
 (rule:∀(i j:Int) (t u:Tok) (s:Shared) (Q:Value->Shared->Prop) (E:Value->Shared->Prop),Q (.bool (g i j)) s->wpAny (model X.prog X.w) X.A (f (.int i t) (.int j u)) Q E s) :
 mH X f (FK λi j=>.bl (g i j)):=by
 intro a s σ H x y v u Q I b c h
 let{i,j,rfl,rfl,q}:=h
 let{t,rfl}:=b
 let{d,rfl}:=c
 exact rule i j t d s _ _ {.bl (g i j),H,I,rfl,q}
theorem bu(I:Inv X g σ H s)(q:Q (.bl k) H)(e:k=j):EP X g σ Q (.bool j) s:=by
 subst e;exact{.bl k,H,I,rfl,q}
theorem bE:mH X (ù .Eq) Uq:=by
 intro e s σ H x y v u Q I d a h
 let{c,q}:=h
 cases x with
 |non=>
  cases d
  cases y with
  |non=>cases a;exact PySem.EqNone.eq_none_none (bu I q (by simp))
  |bl j=>cases a;exact PySem.EqNone.eq_none_bool (bu I q (by simp))
  |int j=>let{b,rfl}:=a;exact PySem.EqNone.eq_none_int (bu I q (by simp))
  |str j=>let{b,rfl}:=a;exact PySem.EqNone.eq_none_str (bu I q (by simp))
  |_=>exact absurd (show false=true from c) Ý
 |bl i=>
  cases d
  cases y with
  |non=>cases a;exact PySem.EqNone.eq_bool_none (bu I q (by simp))
  |bl j=>cases a;exact eq_bool (bu I q FW)
  |str j=>let{b,rfl}:=a;exact PySem.EqMixed.eq_bool_str (bu I q (by simp))
  |_=>exact absurd (show false=true from c) Ý
 |int i=>
  let{t,rfl}:=d
  cases y with
  |non=>cases a;exact PySem.EqNone.eq_int_none (bu I q (by simp))
  |int j=>let{b,rfl}:=a;exact eq_int (bu I q CU)
  |str j=>let{b,rfl}:=a;exact PySem.EqMixed.eq_int_str (bu I q (by simp))
  |_=>exact absurd (show false=true from c) Ý
 |str i=>
  let{t,rfl}:=d
  cases y with
  |non=>cases a;exact PySem.EqNone.eq_str_none (bu I q (by simp))
  |bl j=>cases a;exact PySem.EqMixed.eq_str_bool (bu I q (by simp))
  |int j=>let{b,rfl}:=a;exact PySem.EqMixed.eq_str_int (bu I q (by simp))
  |str j=>let{b,rfl}:=a;exact eq_str (bu I q CV)
  |_=>exact absurd (show false=true from c) Ý
 |byt i=>
  let{t,rfl}:=d
  cases y with
  |byt j=>let{b,rfl}:=a;exact PySem.W.eq_bytes (bu I q CY)
  |_=>exact absurd (show false=true from c) Ý
 |_=>cases y<;>exact absurd (show false=true from c) Ý
theorem kZ:mH X (ù .NotEq) W4:=by
 intro e s σ H x y v u Q I d a h
 let{c,q}:=h
 cases x with
 |non=>
  cases d
  cases y with
  |non=>cases a;exact PySem.EqNone.ne_none_none (bu I q (by simp))
  |bl j=>cases a;exact PySem.EqNone.ne_none_bool (bu I q (by simp))
  |int j=>let{b,rfl}:=a;exact PySem.EqNone.ne_none_int (bu I q (by simp))
  |str j=>let{b,rfl}:=a;exact PySem.EqNone.ne_none_str (bu I q (by simp))
  |_=>exact absurd (show false=true from c) Ý
 |bl i=>
  cases d
  cases y with
  |non=>cases a;exact PySem.EqNone.ne_bool_none (bu I q (by simp))
  |bl j=>cases a;exact ne_bool (bu I q (congrArg not FW))
  |str j=>let{b,rfl}:=a;exact PySem.EqMixed.ne_bool_str (bu I q (by simp))
  |_=>exact absurd (show false=true from c) Ý
 |int i=>
  let{t,rfl}:=d
  cases y with
  |non=>cases a;exact PySem.EqNone.ne_int_none (bu I q (by simp))
  |int j=>let{b,rfl}:=a;exact ne_int (bu I q (congrArg not CU))
  |str j=>let{b,rfl}:=a;exact PySem.EqMixed.ne_int_str (bu I q (by simp))
  |_=>exact absurd (show false=true from c) Ý
 |str i=>
  let{t,rfl}:=d
  cases y with
  |non=>cases a;exact PySem.EqNone.ne_str_none (bu I q (by simp))
  |bl j=>cases a;exact PySem.EqMixed.ne_str_bool (bu I q (by simp))
  |int j=>let{b,rfl}:=a;exact PySem.EqMixed.ne_str_int (bu I q (by simp))
  |str j=>let{b,rfl}:=a;exact ne_str (bu I q (congrArg not CV))
  |_=>exact absurd (show false=true from c) Ý
 |byt i=>
  let{t,rfl}:=d
  cases y with
  |byt j=>let{b,rfl}:=a;exact PySem.W.ne_bytes (bu I q (congrArg not CY))
  |_=>exact absurd (show false=true from c) Ý
 |_=>cases y<;>exact absurd (show false=true from c) Ý
theorem kg:mH X (ù .Lt) (FK λi j=>.bl (decide (i<j))):=JC λ_ _ _ _ _ _ _ q=>lt_int q
theorem Gh:mH X (ù .LtE) (FK λi j=>.bl (decide (i<=j))):=JC λ_ _ _ _ _ _ _ q=>le_int q
theorem fq:mH X (ù .Gt) (FK λi j=>.bl (decide (j<i))):=JC λ_ _ _ _ _ _ _ q=>gt_int q
theorem zB:mH X (ù .GtE) (FK λi j=>.bl (decide (j<=i))):=JC λ_ _ _ _ _ _ _ q=>ge_int q
theorem qI:mH X (ù .In) (λx y H Q=>∃i j,x=.str i/\y=.str j/\Q (.bl (!(we2 j i 0 j.length 1).isEmpty)) H):=by
 intro a s σ H x y v u Q I b c h
 let{i,j,rfl,rfl,q}:=h
 let{t,rfl}:=b
 let{d,rfl}:=c
 exact in_str (bu I q rfl)
theorem qJ:mH X (ù .Is) (λx y H Q=>y=.non/\Q (.bl (decide (x=.non))) H):=by
 intro a s σ H x y v u Q I b c h
 let{rfl,q}:=h
 cases c;refine is_none_gen (bu I q ?_)
 cases x<;>first
  |(cases b;rfl)
  |(let{t,rfl}:=b;rfl)
theorem gd:mH X (ù .IsNot) (λx y H Q=>y=.non/\Q (.bl (!decide (x=.non))) H):=by
 intro a s σ H x y v u Q I b c h
 let{rfl,q}:=h
 cases c;refine isnot_none_gen (bu I q ?_)
 cases x<;>first
  |(cases b;rfl)
  |(let{t,rfl}:=b;rfl)
theorem bc(g:mH X (ù op) r)(ha:PE X a ta)(j:PE X b tb)(l:ũ op b=false):PE X (.Compare a [op] [b] pos) (wW r ta tb):=by
 refine{?_};intro c s σ H Q I h;exact wpAny_Compare1 (Mj ha j I h λv u s2 x y d e f i q=>g c s2 σ d x y v u Q e f i q) l
theorem eL(g:mH X (ù op) r)(ha:PE X a ta)(j:PE X b tb)(l:ũ op b=false):PT X (.Compare a [op] [b] pos) (CZ (wW r ta tb)):=by
 refine{?_};intro d s σ H Q I h
 refine wfZ (bU (ha d s σ H _ I h) λv s1 ⟨x,f,i,m,n⟩=>bU (j d s1 σ f _ i n) λu s2 ⟨y,o,p,q,t⟩=>
  bU (g d s2 σ o x y v u _ p m q t) λc D ⟨z,w,A,B,k,e,C⟩=>?_) l
 subst e;cases B;exact Ń ⟨w,A,C⟩
theorem bI(g:P5 X r)(ha:PE X a ta)(j:PE X b tb)(l:D1 b):PE X (.Subscript a b pos) (wW r ta tb):=by
 refine{?_};intro c s σ H Q I h;exact wga (Mj ha j I h λv u s2 x y d e f i q=>g a b c s2 σ d x y v u Q e f i q (l _ _))
end
section
variable{P:É}{w:World}{H H':Hp}{h h':Heap}{a:Addr}{o:HO}
theorem bL.lt(x:bL P w H h a o):a<h.7:=by
 cases o with
 |lst c=>let{_,_,_,_,e}:=x;exact Æ e
 |tup c=>let{_,_,_,p}:=x;exact p.lt
 |dK b=>let{_,_,_,_,o,_,_,e,_}:=x;exact Æ e
 |dT b=>let{_,_,_,_,o,_,_,e,_}:=x;exact Æ e
 |set S n=>let{o,_,_,_,e,_}:=x;exact Æ e
 |ins C d fs=>let{_,_,_,e,_}:=x;exact Æ e
 |own y=>let{_,e}:=x;exact Æ e
 |xd fs=>let{_,{_,_,_,e,_},_}:=x;exact Æ e
 |rng lo hi=>let{_,_,_,e}:=x;exact Æ e
 |frz ob u=>let{e,_}:=x;exact Æ e
 |tbl ps=>exact Æ (show h.get? a=ρ _ from x)
 |met f y=>exact Æ (show h.get? a=ρ _ from x)
 |ext φ=>let{_,{_,e},_}:=x;exact Æ e
theorem bL.sV(x:bL P w H h a o)(k:∀b u,(b=a\/H b=ρ (.own a))->h.get? b=ρ u->h'.get? b=ρ u)
 (I:∀b,H b=ρ (.own a)->H' b=ρ (.own a)) (J:∀b xs,H b=ρ (.tup xs)->H' b=ρ (.tup xs)):bL P w H' h' a o:=by
 induction o with
 |lst xs=>let{z,j,n,r,e}:=x;exact{z,j,n,r,k _ _ (.inl rfl) e}
 |tup xs=>let{z,j,r,ob,e,c}:=x;exact{z,j,r,ob,k _ _ (.inl rfl) e,c}
 |dK l=>let{z,y,A,r,ob,g,i,e,c}:=x;exact{z,y,A,r,ob,g,i,k _ _ (.inl rfl) e,c}
 |dT l=>
  let{z,y,xs,r,ob,g,i,e,c}:=x
  exact{z,y,xs,Paired.M6 r λp q z=>{z.1,J _ _ z.2.1,z.2.2},ob,g,i,k _ _ (.inl rfl) e,c}
 |set S n=>let{ob,g,i,t,e,c}:=x;exact{ob,g,i,t,k _ _ (.inl rfl) e,c}
 |ins C E fs=>
  let{d,z,ne,e,m,{s,g,i,B,c},r}:=x
  exact{I _ d,z,ne,k _ _ (.inl rfl) e,m,{s,g,i,k _ _ (.inr d) B,c},r}
 |own y=>let{ob,e}:=x;exact{ob,k _ _ (.inl rfl) e}
 |xd fs=>let{m,{s,g,i,e,c},r}:=x;exact{m,{s,g,i,k _ _ (.inl rfl) e,c},r}
 |rng lo hi=>let{t,u,v,e}:=x;exact{t,u,v,k _ _ (.inl rfl) e}
 |frz ob u D=>let{e,q}:=x;exact{k _ _ (.inl rfl) e,D q}
 |tbl ps=>
  have e:h.get? a=ρ {cls:=.none,data:=.fields ps}:=x;show h'.get? a=ρ {cls:=.none,data:=.fields ps};exact k a _ (.inl rfl) e
 |met f y=>
  have e:h.get? a=ρ (wf4 (.ref f) (.ref y)):=x;show h'.get? a=ρ (wf4 (.ref f) (.ref y));exact k a _ (.inl rfl) e
 |ext φ=>let{p,{o,e},st}:=x;exact⟨st _ _ p λo q=>k _ _ (.inl rfl) q,⟨o,k _ _ (.inl rfl) e⟩,st⟩
theorem jA.lt(x:jA P w H h)(e:H a=ρ o):a<h.7:=(x a o e).lt
theorem jA.fresh(x:jA P w H h)(e:h.7<=a):H a=τ:=by
 cases q:H a with
 |none=>rfl
 |some u=>exact absurd (Ö (x.lt q) e) (ò _)
theorem jA.kept(x:jA P w H h)(k:∀b u,h.get? b=ρ u->h'.get? b=ρ u):jA P w H h':=λa o e=>
 (x a o e).sV (λb u _ q=>k b u q) (λ_ q=>q) λ_ _ q=>q
theorem jA.laid(x:jA P w H h)(k:∀b u,h.get? b=ρ u->h'.get? b=ρ u)(g:h.7<=a)(new:bL P w (upd H a o) h' a o):jA P w (upd H a o) h':=λb u e=>by
 have hn:=x.fresh g
 by_cases d:b=a
 .grind [a6]
 .rw[a9 d]at e;exact(x b u e).sV (λc v _ q=>k c v q) (λc q=>by rw[a9 (ae q hn)];exact q) λc f q=>by rw[a9 (ae q hn)];exact q
theorem Lc(ok:jA P w H h)(e:Rd H a u):bL P w H h a u:=e.ok ok
theorem lj(ok:jA P w H h)(e:Rd H a (.dK kvs)):kvs.9<=sizeLine/\(a==Ĉ)=false/\∃vs,KV kvs vs/\h.DictOf (bp P w) a vs:=
 show bL P w H h a (.dK kvs) from Lc ok e
theorem rH(ok:jA P w H h)(e:H a=ρ (.dK kvs)):kvs.9<=sizeLine/\(a==Ĉ)=false/\∃vs,KV kvs vs/\h.DictOf (bp P w) a vs:=lj ok (.inl e)
theorem uk(ok:jA P w H h)(e:H a=ρ (.tup (g.map kV))):(ſ (bp P w)).is h g a:=by
 let{_,b,r,o,c,d,n,f}:=(show bL P w H h a (.tup (g.map kV)) from ok a _ e)
 exact{o,b.6,n,c,d,f,by simpa using xf r}
theorem xA(ok:jA P w H h)(e:Rd H a (.dT kvs)):kvs.9<=sizeLine/\(a==Ĉ)=false /\
 ∃xs,KT H kvs xs/\h.DictOfH (ſ (bp P w)) a xs:=by
 let{z,y,xs,r,o,b,c,d,f,g,i,j}:=(show bL P w H h a (.dT kvs) from Lc ok e)
 refine{z,y,xs,r,o,b,c,d,f,g,i,λx k=>?_,j}
 have all:∀{l:List (List Key×V)} {m:List (List Key×Addr×Value)},KT H l m->∀x∈m,(ſ (bp P w)).is h x.1 x.2.1:=by
  intro l m q
  induction q with
  |nil=>grind
  |@cons p q ps n s t u=>
   grind [uk]
 exact all r x k
theorem P6(ok:jA P w H h)(e:H a=ρ (.dT kvs)):kvs.9<=sizeLine/\(a==Ĉ)=false /\
 ∃xs,KT H kvs xs/\h.DictOfH (ſ (bp P w)) a xs:=xA ok (.inl e)
end
section
variable{X:Cx}{pins:List (Addr×Obj)}{σ:St}{H:Hp}{s:Shared}{a:Addr}{xs ys:List V}
theorem aL.of{K:À}(h:H a=ρ (.lst xs)):aL K H a xs:=.inl (.inl h)
theorem gF.of{K:À}(h:H a=ρ (.tup xs)):gF K H a xs:=.inl (.inl h)
theorem Inv.list(I:Inv X pins σ H s)(h:aL X.K H a xs):∃g:List Value,Vals xs g/\PlainL s.heap a g.6/\xs.9<=sizeLine:=by
 rcases h with h |⟨o,g,n,hk,hc,hd,b,c,r⟩
 .let{z,g,n,r,e}:=h.ok I.b7
  exact{g,r,{_,n,e,rfl,rfl,rfl},z}
 .refine{g.toList,r,{o,n,I.fJ a o hk,hc,hd,by simpa using b},?_};have e:=r.9;simp only[ź]at e
  lia
theorem Inv.tuple(I:Inv X pins σ H s)(h:gF X.K H a xs):∃g:List Value,Vals xs g/\IsTup s.heap a g.6/\xs.9<=sizeLine:=by
 rcases h with h |⟨o,g,n,hk,hc,b,c,r⟩
 .let{z,g,r,p}:=h.ok I.b7
  exact⟨g,r,p,z⟩
 .refine{g.toList,r,{o,I.fJ a o hk,hc,n,by simpa using b},?_};have e:=r.9;simp only[ź]at e;omega
theorem Inv.zC(I:Inv X pins σ H s)(h:aL X.K H a xs)(h':aL X.K H a ys):xs=ys:=by
 let{c,r,{o,n,e,_,_,d},_}:=I.list h
 let{b,i,{j,k,f,_,_,g},_}:=I.list h'
 rw[e]at f;cases f;rw[d]at g;injection g with l _
 have:c=b:=by grind
 subst this;exact r.inj i
theorem bj:P5 X (LQ X.K):=by
 intro value slice a s σ H x y v u Q I l m h f
 let{p,E,i,z,rfl,rfl,n,o,q}:=h
 cases l
 let{t,rfl}:=m
 let{c,r,pl,G}:=I.list n
 let{j,b,A,J,B,C}:=tJ o
 let{w,g,d}:=r.get A
 have hl:=r.9;have hn:=o5;have fin:EP X a σ Q w s:=⟨z,H,I,d,q⟩
 by_cases k:0<=i
 .have e:i.toNat=j:=by
   rw[seqIndex_of k C]at b;exact Î b
  exact item_listR pl.isList k () (by rw[e];simpa using g) fin f
 .have e:(i+(c.toArray.size:Int)).toNat=j:=by
   rw[seqIndex_neg () B]at b;rw[ö,<-hl];exact Î b
  exact wfL (x:=w) pl.isList.typeIs slot_list_getitem.lookup
   (wpAny_getItem_list_neg (Q:=λr D=>r=w/\EP X a σ Q r D) pl.isList () (by rw[ö]<;>lia) () (by rw[e];simpa using g) ⟨rfl,fin⟩) f
theorem um:P5 X (Ry X.K):=by
 intro value slice a s σ H x y v u Q I c d h e
 let{p,A,i,z,rfl,rfl,f,g,q}:=h
 cases c
 let{t,rfl}:=d
 let{k,r,pl,B}:=I.tuple f
 let{j,l,m,C,D,E}:=tJ g
 let{w,n,b}:=r.get m
 have hl:=r.9;have hn:=o5;have fin:EP X a σ Q w s:=⟨z,H,I,b,q⟩
 exact wfL (x:=w) pl.typeIs slot_tuple_getitem.lookup
  (getItem_tuple (j:=j) (Q:=λr o=>r=w/\EP X a σ Q r o) pl () () (by rw[ö,<-hl];exact l) (by simpa using n) ⟨rfl,fin⟩) e
theorem gR:mH X (ù .In) (QS X.K false):=by
 intro c s σ H x y v u Q I d f h
 let{p,i,rfl,b,e,fs,q}:=h
 cases f;rcases b with b |b
 .let{a,r,pl,g}:=I.list b
  refine SeqAt.in_listAt (Bh x) pl.isList (λw hw=>kW d e r fs w (by grind)) {.bl _,H,I,rfl,?_};rw[show a.toArray.any (Bh x)=a.any (Bh x) by simp,oN r fs];exact q
 .let{a,r,pl,g}:=I.tuple b
  refine SeqAt.in_tupleAt (Bh x) pl (λw hw=>kW d e r fs w (by grind)) {.bl _,H,I,rfl,?_};rw[show a.toArray.any (Bh x)=a.any (Bh x) by simp,oN r fs];exact q
theorem jC:mH X (ù .NotIn) (QS X.K true):=by
 intro c s σ H x y v u Q I d f h
 let{p,i,rfl,b,e,fs,q}:=h
 cases f;rcases b with b |b
 .let{a,r,pl,g}:=I.list b
  refine SeqAt.notIn_listAt (Bh x) pl.isList (λw hw=>kW d e r fs w (by grind)) {.bl _,H,I,rfl,?_};rw[show a.toArray.any (Bh x)=a.any (Bh x) by simp,oN r fs];exact q
 .let{a,r,pl,g}:=I.tuple b
  refine SeqAt.notIn_tupleAt (Bh x) pl (λw hw=>kW d e r fs w (by grind)) {.bl _,H,I,rfl,?_};rw[show a.toArray.any (Bh x)=a.any (Bh x) by simp,oN r fs];exact q
theorem Inv.fresh(I:Inv X pins σ H s):H s.8=τ:=I.b7.fresh (Ç _)
theorem Bq(z:kvs.9<=sizeLine)(hd:(a==Ĉ)=false)(rel:KV kvs vs)(dd:h'.DictOf (bp P w) a vs) :
 bL P w H' h' a (.dK kvs):=⟨z,hd,vs,rel,dd⟩
theorem Gi(l:X.A.units<ú):mH X (ù .Eq) (RH X.K):=by
 intro m s σ H x y v u Q I C D h
 let{a,b,f,g,rfl,rfl,ha,E,G,J,q}:=h
 cases C;cases D
 let{d,n,o,_}:=I.list ha
 let{c,p,r,_}:=I.list E
 have L:=n.9;have U:=p.9
 by_cases hl:f.9=g.9
 .refine whr (e:=λj=>qz (f.getD j .non) (g.getD j .non)) o.isList r.isList (by simp only[ö];lia) l (λj M N=>?_) ?_
  .have i:j<d.9:=by simpa using M
   have k:j<c.9:=by simpa using N
   have t:f[j]?=ρ (f.getD j .non):=by rw[ï];simp[show j<f.length by lia]
   have w:g[j]?=ρ (g.getD j .non):=by rw[ï];simp[show j<g.length by lia]
   let{O,z,R}:=n.get t
   let{S,B,T}:=p.get w
   have g1:d.toArray[j]=O:=by
    have:d[j]?=ρ d[j]:=by simp[i]
    rw[this]at z;simpa using Î z
   have g2:c.toArray[j]=S:=by
    have:c[j]?=ρ c[j]:=by simp[k]
    rw[this]at B;simpa using Î B
   rw[g1,g2];exact Bg R T (í.mp G _ (ê t)) (í.mp J _ (ê w))
  .rw[u0 hl]at q;refine{.bl _,H,I,rfl,?_};rw[ö,<-L];exact q
 .refine SeqAt.eq_list_lengthsAt o.isList r.isList (by simp only[ö,bne_iff_ne];lia) l {.bl false,H,I,rfl,?_};rw[G2 hl]at q;exact q
theorem Ld{i:Nat}{x:Str}{v:V}{m:Str->Option Value}(I:Inv X pins σ H s)(hn:s.heap.Ns X.env.locals m)(g:X.N[i]?=ρ x)(j:σ[i]?=ρ (ρ v))(hk:X.env.scope.names.lookup x=ρ .local):∃u,m x=ρ u/\RelV v u:=by
 let{c,a,hl}:=I.loc
 have e:=D8 hn a;subst e
 let{u,r,l}:=hl i x v g j (.inl hk)
 rcases l with⟨_,e⟩ |⟨k,_⟩
 .exact⟨u,e,r⟩
 .have b:X.env.scope.names.lookup x=ρ .cell\/X.env.scope.names.lookup x=ρ .free:=k;rw[hk]at b;rcases b with z |z<;>cases z
end
section
variable{te:TE}
def Gj(te:TE):TS:=λD σ H=>te σ H λ_ H1=>D.nx σ H1
def Ml(te:TE):TS:=λD σ H=>te σ H D.rt
def S2(K:À)(T:String)(x:V)(H:Hp):Prop:=match x with
 |.str _=>T="str"
 |.int _=>T="int"
 |.ref p=>(T="list"/\∃xs,aL K H p xs)\/(T="tuple"/\∃o,K.lookup p=ρ o/\o.cls=.type "tuple"/\o.dict=τ) \/
   (T="dict"/\((∃kvs,H p=ρ (.dK kvs))\/∃kvs,H p=ρ (.dT kvs)))\/(T="set"/\∃S n,H p=ρ (.set S n))
 |_=>False
def P7(K:À)(T:String)(r:V->List V->Hp->VK->Prop)(to:TE):TE:=λσ H Q=>to σ H λx H1=>S2 K T x H1/\r x [] H1 Q
def QZ(K:À)(T:String)(r:V->List V->Hp->VK->Prop)(to:TE)(t:TA):TE:=λσ H Q=>to σ H λx H1=>S2 K T x H1/\t σ H1 λxs H2=>r x xs H2 Q
theorem zD{X:Cx}(I:Inv X j σ H s)(g:eQ H a y o):s.TypeIs (.ref a) "dict":=by
 rcases g with⟨c,k,e,_,_⟩ |⟨c,k,b,e,_,_,_⟩
 .let{_,_,f,_,d}:=lj I.b7 e
  exact d.typeIs
 .let{_,_,h,_,d}:=xA I.b7 e
  exact d.typeIs
theorem Gk{X:Cx}(I:Inv X j σ H s)(d:RD H a) :
 s.TypeIs (.ref a) "dict"/\(∀b,Ä a=.ref b->∃ob,s.heap.get? b=ρ ob/\ob.dict=τ)/\(a==Ĉ)=false:=by
 rcases d with⟨f,e⟩ |⟨f,e⟩
 .let{_,hd,i,_,c}:=lj I.b7 e
  refine{c.typeIs,λb q=>?_,hd};cases q
  let{ob,_,_,g,h,_}:=c
  exact⟨ob,g,h.2.1⟩
 .let{_,hd,k,_,c}:=xA I.b7 e
  refine{c.typeIs,λb q=>?_,hd};cases q
  let{ob,_,_,g,h,_}:=c
  exact⟨ob,g,h.2.1⟩
theorem Gm{P:É}{w:World}{K:À}{mg I:Str->Option Value}{CX:FL}{k:Nat}{fa a:Addr}{fd:î}{x:Str}{sp:Sp}{g:Shared}{vs:List Value}{ns:List Int}
 (KX:K.In g.heap) (p:g.heap.Ns è mg) (j:g.heap.Ns builtinsNs I) (J:∀x:Str,x≠"__name__"->I x=ì x) (t:g.heap.NoLimit) (hg:g.gens=#[])
 (ha:g.heap.get? a=ρ {cls:=.type "list",data:=.seq vs.6}) (hi:IntsAre vs ns) (hl:ns.9<=sizeLine) (hr:cO k callerA)
 (F:∀base:Heap,K.In base->base.Ns è mg->aI P w K mg base CX k fa fd [x] sp) (l:∀(s:Shared) (u:Value),BindsTo s fd {[u],[]} [(x,u)])
 (T:∀H:Hp,Only H->aL K H a (ns.map V.int)->sp [.ref a] H (λv _=>v=.bl true) λ_ _ _=>False)
 (U:∀H e s',CX [] H g (λ_ _ _=>False) e s'->False) :
 codeAny (model P w) callerA (.call (.ref fa) {[.ref a],[]}) (λr s'=>r=.ok (.ret (.bool true))/\OldK g.heap s'.heap/\s'.os=g.os/\AllBare s'.gens) g:=by
 have G:=xg hi;have f:=hi.9
 have core:∀H:Hp,Only H->aL K H a (ns.map V.int)->jA P w H g.heap->(∀b,H b≠τ->b=a)->(H a≠τ->K.lookup a=τ) ->
  codeAny (model P w) callerA (.call (.ref fa) {[.ref a],[]}) (λr s'=>r=.ok (.ret (.bool true))/\OldK g.heap s'.heap/\s'.os=g.os/\AllBare s'.gens) g:=by
  intro H L O b7 M Q;have De:∀{b:Addr} {o:Obj},g.heap.get? b=ρ o->H b=τ->(yp g.heap H).get? b=ρ o:=λe n=>FR e n
  have D:∀{b:Addr} {o:Obj} {i:Array DictEntry} {y:Nat},g.heap.get? b=ρ o->o.data=.dict i y->H b=τ:=λ{b o i y} e d=>by
   cases q:H b with
   |none=>rfl
   |some u=>
    have E:b=a:=M b (by rw[q];simp);subst E;rw[ha]at e;cases e;have R:Data.seq vs.toArray _=Data.dict i y:=d;cases R
  have c:∀{b:Addr} {m:Str->Option Value},g.heap.Ns b m->(yp g.heap H).Ns b m:=λ{b m} ⟨o,i,y,e,d,r⟩=>{o,i,y,De e (D e d),d,r}
  have A:K.In (yp g.heap H):=λb o e=>De (KX b o e) (by
   cases q:H b with
   |none=>rfl
   |some u=>
    have E:b=a:=M b (by rw[q];simp);subst E
    rw[Q (by rw[q];simp)]at e;cases e)
  have S:Mod K mg (yp g.heap H):={A,c p,{I,c j,J},let ⟨X,Y,Z⟩:=t;{X,c Y,Z}};have e0:Bp P w K mg (yp g.heap H) callerA [] g H:={rfl,S,λb o e=>Jk e,weu (DQ _ _),trivial,λb j=>absurd (show b∈([]:List Addr) from j) (by simp),b7,.of_eq hg};refine Ĵ ((F _ A (c p)).run callerA [] g H {[.ref a],[]} [.ref a] [.ref a] _ _ hr e0 (l g (.ref a)) (.cons rfl .nil) (T H L O)) λr s' h=>?_
  cases r with
  |error e=>exact(U H e s' h).elim
  |ok fl=>
   cases fl with
   |next=>exact ã h
   |brk=>exact ã h
   |cont=>exact ã h
   |ret u=>
    let{v,H',os,bare,un,B,r',q}:=h
    have q':v=.bl true:=q;subst q';obtain rfl:u=Ι true:=r';refine{rfl,OldK.of_keep λb o e=>?_,os,bare}
    cases q:H b with
    |none=>exact un.keep b o e q (by intro z;exact absurd (show b∈([]:List Addr) from z) (by simp)) (by simp)
    |some u=>
     rcases L b with z |⟨ob,xs,z⟩
     .rw[q]at z;cases z
     .have z2:=un.mY b ob _ z
      let{N,_}:=b7 b _ z
      let{e2,_}:=B b _ z2
      rw[e]at N;cases N;exact e2
 cases hk:K.lookup a with
 |some o=>
  have e:=KX a o hk;rw[ha]at e;cases e;refine core (λ_=>τ) (λ_=>.inl rfl) (.inr {_,vs.6,_,hk,rfl,rfl,rfl,by rw[ö,f];exact hl,by simpa using G}) (λb u z=>by have C:(τ:Option HO)=ρ u:=z;cases C) (λb z=>absurd rfl z) λz=>absurd rfl z
 |none=>
  refine core (λb=>if b=a then ρ (.frz {cls:=.type "list",data:=.seq vs.6} (.lst (ns.map V.int))) else τ) (λb=>?_) (.inl (.inr {{cls:=.type "list",data:=.seq vs.6},if_pos rfl})) (λb u z=>?_) (λb z=>?_) λ_=>hk
  .by_cases j:b=a
   .exact .inr {_,_,if_pos j}
   .exact .inl (if_neg j)
  .by_cases j:b=a
   .have C:=(if_pos j).symm.trans z;cases C;subst j;exact{ha,by rw[Á];exact hl,vs,_,G,ha}
   .have C:=(if_neg j).symm.trans z;cases C
  .by_cases j:b=a
   .exact j
   .exact absurd (if_neg j) z
theorem zE{X:Cx}{g:List (Addr×Obj)}{σ:St}{H:Hp}{s:Shared}{l:List Addr}{x y:V}{u v:Value}{j:Heap}(tk:Nat)(I:Inv X g σ H s)(p:∀b∈l,sT X g H b)(kp:∀b o,b∉l->s.heap.get? b=ρ o->j.get? b=ρ o)
 (t:j.get? s.8=ρ {cls:=.type "tuple",data:=.seq #[u,v]}) (C:RelV y u) (J:RelV x v) (hl:∀b∈l,b<s.8) :
 H s.8=τ/\Inv X g σ (upd H s.heap.objs.size (.tup [y,x])) {s with heap:=j,gens:=s.gens,drawn:=s.drawn,toks:=tk}/\∀b∈l,upd H s.heap.objs.size (.tup [y,x]) b=τ:=by
 have d:=I.b7.fresh (Ç s.8);have e:∀b o,H b=ρ o->b∉l:=λb o q z=>by rw[(p b z).1]at q;cases q
 have f:jA X.prog X.w (upd H s.heap.objs.size (.tup [y,x])) j:=by
  intro b o q
  by_cases a:b=s.8
  .subst a;rw[a6]at q;cases q;exact{by show 2<=sizeLine;decide,[u,v],.cons C (.cons J .nil),{_,t,rfl,1}}
  .rw[a9 a]at q;refine(I.b7 b o q).sV (λc v hc r=>?_) (λc r=>by rw[a9 (ae r d)];exact r) λc i r=>by rw[a9 (ae r d)];exact r
   rcases hc with z |z
   .rw[z]at r ⊢;exact kp b v (e b o q) r
   .exact kp c v (e c _ z) r
 refine{d,?_,λb a=>by rw[a9 (Ñ (hl b a))];exact(p b a).1}
 refine I.step (ch:=l) (λb a=>?_) (λb o _ _ hc q _=>kp b o hc q) (λb o _ _ hc q _=>{o.slots,kp b o hc q}) (λb o _ q n=>by rw[a9 (Ñ (Æ q))];exact n) (λb o hc q=>{o,kp b o hc q})
  (λb i r=>by rw[a9 (ae r d)];exact r) (λb o u r=>by rw[a9 (ae r d)];exact r) (λb ps r=>{#[],by rw[a9 (ae r d),r];simp})
  (λm ⟨o,k,A,h,r⟩=>{o,k,A,kp _ o (λz=>(p _ z).2.1 rfl) h,r}) f I.bare
 let{_,f1,_,B,D,E}:=p b a
 exact⟨B,f1,D,E⟩
theorem jD{X:Cx}{K:À}(g:X.K=K):mH X (ù .In) (QS K false):=by
 subst g;exact gR
theorem wj{X:Cx}{K:À}(g:X.K=K):mH X (ù .NotIn) (QS K true):=by
 subst g;exact jC
theorem oP{X:Cx}{K:À}(g:X.K=K):P5 X (LQ K):=by
 subst g;exact bj
theorem Br{X:Cx}(I:Inv X g σ H s)(e:H d=ρ (.frz o (.dK kvs)))(j:o.data=.dict p ep) :
 ∃vs,KV kvs vs/\s.heap.DictAt (bp X.prog X.w) d vs ep:=by
 let{f,_}:=I.b7 d _ e
 let{_,_,vs,rel,h,a,i,b,k,c,l}:=lj I.b7 (.inr ⟨o,e⟩)
 refine{vs,rel,h,a,b,k,?_,l};rw[f]at b;cases b;rw[c]at j;cases j;exact c
end
section
variable{X:Cx}{pins:List (Addr×Obj)}{σ:List (Option V)}{H:Hp}{s:Shared}{h':Heap}
theorem Inv.lt(I:Inv X pins σ H s):X.env.locals<s.8:=let ⟨_,hn,_⟩:=I.loc;hn.lt
theorem Inv.sz(I:Inv X pins σ H s):X.s₀.8<=s.8:=Õ I.ok.above (wev I.lt)
theorem Inv.Sa(I:Inv X pins σ H s)(h:s.8<=a):a∉X.fs:=λb=>by
 let{_,o,c,_}:=I.ok.oJ.mem b
 exact absurd (Ö (Æ c) (Õ I.sz h)) (ò _)
theorem Inv.turned{t':Nat}{it:Addr}(I:Inv X pins σ H s)(k:∀b o,b≠it->s.heap.get? b=ρ o->h'.get? b=ρ o)(hn:H it=τ)(g:it≠X.env.locals)
 (j:it∈X.ex\/X.s₀.8<=it) (l:∀x c,X.env.cells.lookup x=ρ c->c≠it) (t:∀p∈X.pn++pins,p.1≠it):Inv X pins σ H {s with heap:=h',toks:=t'}:=by
 have a:∀b u,H b=ρ u->b≠it:=λb u e z=>by rw[z,hn]at e;cases e
 refine I.step (g':=s.gens) (d':=s.drawn) (ch:=[it]) (λb d=>?_) (λb o _ _ hc e _=>k b o (λz=>hc (by simp[z])) e) (λb o _ _ hc e _=>{o.slots,k b o (λz=>hc (by simp[z])) e}) (λ_ _ _ _ n=>n)
  (λb o hc e=>{o,k b o (λz=>hc (by simp[z])) e}) (λ_ _ e=>e) (λ_ _ _ e=>e) (λb ps e=>{#[],by rw[e];simp}) (λm f=>?_) (λb u e=>?_) I.bare
 .have e:b=it:=by simpa using d
  subst e;exact⟨j,g,l,t⟩
 .let{o,h,i,w,r}:=f
  exact{o,h,i,k _ o (Ü g) w,r}
 .refine(I.b7 b u e).sV (λc v hc q=>k c v ?_ q) (λ_ q=>q) λ_ _ q=>q;rcases hc with z |z
  .rw[z];exact a b u e
  .exact a c _ z
theorem xB{M:ė}{A:Around}{E:Value->Shared->Prop}{i:Nat}{x:Str}{v:V}{u:Value}{Q:Unit->Shared->Prop}(I:Inv X pins σ H s)(hN:X.N.Nodup)(hi:X.N[i]?=ρ x)(t:Loc X.env.scope x)(r:RelV v u)
 (h:∀s',Inv X pins (σ.set i (ρ v)) H s'->(∃a,Τ a s.heap s'.heap/\(a=X.env.locals\/X.env.cells.lookup x=ρ a))->Q .unit s') (hf:X.fn x=true\/X.env.scope.names.lookup x=ρ .local:=by first |exact .inl rfl |exact .inr rfl |assumption):wpAny M A (wgH X.env x u) Q E s:=by
 let{m,hn,hl}:=id I.loc
 have L:(X.env.scope.kind == .class ||(X.env.scope.kind == .module&&X.env.locals != X.env.globals))=false:=by rw[I.ok.kind];rfl
 have hiσ:i<σ.9:=by rw[I.len];exact(Ô.mp hi).1
 have Bn:=I.Bn
 have g:∀{a:Addr} {h':Heap},(∃o,s.heap.get? a=ρ o/\H a=τ)->Τ a s.heap h'->jA X.prog X.w H h':=λ{a h'} ha f b ob e=>by
  let{_,_,B}:=ha
  refine(I.b7 b ob e).sV (λc U hc q=>(f.2 c ?_).trans q) (λ_ q=>q) λ_ _ q=>q;rintro rfl;rcases hc with rfl |hc
  .rw[B]at e;cases e
  .rw[B]at hc;cases hc
 rcases t with hk |hk
 .refine wg0 hk hn (λh' Z f=>?_) L
  let{oL,_,_,Wg,_}:=id hn
  refine h _ {I.ok,I.os,I.bare,{λb o e n D t=>?_,λb o e n D t=>?_,I.base.free,λb o e t=>?_,I.base.nY,I.base.mY,I.base.nZ},{_,Z,λj y v' l C e3=>?_},λy c e=>?_,I.free,I.gB,λp hp=>?_,g ⟨oL,Wg,I.free⟩ f,by simpa using I.len} {_,f,.inl rfl}
  .exact(f.2 b (Ñ (Ö (Æ e) I.ok.above))).trans (I.base.keep b o e n D t)
  .let{sl,l}:=I.base.slot b o e n D t
   exact{sl,(f.2 b (Ñ (Ö (Æ e) I.ok.above))).trans l}
  .let{o',l}:=I.base.there b o e t
   exact{o',(f.2 b (Ñ (Ö (Æ e) I.ok.above))).trans l}
  .by_cases G:j=i
   .subst G;rw[hi]at l;cases l;rw[ζ hiσ]at C;cases C;exact{u,r,.inl {hk,by simp}}
   .rw[ĵ (Ü G)]at C
    let{u',r',q}:=hl j y v' l C e3
    refine{u',r',?_};rcases q with⟨k,e⟩ |⟨k,c,e,z⟩
    .refine .inl {k,?_};have:y≠x:=λe=>G (oK hN l (e ▸ hi));simp[this,e]
    .exact .inr {k,c,e,z.sameBut f (Bn y c e)}
  .let{U,z}:=I.cell y c e
   exact{U,z.sameBut f (Bn y c e)}
  .let{e,n,ne,nf,d}:=I.pin p hp
   exact{(f.2 p.1 ne).trans e,n,ne,nf,d}
 .have J:X.fn x=true:=by
   rcases hf with z |z
   .exact z
   .rw[z]at hk;cases hk
  let{c,hc}:=I.ok.has x (.inl hk)
  let{U,z}:=I.cell x c hc
  refine wpAny_storeName_cell I.ok.kind hk hc z (λh' O f=>?_)
  let{oc,R,S}:=id z
  refine h {s with heap:=h'} {I.ok,I.os,I.bare,{λb o e n D t=>?_,λb o e n D t=>?_,I.base.free,λb o e t=>?_,I.base.nY,I.base.mY,I.base.nZ},{m,hn.sameBut f (Ü (Bn x c hc)),λj y v' l C e3=>?_},λy Y e=>?_,I.free,I.gB,λp hp=>?_,g {oc,R,I.gB x c hc} f,by simpa using I.len} {c,f,.inr hc}
  .exact(f.2 b (Ñ (Ö (Æ e) (I.ok.LL x c J hc)))).trans (I.base.keep b o e n D t)
  .let{sl,l}:=I.base.slot b o e n D t
   exact{sl,(f.2 b (Ñ (Ö (Æ e) (I.ok.LL x c J hc)))).trans l}
  .let{o',l}:=I.base.there b o e t
   exact{o',(f.2 b (Ñ (Ö (Æ e) (I.ok.LL x c J hc)))).trans l}
  .by_cases G:j=i
   .subst G;rw[hi]at l;cases l;rw[ζ hiσ]at C;cases C;exact{u,r,.inr {.inl hk,c,hc,O}}
   .rw[ĵ (Ü G)]at C
    let{u',r',q}:=hl j y v' l C e3
    refine{u',r',?_};rcases q with q |⟨k,Y,e,z'⟩
    .exact .inl q
    .refine .inr {k,Y,e,z'.sameBut f ?_};rintro rfl;exact G (oK hN l (I.ok.inj _ _ _ e hc ▸ hi))
  .by_cases T:Y=c
   .subst T;exact{_,O}
   .let{w2,z2}:=I.cell y Y e
    exact{w2,z2.sameBut f T}
  .let{e,n,ne,nf,d}:=I.pin p hp
   refine{(f.2 p.1 ?_).trans e,n,ne,nf,d};intro q;rw[q,R]at e;have q':oc=p.2:=Î e;exact d U (by rw[<-q'];exact S)
theorem gZ{E:Value->Shared->Prop}{Q:Unit->Shared->Prop}(I:Inv X pins σ H s)(g:X.N.Nodup)(hi:X.N[i]?=ρ x)(j:Loc X.env.scope x)(r:RelV v u)
 (h:∀s',Inv X pins (σ.set i (ρ v)) H s'->Q .unit s') (l:X.fn x=true\/X.env.scope.names.lookup x=ρ .local:=by first |exact .inl rfl |exact .inr rfl |assumption):wpAny M A (wgH X.env x u) Q E s:=
 xB I g hi j r (λs' a _=>h s' a) l
theorem E3{P:É}{w:World}{K:À}{T:Expr}(a it:Addr):Turn P w K T (O4 K a) [it] it (λi h=>h.IsListIter it a i) where
 mem:=by simp
 obj:=λi h st b g=>by
  have e:b=it:=by simpa using g
  subst e
  let{o,e,c,d}:=st
  exact{o,e,λv z=>by rw[d]at z;cases z}
 keep:=λi h l st k=>st.at λo e=>k it (by simp) o e
 item:=by
  intro X q hw r hc i f s σ H E I m st t;subst q hw r
  let{L,x,n,y}:=t
  let{A,B,p,M}:=I.list n
  let{u,N,O}:=B.get y
  let{C,f1,f2,D,G,J}:=m it (by simp)
  refine wpAny_pyNext_list_item st p.isList (x:=u) (by simpa using N) λl j Q=>?_;have R:Inv X f σ H {s with heap:=l}:=I.turned (t':=s.toks) (λb o g e=>(Q.2 b g).trans e) C f1 D G J
  let{o,e,c,d}:=id j
  exact{u,rfl,CT (s:={s with heap:=l}) e c d ⋯ {x,H,R,O,{rfl,λV S=>by rw[I.zC S n];exact y},j,λb g=>(m b g).1}}
 done:=by
   intro X q hw r hc i f s σ H E I m st t;subst q hw r
   let{L,n,y}:=t
   let{A,B,p,M}:=I.list n
   let{C,f1,f2,D,G,J}:=m it (by simp)
   have hl:=B.9;exact wpAny_pyNext_list_end (I.ok.hd hc) st p.isList (by simp;lia) λl U=>{rfl,I.turned (t':=s.toks) (λb o g e=>U b o g e) C f1 D G J}
 self:=λ_ _ _ _ _ st h=>wpAny_pyIter_listiter st h
theorem Bt{P:É}{w:World}{K:À}{C:Expr}(it:Addr)(lo:Int)(n:Nat):Turn P w K C (KW lo n) [it] it (λi h=>IsRangeIter h it (lo+(i:Nat)*1) ((n:Int)-(i:Nat)) 1) where
 mem:=by simp
 obj:=λi h st b c=>by
  have e:b=it:=by simpa using c
  subst e
  exact{_,st,λv z=>by
   have y:wh9 _=whF v:=z
   cases y}
 keep:=λi h f st k=>k it (by simp) _ st
 item:=by
  intro X j hw l hc i a s σ H E I g st m;subst j hw l
  let{p,f1,f2,q,r,u}:=g it (by simp)
  have A:=Walks.range (prog:=X.prog) (w:=X.w) (I.ok.hd hc) it lo 1 n;refine A.item i s _ _ m st λv f x B d D=>?_
  let{t,rfl}:=B
  have G:Inv X a σ H {s with heap:=f,toks:=x}:=I.turned (λb o c e=>D b o (by simpa using c) e) p f1 q r u;refine{1,CT (s:={s with heap:=f,toks:=x}) (n:="range_iterator") d rfl rfl ⋯ {.int (lo+i),H,G,{t,?_},⟨rfl,rfl⟩,d,λb c=>(g b c).1}};rw[Int.mul_one]
 done:=by
   intro X j hw l hc i a s σ H E I g st m;subst j hw l
   let{p,f1,f2,q,r,u}:=g it (by simp)
   exact wpAny_pyNext_range_end (I.ok.hd hc) st (by have:n<=i:=m;lia) λf J=>{rfl,I.turned (t':=s.toks) (λb o c e=>J b o c e) p f1 q r u}
 self:=λ_ _ _ _ _ st h=>wpAny_pyIter_rangeiter st h
set_option genInjectivity true in
inductive eA(K:À)(H:Hp):V->Value->Prop where
 |non:eA K H .non (.type "NoneType")
 |bl (x:Bool):eA K H (.bl x) (.type "bool")
 |int (i:Int):eA K H (.int i) (.type "int")
 |str (x:Str):eA K H (.str x) (.type "str")
 |flt (x:UInt64):eA K H (.flt x) (.type "float")
 |lst {a:Addr} {xs:List V} (e:H a=ρ (.lst xs)):eA K H (.ref a) (.type "list")
 |frz {a:Addr} {o:Obj} {xs:List V} (e:H a=ρ (.frz o (.lst xs))):eA K H (.ref a) (.type "list")
 |tup {a:Addr} {xs:List V} (e:H a=ρ (.tup xs)):eA K H (.ref a) (.type "tuple")
 |dK {a:Addr} {kvs:List (Key×V)} (e:H a=ρ (.dK kvs)):eA K H (.ref a) (.type "dict")
 |dT {a:Addr} {kvs:List (List Key×V)} (e:H a=ρ (.dT kvs)):eA K H (.ref a) (.type "dict")
 |ins {a C dx:Addr} {fs:List (Str×V)} (e:H a=ρ (.ins C dx fs)) (cl:wY K C) (ha:ø K (.ref C) "__class__"=ρ (ρ (.builtin "object.__class__")))
   (hn:wgT K (.builtin "object.__class__") "__get__"=ρ (ρ (.builtin "getset_descriptor.__get__"))) (sW:PySem.W.takesIn K (.builtin "object.__class__")=ρ true)
   (hm:PySem.W.mroIn K C (.type "object")=ρ true):eA K H (.ref a) (.ref C)
end
section
variable{X:Cx}{e:Expr}{es:List Expr}{te:TE}{t:TJ}{pos:Pos}
theorem bR(he:PE X e te)(g:Ě e τ pos.line X.5=pure false:=by rfl):PS X (.Expr e pos) (Gj te):=by
 refine{?_};intro a s σ H D I h;exact wpAny_Expr_any (bU (he a s σ H _ I h) λv s1 ⟨x,b,c,f,d⟩=>⟨σ,b,c,d⟩) I.quiet g
theorem aj(he:PE X e te):PS X (.Return (ρ e) pos) (Ml te):=by
 refine{?_};intro a s σ H D I h;exact wpAny_Return_some (bU (he a s σ H _ I h) λv s1 ⟨x,b,c,d,f⟩=>⟨x,σ,b,c,d,f⟩)
theorem iw(g:X.N.Nodup)(hi:X.N[i]?=ρ x)(j:Loc X.env.scope x)(l:X.fn x=true\/X.env.scope.names.lookup x=ρ .local:=by first |exact .inl rfl |exact .inr rfl |assumption):PG X (.Name x pos) (cA i):=by
 refine{?_};intro a s σ H v u Q I r h;exact wpAny_assign_Name (gZ I g hi j r (λc b=>{_,H,b,h}) l)
theorem Inv.pinned(I:Inv X g σ H s)(l:∀b∈j,sT X g H b)(r:∀b∈j,∃o,s.heap.get? b=ρ o/\∀v,o.data≠.cell v):Inv X (g++qw j s.heap) σ H s:=
 I.Dd λp f=>(ñ.mp f).elim (λz=>I.pin p (ü _ z)) λz=>by
  let{a,e}:=DS z
  let{h,f1,f2,_}:=l p.1 a
  let{o,c,d}:=r p.1 a
  rw[e]at c;cases c;exact⟨e,h,f1,f2,d⟩
theorem eM(h:PE X e te):PO X (ρ e) (OA te):=by
 refine{?_};intro a s σ H Q I hw;rw[evalPart_some];refine bU (h a s σ H _ I hw) λu s1 ⟨x,b,c,d,f⟩=>?_
 let{i,rfl,q}:=f
 let{t,rfl}:=d
 exact{ρ i,b,c,.int i t,q}
theorem JD(C:wgG (model X.prog X.w) X.A X.env X.xe)(hc:X.calm=true)(hi:PI X tg iter wi)(hg:PG X tg g)(j:E2 X body tb)
 (hs:∀x,Ň iter X.env x=pure x:=by intro _;rfl):QX X (.For tg iter body [] pos) (Md wi g tb):=by
 refine{?_};intro a s σ H D I tk h;refine wpAny_For (ß (Ņ tk (hi a s σ H _ I h)) (λv s1 ⟨U,h1⟩=>ß (Ņ U h1) (λQV s2 ⟨V,h2⟩=>?_) λ_ _ e=>e.2) λ_ _ e=>e.2) hs
 let{it,E,tn,J,H2,e,I2,T,Y,f2,W,{m0,w0},G}:=h2
 subst e;have k:∀{y:Hp},(∀b∈E,y b=τ)->∀b∈E,sT X a y b:=λhn b j=>{hn b j,(f2 b j).2};refine wgs (λn Z=>1<=Z.toks/\∃i l y,Inv X a l y Z/\tn i Z.heap/\(∀b∈E,y b=τ)/\W i n l y) ?_ m0 ⟨V,0,σ,H2,I2,Y,λb j=>(f2 b j).1,w0⟩;rintro n s3 ⟨Wh,i,p,R,I3,L,M,w3⟩;rcases G i n p R w3 with⟨stop,qn⟩ |⟨go,N,hN,step⟩
 .refine Ĕ C (bU (T.done X rfl rfl rfl hc i a s3 p R X.xe I3 (k M) L stop) λr s4 ⟨hr,I4⟩=>?_);subst hr;exact Ĭ ⟨p,R,I4,qn⟩
 .refine Ĕ C (ß (Ņ Wh (T.item X rfl rfl rfl hc i a s3 p R X.xe I3 (k M) L go)) (λr s4 ⟨Wi,u,hr,h4⟩=>?_) λ_ _ e=>e.2);subst hr;refine Ĕ C (ß (Ņ Wi h4) (λ_ s5 ⟨Wj,x,H5,I5,r5,y5,B,Sb⟩=>?_) λ_ _ e=>e.2);have Sd:=I5.pinned (k Sb) (T.obj _ _ B);refine Ĕ C (ß (Ņ Wj (hg _ s5 p H5 x u _ Sd r5 (step x H5 y5))) (λ_ s6 ⟨O,σ6,H6,I6,q6⟩=>?_) λ_ _ e=>e.2);refine Ĕ C (ß (Ņ O (j _ s6 σ6 H6 _ I6 O q6)) (λf S ⟨Wk,z⟩=>?_) λ_ _ e=>e.2)
  have again:∀{c:St} {q:Hp},Inv X (a++qw E s5.heap) c q S->N c q->∃m,m<n/\1<=S.toks/\∃i l y,Inv X a l y S/\tn i S.heap/\(∀b∈E,y b=τ)/\W i m l y:=λ{c q} t Q=>by
   let{m',hm,w7}:=hN c q Q
   refine{m',hm,Wk,i+1,c,q,t.gY,T.keep _ _ _ B λb j o e=>(t.pin (b,o) (ü _ (ü _ (fO j e)))).1,λb j=>?_,w7}
   let{o,e,d}:=T.obj _ _ B b j
   exact(t.pin (b,o) (ü _ (ü _ (fO j e)))).2.1
  cases f with
  |next=>let{c,q,t,Q}:=z;exact again t Q
  |cont=>let{c,q,t,Q}:=z;exact again t Q
  |brk=>let{c,q,t,z}:=z;exact⟨c,q,t.gY,z⟩
  |ret v=>let{x7,c,q,t,r7,z}:=z;exact⟨x7,c,q,t.gY,r7,z⟩
noncomputable def Se(z:Str)(t:TJ):TJ:=λacc σ H Q=>(acc++z).9<=sizeLine/\t (acc++z) σ H Q
theorem JE(h:PJ X (e::g::es) t):PE X (.JoinedStr (e::g::es) pos) (λσ H Q=>t Str.empty σ H λz H'=>Q (.str z) H'):={λa s σ H Q I q=>
 JoinedStr_many (bU (h a s σ H _ _ I q) λu s1 ⟨z,b,c,r,d⟩=>{.str z,b,c,r,d})}
noncomputable def Sf(te:TE)(t:TJ):TJ:=λacc σ H Q=>te σ H λv H1=>(∃i,v=.int i/\i.natAbs.log2<1920/\(acc++(toString i:String)).length<=sizeLine/\t (acc++(toString i:String)) σ H1 Q)\/(v=.non/\(acc++("None":Str)).length<=sizeLine/\t (acc++("None":Str)) σ H1 Q)
end
section
variable{X:Cx}{st:Stmt}{t:TS}
theorem ft{E:Value->Shared->Prop}{Q:Value->Shared->Prop}(I:Inv X g σ H s)(j:Gl X x)(l:X.mg x=ρ u)(h:Q u s)
 (hd:(x==("__debug__":Str))=false:=by decide):wpAny (model X.prog X.w) X.A (eval (.Name x pos) X.5) Q E s:=
 weX I.ok.kind j (Calls.loadGlobal_global (by rw[I.ok.glob];exact I.mod.glob.keeps I.bk) l h) hd
theorem iT{E:Value->Shared->Prop}{Q:Value->Shared->Prop}(I:Inv X g σ H s)(j:Gl X x)(l:X.mg x=τ)(p:ì x=ρ u)(h:Q u s)
 (hn:x≠"__name__":=by decide) (hd:(x==("__debug__":Str))=false:=by decide):wpAny (model X.prog X.w) X.A (eval (.Name x pos) X.5) Q E s:=by
 let{c,a,b}:=I.mod.blt
 exact weX I.ok.kind j (Calls.loadGlobal_builtin (by rw[I.ok.glob];exact I.mod.glob.keeps I.bk) l (by rw[I.ok.blt];exact a.keeps I.bk) ((b x hn).trans p) h) hd
theorem bJ(g:Gl X x)(j:X.mg x=ρ u)(r:RelV v u)(hd:(x==("__debug__":Str))=false:=by decide):PE X (.Name x pos) (tC v):=
 {λ_ _ _ H _ I h=>ft I g j ⟨v,H,I,r,h⟩ hd}
theorem gJ(g:Gl X x)(j:X.mg x=τ)(l:ì x=ρ u)(r:RelV v u)(hn:x≠"__name__":=by decide)(hd:(x==("__debug__":Str))=false:=by decide):PE X (.Name x pos) (tC v):=
 {λ_ _ _ H _ I h=>iT I g j l ⟨v,H,I,r,h⟩ hn hd}
theorem a8(g:PS X st t):yz X [st] t:=by
 refine{?_};intro a s σ H D I h;refine İ (bU (g a s σ H D I h) λf s1 q=>?_)
 cases f with
 |next=>exact Ĭ q
 |ret v=>exact q
 |brk=>exact q
 |cont=>exact q
theorem PS.P8(h:PS X st t):QX X st t:={λa s σ H D I _ q=>h a s σ H D I q}
theorem Gn(g:QX X st t):E2 X [st] t:=by
 refine{?_};intro a s σ H D I b h;refine İ (bU (g a s σ H D I b h) λf s1 q=>?_)
 cases f with
 |next=>exact Ĭ q
 |ret v=>exact q
 |brk=>exact q
 |cont=>exact q
end
section
variable{X:Cx}{pins:List (Addr×Obj)}{σ:St}{H:Hp}{s:Shared}{E:Value->Shared->Prop}
theorem Inv.kT(I:Inv X pins σ H s)(E:Value->Shared->Prop):Inv (X.kT E) pins σ H s:={I.ok.kT E,I.os,I.bare,I.base,I.loc,I.cell,I.free,I.gB,I.pin,I.b7,I.len}
theorem Inv.eS(I:Inv (X.kT E) pins σ H s):Inv X pins σ H s:=⟨I.ok.eS,I.os,I.bare,I.base,I.loc,I.cell,I.free,I.gB,I.pin,I.b7,I.len⟩
theorem SP.eS(h:SP (X.kT E) pins D f s'):SP X pins D f s':=by
 cases f with
 |next=>let{a,b,I,q}:=h;exact⟨a,b,I.eS,q⟩
 |brk=>let{a,b,I,q}:=h;exact⟨a,b,I.eS,q⟩
 |cont=>let{a,b,I,q}:=h;exact⟨a,b,I.eS,q⟩
 |ret u=>let{v,a,b,I,r,q}:=h;exact⟨v,a,b,I.eS,r,q⟩
theorem yz.Ja{st:List Stmt}{t:TS}(h:yz X.Ja st t):yz X st t:={λpins s σ H D I hw=>
 ß (h pins s σ H D (I.kT _) hw) (λ_ _ q=>q.eS) λ_ _ z=>ã z}
theorem Inv.Go(I:Inv X pins σ H s):Bp X.prog X.w X.K X.mg X.base X.A X.stack s H:=
 {I.ok.frames,I.ok.mod,I.bs,Õ I.ok.FT I.sz,I.stack,I.mI,I.b7,I.bare}
theorem Inv.big(I:Inv X pins σ H s):Ĉ<s.8:=by
 have h:è<s.8:=(I.mod.glob.keeps I.bk).lt;exact Nat.lt_trans ⋯ h
end
section
variable{X:Cx}{a b:Expr}{pos:Pos}{tA R7:TT}{rest:List Expr}
theorem jE(ha:PT X a tA)(j:PW X (.BoolOp .And (b::rest) pos) R7):PW X (.BoolOp .And (a::b::rest) pos) (Oq tA R7):=by
 refine{?_};intro i d s σ H Q I h;refine isTrue_and (bU (ha d s σ H _ I h) λc s1 ⟨e,f,g⟩=>?_)
 cases c with
 |true=>exact j i d s1 σ e Q f g
 |false=>exact⟨e,f,g⟩
theorem cH(ha:PT X a tA)(j:PW X (.BoolOp .Or (b::rest) pos) R7):PW X (.BoolOp .Or (a::b::rest) pos) (VZ tA R7):=by
 refine{?_};intro i d s σ H Q I h;refine isTrue_or (bU (ha d s σ H _ I h) λc s1 ⟨e,f,g⟩=>?_)
 cases c with
 |true=>exact⟨e,f,g⟩
 |false=>exact j i d s1 σ e Q f g
theorem eT{i:Nat}{x:Str}{e:Expr}{j:TE}{g:Pos}(l:X.N.Nodup)(hi:X.N[i]?=ρ x)(p:Loc X.env.scope x)(he:PE X e j)(r:Ě e (ρ (.Name x g)) pos.line X.5=pure false:=by rfl)(t:X.fn x=true\/X.env.scope.names.lookup x=ρ .local:=by first |exact .inl rfl |exact .inr rfl |assumption) :
 PS X (.Assign [.Name x g] e pos) (E1 j (cA i)):=by
 refine{?_};intro a s σ H D I h;refine Ŵ (bU (he a s σ H _ I h) λv s1 ⟨y,b,c,d,f⟩=>?_) r;exact gZ c l hi p d (λs2 k=>{_,b,k,f}) t
theorem yB{i:Nat}{x:Str}{e:Expr}{p:TE}{op:Operator}{t:Ot}{g:Pos}(C:X.N.Nodup)(hi:X.N[i]?=ρ x)(j:Loc X.env.scope x)(he:PE X e p)(J:QU X op t)(T:X.fn x=true\/X.env.scope.names.lookup x=ρ .local:=by first |exact .inl rfl |exact .inr rfl |assumption) :
 PS X (.AugAssign (.Name x g) op e pos) (RV i p t):=by
 refine{?_};intro a s σ H D I h
 let{v,o,h}:=h
 let{m,hn,hl}:=I.loc
 have n:O3 X.env.scope x:=by rcases j with k |k;exact .inl k;exact .inr (.inl k)
 let{u,r,l}:=hl i x v hi o n
 refine wpAny_AugAssign_Name ?_
 have go:wpAny (model X.prog X.w) X.A (eval e X.5) (λw d=>wpAny (model X.prog X.w) X.A (inplaceOp op u w) (λr f=>wpAny (model X.prog X.w) X.A (wgH X.env x r) (λ_=>SP X a D .next) X.xe f) X.xe d) X.xe s:=by
  refine bU (he a s σ H _ I h) λw s1 ⟨y,q,B,E,G⟩=>?_;refine bU (J a s1 σ q v y u w _ B r E G) λz s2 ⟨U,L,M,O,Q⟩=>?_;exact gZ M C hi j O (λV R=>{_,L,R,Q}) T
 rcases l with⟨hk,S⟩ |⟨hk,c,hc,b⟩
 .exact ο I.ok.kind hk hn S go
 .rcases hk with hk |hk
  .exact wgr I.ok.kind hk hc b go
  .rcases j with k |k
   .have:X.env.scope.names.lookup x=ρ .free:=hk;rw[k]at this;cases this
   .have:X.env.scope.names.lookup x=ρ .free:=hk;rw[k]at this;cases this
theorem Gp(I:Inv X g σ H s)(r:RelV x v)(ty:S2 X.K T x H) :
 s.TypeIs v T/\∀a,v=.ref a->∃ob,s.heap.get? a=ρ ob/\ob.dict=τ:=by
 cases x with
 |str z=>
  let{t,rfl}:=r
  cases(show T="str" from ty);exact{Ś s z t,λ_ e=>nomatch e}
 |int i=>
  let{t,rfl}:=r
  cases(show T="int" from ty);exact{typeIs_int s i t,λ_ e=>nomatch e}
 |ref p=>
  cases r;rcases ty with⟨rfl,j,f⟩ |⟨rfl,o,hk,hc,hd⟩ |⟨rfl,hk⟩ |⟨rfl,S,n,hk⟩
  .let{h,_,pl,_}:=I.list f
   refine{pl.isList.typeIs,λa e=>?_};cases e
   let{o,n,e,c,hd,_}:=pl
   exact⟨o,e,hd⟩
  .refine{{o,I.fJ p o hk,hc},λa e=>?_};cases e;exact{o,I.fJ _ o hk,hd}
  .have z:∃o,s.heap.get? p=ρ o/\o.ExactDict:=by
    rcases hk with⟨b,hk⟩ |⟨b,hk⟩
    .let{_,_,_,_,o,_,_,e,ex,_}:=I.b7 p _ hk
     exact⟨o,e,ex⟩
    .let{_,_,_,_,o,_,_,e,ex,_}:=I.b7 p _ hk
     exact⟨o,e,ex⟩
   let{o,e,ex}:=z
   refine{⟨o,e,ex.1⟩,λa d=>?_};cases d;exact⟨o,e,ex.2.1⟩
  .let{o,_,_,_,e,ex,_}:=I.b7 p _ hk
   refine{⟨o,e,ex.1⟩,λa d=>?_};cases d;exact⟨o,e,ex.2.1⟩
 |_=>exact ã ty
theorem AP.eS{E:Value->Shared->Prop}{Q:List V->Hp->Prop}(h:AP (X.kT E) g σ Q us s'):AP X g σ Q us s':=by
 let{a,b,I,r,q}:=h
 exact⟨a,b,I.eS,r,q⟩
end
section
variable{t u:TS}
def Bu(t u:TS):TS:=λD σ H=>t (D.M9 (u D)) σ H
def P9(c:TT)(t u:TS):TS:=λD σ H=>c σ H λb H1=>if b=true then t D σ H1 else u D σ H1
theorem Inv.E4{X:Cx}(I:Inv X g σ H s)(j:s.8<=b)(hn:H' b=τ):sT X g H' b:=by
 refine{hn,Ŀ (Ö I.lt j),I.Sa j,.inr (Õ I.sz j),λx c e z=>?_,λp a z=>?_}
 .let{v,q}:=I.cell x c e
  exact absurd (Ö q.lt (by rw[z];exact j)) (ò _)
 .exact absurd (Ö (Æ (I.pin p a).1) (by rw[z];exact j)) (ò _)
theorem nj{X:Cx}(g:Dc X E):Passes (qH X.prog X.w) X E:=λa σ H s k d I h=>by
 let{e,C,f,i,rfl,c,bare,un,b7,F,j}:=h
 exact g a σ i d e C f (I.xx c un b7 bare λb z=>absurd z (by simp)) (F.low I.sz) j
end
section
variable{fs ex:List Addr}{H:Hp}{h h':Heap}{a:Addr}{o:HO}
theorem Un.kept(k:∀b u,h.get? b=ρ u->h'.get? b=ρ u):Un fs ex H H h h':=
 {λb ob q _ _ _=>k b ob q,λb ob q _ _ _=>{ob.slots,k b ob q},λ_ _ _ n _=>n,λb ob q _=>{ob,k b ob q},λ_ _ q=>q,λ_ _ _ q=>q,λ_ ps q=>{#[],by rw[q];simp}}
theorem Un.refl:Un fs ex H H h h:=Un.kept λ_ _ q=>q
theorem Un.laid(k:∀b u,h.get? b=ρ u->h'.get? b=ρ u)(g:h.7<=a)(hn:H a=τ):Un fs ex H (upd H a o) h h' where
 keep:=λb u q _ _ _=>k b u q
 slot:=λb u q _ _ _=>{u.slots,k b u q}
 free:=λb u q n _=>by rw[a9 (Ñ (Ö (Æ q) g))];exact n
 there:=λb u q _=>{u,k b u q}
 nY:=λb c q=>by rw[a9 (ae q hn)];exact q
 mY:=λb u c q=>by rw[a9 (ae q hn)];exact q
 nZ:=λb ps q=>{#[],by rw[a9 (ae q hn),q];simp}
end
section
variable{X:Cx}{pins:List (Addr×Obj)}{σ:List (Option V)}{H:Hp}{s:Shared}{h':Heap}
theorem Inv.tok(I:Inv X pins σ H s)(t:Nat):Inv X pins σ H {s with toks:=t}:=I.un (h':=s.heap) (t':=t) Un.refl I.b7
theorem Inv.kept(I:Inv X pins σ H s)(k:∀b u,s.heap.get? b=ρ u->h'.get? b=ρ u):Inv X pins σ H {s with heap:=h',toks:=t'}:=I.un (Un.kept k) (I.b7.kept k)
theorem Inv.laid(I:Inv X pins σ H s)(k:∀b u,s.heap.get? b=ρ u->h'.get? b=ρ u)(g:s.8<=a)(new:bL X.prog X.w (upd H a o) h' a o) :
 Inv X pins σ (upd H a o) {s with heap:=h',toks:=t'}:=I.un (Un.laid k g (I.b7.fresh g)) (I.b7.laid k g new)
theorem af{i j pos}:PE X (.Constant (.int i) j pos) (tC (.int i)):={λ_ _ _ H _ I h=>wpAny_Constant_int {.int i,H,I.tok _,{_,rfl},h}}
theorem ai{x j pos}:PE X (.Constant (.str x) j pos) (tC (.str x)):={λ_ _ _ H _ I h=>wdJ {.str x,H,I.tok _,{_,rfl},h}}
theorem Mm:QU X .Add (W2 λi j=>i+j):=by
 intro a s σ H x y v u Q I b c h
 let{i,j,d,e,q}:=h
 subst d;subst e
 let{t,rfl}:=b
 let{f,rfl}:=c
 exact iadd_int {.int _,H,I.tok _,{_,rfl},q}
theorem Gq:P5 X Rz:=by
 intro value slice a s σ H x y v u Q I b d h e
 let{z,i,c,rfl,rfl,m,f,q}:=h
 let{t,rfl}:=b
 let{n,rfl}:=d
 let{j,g,o,p,k,l}:=tJ f
 have hl:z.cps.toList.9=z.9:=by simp[ı]
 rw[hl]at g k l;have hn:=o5
 exact tail_any (Ś s z t) wfk.lookup (getItem_str (c:=c) (by
  grind) (by grind) {.str {#[c]},H,I.tok _,{_,rfl},q}) e
theorem Mo:PJ X [] RJ:={λb s σ H a Q I h=>joinParts_nil {a,H,I.tok _,{_,rfl},h.2} h.1}
end
section
variable{X:Cx}{tg:Expr}
theorem aW{l:Expr}{g:TE}(hl:PE X l g):PI X tg l (Ou X.K g):=by
 refine{?_};intro c s σ H R I h;refine bU (hl c s σ H _ I h) λv s1 ⟨x,f,d,i,j⟩=>?_
 let{a,e,{r,k},q}:=j
 subst e;cases i
 let{m,t,p,u}:=d.list k
 refine we7 p.isList ?_;refine{s1.8,[s1.8],_,_,f,rfl,d.kept (t':=s1.toks) λb o e=>Ð _ e,E3 a _,{_,ç _ rfl,rfl,rfl},λb n=>?_,q};have e:b=s1.8:=by simpa using n
 subst e;exact d.E4 (Ç _) (d.b7.fresh (Ç _))
theorem zF{g:List (Addr×Obj)}{σ:St}{H:Hp}{s:Shared}{R:It->Hp->Prop}{E:Value->Shared->Prop}{lo hi:Int}{t u v:Tok}{tk:Nat}(I:Inv X g σ H s)(j:-(2^62)<=lo)(l:lo<2^62)(p:-(2^62)<=hi)(r:hi<2^62)
 (q:R (KW lo (hi-lo).toNat) H):wpAny (model X.prog X.w) X.A (pyIter (.ref s.8)) (P4 X g σ tg R) E {s with heap:=s.heap.push {cls:=.type "range",data:=.fields #[.int lo t,.int hi u,.int 1 v]},toks:=tk}:=by
 refine wpAny_pyIter_range (IsRange.new ..) (small_one j l p r) ?_;have a:Inv X g σ H {s with heap:=s.heap.push {cls:=.type "range",data:=.fields #[.int lo t,.int hi u,.int 1 v]},toks:=tk}:=I.kept λb o e=>Ð _ e
 refine{(s.heap.push {cls:=.type "range",data:=.fields #[.int lo t,.int hi u,.int 1 v]}).7,[(s.heap.push {cls:=.type "range",data:=.fields #[.int lo t,.int hi u,.int 1 v]}).7],_,_,H,rfl,
  a.kept (t':=tk) λb o e=>Ð _ e,Bt _ lo (hi-lo).toNat,?_,λb c=>?_,q}
 .have d:lo+((0:Nat):Int)*1=lo:=by simp
  have f:(((hi-lo).toNat:Nat):Int)-((0:Nat):Int)=Builtin.Range.rangeSize lo hi 1:=by rw[rangeSize_one];split<;>lia
  show IsRangeIter _ _ (lo+((0:Nat):Int)*1) ((((hi-lo).toNat:Nat):Int)-((0:Nat):Int)) 1;rw[d,f];exact ç _ rfl
 .have e:b=(s.heap.push {cls:=.type "range",data:=.fields #[.int lo t,.int hi u,.int 1 v]}).7:=by simpa using c
  subst e;exact a.E4 (Ç _) (a.b7.fresh (Ç _))
theorem cR(g:Gl X "range")(l:X.mg "range"=τ)(ha:PA X [a] C)(J:starEach [a] X.5=[(false,eval a X.5)]:=by rfl):PI X tg (.Call (.Name "range" p) [a] [] pos) (Ov C):=by
 refine{?_};intro b s σ H R I h;refine Call_ (iT I g l boot_range (wbY (bU (ha pos b s σ H _ I h) λm s1 ⟨n,o,d,f,c⟩=>?_) J rfl))
 let{j,e,c,i,q}:=c
 subst e
 cases f with
 |cons r k=>
  cases k
  let{t,rfl}:=r
  exact call_range_1 (zF d () () c i (by simpa using q))
theorem qK(l:Gl X "range")(C:X.mg "range"=τ)(ha:PA X [a,b] J)(T:starEach [a,b] X.5=[(false,eval a X.5),(false,eval b X.5)]:=by rfl)(g:starEach [b] X.5=[(false,eval b X.5)]:=by rfl) :
 PI X tg (.Call (.Name "range" p) [a,b] [] pos) (Ow J):=by
 refine{?_};intro c s σ H R I h;refine Call_ (iT I l C boot_range (wbY (bU (ha pos c s σ H _ I h) λw s1 ⟨x,y,k,m,d⟩=>?_) (by rw[T,g]) (by rw[g];rfl)))
 let{i,j,e,{d,n,o,u},q}:=d
 subst e
 cases m with
 |cons r f=>
  cases f with
  |cons v f=>
   cases f
   let{t,rfl}:=r
   let{z,rfl}:=v
   exact call_range_2 (zF k d n o u q)
theorem Bv(C:wgG (model X.prog X.w) X.A X.env X.xe)(hc:X.calm=true)(hi:PI X tg iter wi)(hg:PG X tg g)(j:yz X body tb)
 (hs:∀x,Ň iter X.env x=pure x:=by intro _;rfl):PS X (.For tg iter body [] pos) (Md wi g tb):=by
 refine{?_};intro a s σ H D I h;refine wpAny_For (bU (hi a s σ H _ I h) λv s1 h1=>bU h1 λQV s2 h2=>?_) hs
 let{it,E,tn,J,H2,e,I2,T,R,f2,W,{m0,w0},G}:=h2
 subst e;have k:∀{y:Hp},(∀b∈E,y b=τ)->∀b∈E,sT X a y b:=λhn b j=>{hn b j,(f2 b j).2};refine wgs (λn s'=>∃i l y,Inv X a l y s'/\tn i s'.heap/\(∀b∈E,y b=τ)/\W i n l y) ?_ m0 ⟨0,σ,H2,I2,R,λb j=>(f2 b j).1,w0⟩;rintro n s3 ⟨i,p,Q,I3,L,M,w3⟩;rcases G i n p Q w3 with⟨stop,qn⟩ |⟨go,N,hN,step⟩
 .refine Ĕ C (bU (T.done X rfl rfl rfl hc i a s3 p Q X.xe I3 (k M) L stop) λr s4 ⟨S,I4⟩=>?_);subst S;exact Ĭ ⟨p,Q,I4,qn⟩
 .refine Ĕ C (bU (T.item X rfl rfl rfl hc i a s3 p Q X.xe I3 (k M) L go) λr s4 ⟨u,S,h4⟩=>?_);subst S;refine Ĕ C (bU h4 λ_ s5 ⟨x,H5,I5,r5,y5,B,U⟩=>?_);have V:=I5.pinned (k U) (T.obj _ _ B);refine Ĕ C (bU (hg _ s5 p H5 x u _ V r5 (step x H5 y5)) λ_ s6 ⟨Y,H6,I6,q6⟩=>?_);refine Ĕ C (bU (j _ s6 Y H6 _ I6 q6) λf Z z=>?_)
  have again:∀{c:St} {q:Hp},Inv X (a++qw E s5.heap) c q Z->N c q->∃m,m<n/\∃i l y,Inv X a l y Z/\tn i Z.heap/\(∀b∈E,y b=τ)/\W i m l y:=λ{c q} t O=>by
   let{m',hm,w7}:=hN c q O
   refine{m',hm,i+1,c,q,t.gY,T.keep _ _ _ B λb j o e=>(t.pin (b,o) (ü _ (ü _ (fO j e)))).1,λb j=>?_,w7}
   let{o,e,d}:=T.obj _ _ B b j
   exact(t.pin (b,o) (ü _ (ü _ (fO j e)))).2.1
  cases f with
  |next=>let{c,q,t,O}:=z;exact again t O
  |cont=>let{c,q,t,O}:=z;exact again t O
  |brk=>let{c,q,t,z}:=z;exact⟨c,q,t.gY,z⟩
  |ret v=>let{x7,c,q,t,r7,z}:=z;exact⟨x7,c,q,t.gY,r7,z⟩
theorem R8{f:Value->Value->Sem Value}{C:Int->Int->Prop}{g:Int->Int->Int}
 (rule:∀(i j:Int) (t u:Tok) (s:Shared) (Q:Value->Shared->Prop) (E:Value->Shared->Prop),C i j->Q (.int (g i j) s.toks) {s with toks:=s.toks+1}->wpAny (model X.prog X.w) X.A (f (.int i t) (.int j u)) Q E s) :
 mH X f (rI C λi j=>.int (g i j)):=by
 intro a s σ H x y v u Q I b c h
 let{i,j,rfl,rfl,hc,q}:=h
 let{t,rfl}:=b
 let{d,rfl}:=c
 exact rule i j t d s _ _ hc {.int (g i j),H,I.tok _,{_,rfl},q}
theorem Pa{f:Value->Value->Sem Value}{g:Int->Int->Int}
 (rule:∀(i j:Int) (t u:Tok) (s:Shared) (Q:Value->Shared->Prop) (E:Value->Shared->Prop),Q (.int (g i j) s.toks) {s with toks:=s.toks+1}->wpAny (model X.prog X.w) X.A (f (.int i t) (.int j u)) Q E s) :
 mH X f (FK λi j=>.int (g i j)):=by
 intro a s σ H x y v u Q I b c h
 let{i,j,rfl,rfl,q}:=h
 let{t,rfl}:=b
 let{d,rfl}:=c
 exact rule i j t d s _ _ {.int (g i j),H,I.tok _,{_,rfl},q}
theorem eU:mH X (binaryOp .Add) (FK λi j=>.int (i+j)):=Pa λ_ _ _ _ _ _ _ q=>add_int q
theorem uo:mH X (binaryOp .Sub) (FK λi j=>.int (i-j)):=Pa λ_ _ _ _ _ _ _ q=>sub_int q
theorem lq:mH X (binaryOp .Mult) (rI DT λi j=>.int (i*j)):=R8 λ_ _ _ _ _ _ _ hc q=>mul_int q hc.ok
theorem gK:mH X (binaryOp .FloorDiv) (rI LN λi j=>.int (i/j)):=R8 λi j _ _ _ _ _ hc q=>by
 have a:(0:Int)<j:=hc.1;have b:j<1073741824:=hc.2;exact floordiv_int 1.0 (by rw[Int.fdiv_eq_ediv_of_nonneg i 1.0];exact q) (.inl (PyProof.noPylong_small 1.0))
theorem eB:mH X (binaryOp .Mod) (rI (λ_ j=>0<j) λi j=>.int (i%j)):=R8 λi j _ _ _ _ _ hc q=>by
 have a:(0:Int)<j:=hc;exact mod_int' () (by rw[Int.fmod_eq_emod_of_nonneg i ()];exact q)
theorem Mp:mH X (binaryOp .Pow) (rI Rx λi j=>.int (i^j.toNat)):=R8 λ_ _ _ _ _ _ _ hc q=>pow_int_small hc.1 hc.2.1 hc.2.2 q
theorem Wl{f:Value->Sem Value}{g:Int->Int}
 (rule:∀(i:Int) (t:Tok) (s:Shared) (Q:Value->Shared->Prop) (E:Value->Shared->Prop),Q (.int (g i) s.toks) {s with toks:=s.toks+1}->wpAny (model X.prog X.w) X.A (f (.int i t)) Q E s) :
 RT X f (rU λi=>.int (g i)):=by
 intro a s σ H x v Q I b h
 let{i,rfl,q}:=h
 let{t,rfl}:=b
 exact rule i t s _ _ {.int (g i),H,I.tok _,{_,rfl},q}
theorem Bw:RT X (unaryOp .USub) (rU λi=>.int (-i)):=Wl λ_ _ _ _ _ q=>neg_int q
theorem b9:mH X (binaryOp .Add) (λx y H Q=>∃i j,x=.str i/\y=.str j/\i.9+j.9<=sizeLine/\Q (.str (i++j)) H):=by
 intro a s σ H x y v u Q I b c h
 let{i,j,rfl,rfl,d,q}:=h
 let{t,rfl}:=b
 let{e,rfl}:=c
 exact whG (λe f=>{.str (i++j),H,I.tok _,{_,rfl},q}) d
theorem zG:mH X (inplaceOp .Add) (λx y H Q=>∃i j,x=.str i/\y=.str j/\i.9+j.9<=sizeLine/\Q (.str (i++j)) H):=by
 intro a s σ H x y v u Q I b c h
 let{i,j,rfl,rfl,d,q}:=h
 let{t,rfl}:=b
 let{e,rfl}:=c
 exact iadd_str (λe f=>{.str (i++j),H,I.tok _,{_,rfl},q}) d
theorem E5(hc:X.calm=true):d7 X (.builtin "max") (λxs H Q=>∃i j,xs=[.int i,.int j]/\Q (.int (if j>i then j else i)) H):=by
 intro b s σ H xs c Q I r h
 let{i,j,rfl,q}:=h
 let{u,d,rfl,{t,rfl},{e,rfl}}:=vals2 r
 refine max_two_ints (I.ok.hd hc) λf g k=>{_,H,I.kept k,?_,q}
 by_cases a:j>i
 .rw[if_pos a,if_pos a];exact{_,rfl}
 .rw[if_neg a,if_neg a];exact{_,rfl}
theorem E6(hc:X.calm=true):d7 X (.builtin "min") (λxs H Q=>∃i j,xs=[.int i,.int j]/\Q (.int (if j<i then j else i)) H):=by
 intro b s σ H xs c Q I r h
 let{i,j,rfl,q}:=h
 let{u,d,rfl,{t,rfl},{e,rfl}}:=vals2 r
 refine min_two_ints (I.ok.hd hc) λf g k=>{_,H,I.kept k,?_,q}
 by_cases a:j<i
 .rw[if_pos a,if_pos a];exact{_,rfl}
 .rw[if_neg a,if_neg a];exact{_,rfl}
theorem E7{CX:FL}{P:É}{w:World}{K:À}{mg:Str->Option Value}{base:Heap}{N ps:List Str}{g:Str}{scope:ý}{f:Addr}{cd:Value}{A:Around}{outer:List Env}{s s1:Shared}{H:Hp}{E:XK}{us:List Value}{vs:List V}
 (S:di N ps scope) (hd:A.handled=τ) (j:Bp P w K mg base A outer s H) (hl:vs.9=ps.9) (r:Vals vs us)
 (x:InCallC s s.heap.objs.size (bindL (envOfC g scope s.heap.objs.size f cd).kindOf (ps.zip us) λ_=>τ) (cellsFrom (s.8+1) scope.names []) (bindC (envOfC g scope s.heap.objs.size f cd).kindOf (ps.zip us) λ_=>τ) s1) :
 Inv (sU CX P w K mg base N g scope f cd A outer s H E) [] (start N vs) H s1:=by
 have D:ps.9<=N.9:=by have:=congrArg Ĳ S.pre;rw[â]at this;lia
 let{B,I,rfl,hk}:=x.done
 have l:∀b:Addr,b∉(sU CX P w K mg base N g scope f cd A outer s H E).ex:=λb z=>absurd (show b∈([]:List Addr) from z) (by simp)
 refine{{j.mod,S.kind,rfl,rfl,Ç _,λy z c B d=>?_,λy m=>?_,λy c _ h=>?_,λ_=>hd,Around.frames_deeper j.frames,.inr ⟨rfl,rfl⟩,λb z=>absurd z (l b),j.bs,j.FT,λb _ _=>l b,λb z=>absurd z (l b),j.oJ,j.Jn},
  rfl,j.bare,Un.kept hk,{_,x.toInCall.ns,λi y v B d J=>?_},λy c h=>{_,x.cell y c h},j.b7.fresh (Ç _),λy c h=>?_,λp o=>absurd (show p∈([]:List (Addr×Obj)) from o) (by simp),j.b7.kept hk,?_}
 .exact name_of_addr x.apart (Ÿ B) (Ÿ d)
 .have m:scope.names.lookup y=ρ .cell\/scope.names.lookup y=ρ .free:=m;rcases m with m |m
  .exact zt m
  .exact absurd rfl (S.LO _ (Ÿ m))
 .exact wev (x.above y c (Ÿ h))
 .have hi:i<vs.9:=by
   unfold start at d
   by_cases hi:i<vs.9
   .exact hi
   .rw[ĉ (by simpa using hi)]at d;rw[List.getElem?_replicate]at d;split at d<;>cases d
  have ha:vs[i]?=ρ v:=by
   unfold start at d;rw[ģ (by simpa using hi),Ê]at d
   cases e:vs[i]? with
   |none=>rw[e]at d;cases d
   |some a=>rw[e]at d;cases d;rfl
  let{u,C,G}:=r.get ha
  have o:ps[i]?=ρ y:=by
   rw[<-S.pre,wdK ()];exact B
  have t:ps.Nodup:=by rw[<-S.pre];exact S.nd.sublist (wf5 _ _)
  refine{u,G,?_};rcases S.par y (ê o) with k |k
  .exact .inl {k,xa t o C k}
  .let{c,e}:=zt (n:=s.8+1) k
   refine .inr {.inl k,c,e,?_};have q:=x.cell y c e;rw[xc t o C (by show scope.names.lookup y≠_;rw[k];decide)]at q;exact q
 .exact j.b7.fresh (wev (x.above y c (Ÿ h)))
 .unfold start;show _=N.9;rw[Ò,Á,Ő]
  lia
theorem Le{CX:FL}{P:É}{w:World}{K:À}{mg:Str->Option Value}{base:Heap}{k:Nat}{f:Addr}{name g:Str}{l:Arguments}{body:List Stmt}{scope:ý}{dV kV C pm j ct oc:Value}{an od:Option Addr}
 {T:Array (Option Value)} {N ps:List Str} {sp:Sp} (lk:K.lookup f=ρ {oc,od,.func (Į name g l body scope dV kV C pm an j ct),T}) (U:wdV K j g=true) (S:di N ps scope)
 (len:∀vs H Q E,sp vs H Q E->vs.9=ps.9)
 (p:∀(A:Around) (outer:List Env) (s:Shared) (H:Hp) (vs:List V) (Q:VK) (E:XK),cO k (A.deeper (envOfC g scope s.heap.objs.size f j))->sp vs H Q E ->
   ∃t,yz (sU CX P w K mg base N g scope f j A outer s H E) body t/\t (Ends.fn Q) (start N vs) H) :
 aI P w K mg base CX (k+1) f (Į name g l body scope dV kV C pm an j ct) ps sp:=by
 refine{len,λA outer s H args M vs Q E z i O r m=>?_};have hl:=len _ _ _ _ m;have L:K.In s.heap:=i.mod.Jm.keeps λb o e=>(i.bs b o e).1;have B:s.heap.NoLimit:=i.mod.nolimit.keeps λb o e=>(i.bs b o e).1
 have c:∀y∈ps.zip M,scope.names.lookup y.1=ρ .local\/(scope.names.lookup y.1=ρ .cell/\((cellsFrom (s.8+1) scope.names []).lookup y.1).isSome=true):=λ⟨n,v⟩ R=>by
  rcases S.par n (wfD R).1 with q |q
  .exact .inl q
  .exact .inr {q,wfI _ _ _ (.inl q)}
 refine codeAny_call_function z.depth (L _ _ lk) rfl S.co S.gen rfl (PySem.W.codeRec_of L U) (O _ _ _ _ ?_);refine wpAny_newFunctionEnv_cells S.kind c λenv X s1 x=>?_;subst X;refine{B.keeps x.toInCall.keep,codeAny_func ?_}
 let{t,Y,Z}:=p A outer s H vs Q E (z.deeper _) m
 have I:Inv (sU CX P w K mg base N g scope f j A outer s H E) [] (start N vs) H s1:=E7 S z.hd i hl r x;refine ß (Y [] s1 (start N vs) H _ I Z) (λfl D d=>?_) λe D d=>d
 have fin:∀{a:St} {h:Hp} {v:V} {u:Value},Inv (sU CX P w K mg base N g scope f j A outer s H E) [] a h D->RelV v u->Q v h->CE outer P w H s Q u D:=
  λ{a h v u} J G q=>⟨v,h,J.os,J.bare,J.base,J.b7,G,q⟩
 cases fl with
 |ret u=>
  let{v,a,h,J,G,q}:=d
  exact fin J G q
 |next=>
  let{a,h,J,q}:=d
  exact fin (v:=V.non) (u:=ä) J rfl q
 |brk=>
  let{_,_,_,q}:=d
  exact ã q
 |cont=>
  let{_,_,_,q}:=d
  exact ã q
theorem oQ:d7 X (.builtin "len") (λxs H Q=>∃p ys,xs=[.ref p]/\(aL X.K H p ys\/gF X.K H p ys)/\Q (.int ys.9) H):=by
 intro e s σ H xs i Q I r h
 let{p,ys,rfl,a,q}:=h
 let{u,rfl,f}:=vals1 r
 cases f;have hn:=o5;rcases a with a |a
 .let{c,d,pl,g}:=I.list a
  have b:=d.9;exact weE pl.isList (by grind) {.int ys.9,H,I.tok _,{s.toks+1,by grind},q}
 .let{c,d,pl,g}:=I.tuple a
  have b:=d.9;exact len_tuple pl (by grind) {.int ys.9,H,I.tok _,{s.toks+1,by grind},q}
theorem yC:d7 X (.builtin "len") (λxs H Q=>∃z,xs=[.str z]/\z.9<=sizeLine/\Q (.int z.9) H):=by
 intro a s σ H xs b Q I r h
 let{z,rfl,c,q}:=h
 let{u,rfl,t,rfl}:=vals1 r
 have hn:=o5;exact len_str () {.int z.9,H,I.tok _,{_,rfl},q}
theorem dQ:d7 X (.type "list") (λxs H Q=>∃p ys,xs=[.ref p]/\(aL X.K H p ys\/gF X.K H p ys)/\∀l,H l=τ->Q (.ref l) (upd H l (.lst ys))):=by
 intro g s σ H xs x Q I r h
 let{p,ys,rfl,i,q}:=h
 let{u,rfl,v}:=vals1 r
 cases v
 have fin:∀(a:List Value),Vals ys a->ys.9<=sizeLine->∀(c:Heap) (d:Nat),(∀b t,s.heap.get? b=ρ t->c.get? b=ρ t) ->
  c.get? s.8=ρ {cls:=.type "list",dict:=τ,data:=.seq a.toArray d,slots:=#[]}->EP X g σ Q (.ref s.8) {s with heap:=c}:=λa f j c d kp e=>
  {.ref s.8,_,I.laid (t':=s.toks) kp (Ç _) (show bL X.prog X.w _ c _ (.lst ys) from ⟨j,a,d,f,e⟩),rfl,q _ (I.b7.fresh (Ç _))}
 rcases i with i |i
 .let{a,f,pl,j}:=I.list i
  have k:=f.9
  let{o,m,hc,n,hd}:=pl.isList
  exact call_list_seq p (.inl rfl) m hc hd (λc d kp e=>fin a f j c d kp e) (by grind)
 .let{a,f,pl,j}:=I.tuple i
  have k:=f.9
  let{o,m,hc,n,hd}:=pl
  exact call_list_seq p (.inr rfl) m hc hd (λc d kp e=>fin a f j c d kp e) (by grind)
theorem a7.refl(H:Hp):a7 H H:=λ_ _ h=>h
theorem xC:Jb X "dict.values" (λx xs H Q=>∃d kvs,x=.ref d/\xs=[]/\H d=ρ (.dK kvs)/\∀v,H v=τ->Q (.ref v) (upd H v (oM v d))):=by
 intro a s σ H x xs v j Q I f g h
 let{d,kvs,rfl,rfl,hd,q}:=h
 cases f;have:=g.zero;subst this
 let{l,lo,i,rel,c}:=rH I.b7 hd
 refine wfl wdL c.typeIs PySem.F.entry_dict_values (PySem.F.args_dict_values_1 _) (meets_dict_values (bp X.prog X.w) d lo) {⟨i,c⟩,?_};refine{.ref s.8,_,I.laid (t':=s.toks) (o:=oM s.heap.objs.size d) (λb o e=>Ð _ e) (Ç _) {{_,ç _ rfl,rfl,rfl},{_,ç _ rfl},λm n ⟨o,e,r⟩ k=>{o,k o e,r}},rfl,q _ (I.b7.fresh (Ç _))}
theorem yD:Jb X "str.join" (λx xs H Q=>∃z p ts,x=.str z/\xs=[.ref p]/\aL X.K H p (đ V.str ts)/\(ts.map (·.9)).sum+ts.9*z.9<=16777216/\Q (.str (ż z ts)) H):=by
 intro a s σ H x xs v l Q I b c h
 let{z,p,ts,rfl,rfl,d,e,q}:=h
 let{t,rfl}:=b
 let{u,rfl,f}:=c.one
 cases f
 let{g,i,pl,_}:=I.list d
 exact join_list pl.isList (by simpa using Bd i) e λj k=>{.str _,H,I.tok k,⟨j,rfl⟩,q}
theorem zH:d7 X (.builtin "len") (λxs H Q=>∃p n,xs=[.ref p]/\H p=ρ (Js X.prog X.w p n)/\Q (.int n) H):=by
 intro c s σ H xs g Q I r h
 let{p,n,rfl,d,q}:=h
 let{u,rfl,f}:=vals1 r
 cases f
 let{{S,o,i,j,k,e,hex,hd,_,_,b,a,hn},_}:=(show bL X.prog X.w H s.heap p (Js X.prog X.w p n) from I.b7 p _ d)
 refine call_len_set e hex hd a (by unfold ŕ at b;omega) {.int n,H,I.tok _,{s.toks+1,?_},q};rw[hn]
theorem comp_map{Ok:Hp->Prop}{Q:Hp->Prop}(g:V->V)(C:kX J Ok xs)(hl:H l=τ)(I:xs.9<=sizeLine)(r:∀H',a7 H H'->Ok H')
 (he:∀x j p,x∈xs->a7 H j->(∀H',a7 j H'->p (g x) H')->T (ρ x::t) j p)
 (hd:∀H',a7 H H'->H' l=ρ (.lst (xs.map g))->Q H'):ng J l t tX T H Q:=
 da (λ_=>true) g C hl I r (λx j p _ _ q=>q j (a7.refl _)) (λx j p a _ s q=>he x j p a s q) (λH' s h=>hd H' s (by rw[h,ċ.mpr (λ_ _=>rfl)]))
theorem zI:d7 X (.type "range") (λxs H Q=>∃j:Int,xs=[.int j]/\∀p,H p=τ->Q (.ref p) (upd H p (.rng 0 j))):=by
 intro a s σ H xs c Q I r h
 let{j,rfl,q}:=h
 let{u,rfl,t,rfl}:=vals1 r
 refine call_range_1 {.ref s.8,_,I.laid (λb ob q=>Ð _ q) (Ç _) (show bL X.prog X.w _ _ _ (.rng 0 j) from {_,_,_,ç _ rfl}),rfl,q _ (I.b7.fresh (Ç _))}
theorem By:d7 X (.type "dict") (λxs H Q=>∃d kvs,xs=[.ref d]/\Rd H d (.dK kvs)/\∀l,H l=τ->Q (.ref l) (upd H l (.dK kvs))):=by
 intro a s σ H xs n Q I r h
 let{d,kvs,rfl,hd,q}:=h
 let{u,rfl,f}:=vals1 r
 cases f
 let{c,lo,g,rel,i}:=lj I.b7 hd
 refine kt_call_dict (knd:=bp X.prog X.w) lo i (by rw[<-rel.9];exact c) λp j k=>?_;have m:=(ub (P:=X.prog) (w:=X.w) (H:=H) s.heap I.big);refine{.ref s.8,upd H s.heap.objs.size (.dK kvs),I.laid (t':=s.toks) (λb o e=>?_) (Ç _) ⟨c,m.2.1,g,rel,j⟩,rfl,q _ (I.b7.fresh (Ç _))};exact k.extBut b o (Ñ (Æ e)) (Ð _ e)
theorem JF:QU X .Add (λx y H Q=>∃i j,x=.str i/\y=.str j/\i.9+j.9<=sizeLine/\Q (.str (i++j)) H):=λa s σ H x y v u Q I b c h=>zG a s σ H x y v u Q I b c h
end
section
variable{X:Cx}{pins:List (Addr×Obj)}{σ:St}{H:Hp}{s:Shared}{l:Addr}{xs ys:List V}
theorem Inv.Mq(I:Inv X pins σ H s)(j:Vals ys g)(p:ys.9<=sizeLine) :
 Inv X pins σ (upd H s.heap.objs.size (.lst ys)) {s with heap:=s.heap.push {cls:=.type "list",data:=.seq g.6},toks:=t'}:=
 I.laid (λ_ _ q=>Ð _ q) (Ç _) ⟨p,g,0,j,ç _ rfl⟩
theorem Inv.Gr(I:Inv X pins σ H s)(j:H l=ρ (.lst xs)):xs.9<=sizeLine/\∃(g:List Value) (n:Nat),Vals xs g/\xs.9=g.9/\s.heap.get? l=ρ {cls:=.type "list",data:=.seq g.toArray n}:=by
 let{z,g,n,r,e}:=I.b7 l _ j
 exact⟨z,g,n,r,r.9,e⟩
theorem gq:mH X (binaryOp .Add) RB:=by
 intro d s σ H x y v u Q I f g h
 let{l,b,t,w,rfl,rfl,i,j,A,q}:=h
 cases f;cases g
 let{z,c,n,r,hl,e}:=I.Gr i
 let{B,a,C,k,m,o}:=I.Gr j
 refine PySem.P.add_list e o ?_ (by rw[ö,ö];omega);have p:c.6++a.6=(c++a).6:=by simp
 rw[p];exact{.ref _,_,I.Mq (t':=s.toks) (r.append k) (by rw[Ò];omega),rfl,q _ I.fresh}
theorem Gs:mH X (binaryOp .Mult) RC:=by
 intro p s σ H x y v u Q I A B h
 let{l,k,L,rfl,rfl,C,D,E,w,q}:=h
 cases A
 let{t,rfl}:=B
 let{z,b,n,r,hl,e}:=I.Gr C
 have d:b.toArray.size*k.toNat<=sizeLine:=by rw[ö,<-hl];exact w
 have f:¬b.toArray.size*k.toNat>(2^63-1)/8:=by
  have:(sizeLine:Nat)<=(2^63-1)/8:=⋯
  lia
 have g:¬(!Builtin.List.listFitsIndex k)=true:=by
  rw[fitsIndex_both D E];exact Ý
 have c:¬wdG (b.toArray.size*k.toNat)=true:=by
  rw[FX d];exact Ý
 have i:whp (λj o=>j++o) #[] (Ú (if b.toArray.isEmpty=true then 0 else k.toNat) b.6)=(Ú k.toNat b).flatten.6:=by
  have G:∀m:Nat,whp (λj o=>j++o) #[] (Ú m b.6)=(Ú m b).flatten.6:=λm=>by
   grind [foldl_rep]
  rw[G]
  cases b with
  |nil=>simp
  |cons a M=>grind
 refine wpAny_binaryOp_repeat_ref (T:="list") (U:="int") ⋯ {_,e,rfl} (λJ=>typeIs_int J k t) noFill_list_mul F.fills_int_mul F.slot_int_rmul repeat_list F.slot_int_index.lookup
  (Ļ F.slot_int_rmul (typeIs_int s k t) F.entry_int_rmul (F.args_int_rmul_2 _ _) (int___rmul___int_list k t l b.toArray n)
    {e,rfl,{_,e,rfl},Ļ F.slot_list_mul {_,e,rfl} F.entry_list_mul (F.args_list_mul_2 _ _) (AutoListH.list___mul___list_int_3 l b.toArray n k t g f c) {e,?_}})
 rw[i];exact{.ref _,_,I.Mq (t':=s.toks) (r.rep k.toNat) (by rw[Jq,Nat.mul_comm];exact w),rfl,q _ I.fresh}
end
section
variable{X:Cx}{e:Expr}{te:TE}{lo hi:Option Expr}{tl th:TO}{pos p2:Pos}
theorem eV(hc:X.calm=true)(h:QT X g t)
 (hn:(ŗ g X.5).9=n:=by rfl) (j:(ŗ g X.5).findIdx? (·.1)=τ:=by rfl):PG X (.Tuple g k pos) (FV X.K n t):=by
 refine{?_};intro c s σ H v u Q I r hw
 let{a,f,i,l,hl,hw}:=hw
 subst i;cases r
 let{m,d,p,y}:=I.tuple l
 refine assign_Tuple_tuple (I.ok.hd hc) p (by simp[hn,<-hl,d.9]) j λq w=>?_;have x:Inv X c σ H {s with heap:=q}:=I.kept (t':=s.toks) λb o e=>w b o (Ñ (Æ e)) e;exact h c _ σ H f _ Q x (by simpa using d) hw
def Sg(X:Cx)(r:V->Option Int->Option Int->Hp->VK->Prop):Prop:=
 ∀(pins:List (Addr×Obj)) (s:Shared) (σ:St) (H:Hp) (x:V) (v vl vu:Value) (lo hi:Option Int) (sl:Addr) (Q:VK),Inv X pins σ H s->RelV x v->s.heap.IsSliceOf sl vl vu .none->IsPart vl lo->IsPart vu hi->r x lo hi H Q ->
  ∃T id,Ζ (.type T) "__getitem__"=pure (ρ (.builtin id))/\s.TypeIs v T/\wpAny (model X.prog X.w) X.A (getItem v (.ref sl)) (EP X pins σ Q) X.xe s
theorem dA{r:V->Option Int->Option Int->Hp->VK->Prop}(j:Sg X r)(he:PE X e te)(hl:PO X lo tl)(p:PO X hi th):PE X (.Subscript e (.Slice lo hi τ p2) pos) (Wf r te tl th):=by
 refine{?_};intro a s σ H Q I h;refine wga (bU (he a s σ H _ I h) λv s1 ⟨x,i,k,m,n⟩=>?_);refine wpAny_Slice (bU (hl a s1 σ i _ k n) λd s2 ⟨l,o,t,pl,y⟩=>bU (p a s2 σ o _ t y) λf c ⟨u,g,z,B,C⟩=>?_);rw[evalPart_none];refine Ë ?_;have D:Inv X a σ g {c with heap:=c.heap.push {cls:=.type "slice",data:=.fields #[d,f,.none]}}:=z.kept (t':=c.toks) λb ob q=>Ð _ q
 let{T,id,E,G,J}:=j a {c with heap:=c.heap.push {cls:=.type "slice",data:=.fields #[d,f,.none]}} σ g x v d f l u c.heap.objs.size Q D m (Heap.IsSliceOf.new ..) pl B C
 show wpAny (model X.prog X.w) X.A (wgn e (.Slice lo hi τ p2) v (.ref c.8)) (EP X a σ Q) X.xe {c with heap:=c.heap.push {cls:=.type "slice",data:=.fields #[d,f,.none]}};exact tail_any (ops:=[.ref c.8,v]) G E J (by with_unfolding_all rfl)
theorem dC:PE X (.Dict [] [] pos) LR:={λb s σ H Q I h=>
 wpAny_Dict_empty {.ref s.8,_,I.laid (a:=s.8) (o:=.dK []) (t':=s.toks) (λ_ _ q=>Ð _ q) (Ç _) (ub s.heap I.big),rfl,h _ (I.b7.fresh (Ç _))}}
end
section
variable{X:Cx}{es:List Expr}{t:TA}{pos:Pos}
theorem eC{g}(h:PA X es t):PE X (.Tuple es g pos) (RF t):=by
 refine{?_};intro a s σ H Q I f;refine wpAny_Tuple_spliced (bU (h pos a s σ H _ I f) λi s1 ⟨j,c,d,r,z,q⟩=>{by rw[<-r.9];exact z,?_});have k:c s1.8=τ:=d.b7.fresh (Ç _);refine{.ref s1.8,upd c s1.heap.objs.size (.tup j),d.laid (t':=s1.toks) (λb u e=>Ð _ e) (Ç _) ?_,rfl,q _ k};exact{z,i,r,{_,ç _ rfl,rfl,1}}
theorem bM(h:PA X es t):PE X (.List es pos) (RG t):=by
 refine{?_};intro a s σ H Q I f;refine wpAny_List_spliced (bU (h pos a s σ H _ I f) λg s1 ⟨i,c,d,r,z,q⟩=>{by rw[<-r.9];exact z,?_});have j:c s1.8=τ:=d.b7.fresh (Ç _);refine{.ref s1.8,upd c s1.heap.objs.size (.lst i),d.laid (t':=s1.toks) (λb u e=>Ð _ e) (Ç _) ?_,rfl,q _ j};exact⟨z,g,0,r,ç _ rfl⟩
theorem oh:Sg X (λx lo hi H Q=>∃z,x=.str z/\z.9<=sizeLine/\Q (.str (á z lo hi)) H):=by
 intro a s σ H x v p r lo hi w Q I m n pl f h
 let{z,rfl,b,q}:=h
 let{t,rfl}:=m
 refine{"str",_,wfk.lookup,Ś s z t,?_};have fin:∀d k,EP X a σ Q (.str (á z lo hi) d) {s with toks:=k}:=λd k=>{.str _,H,I.tok k,⟨d,rfl⟩,q}
 let{o,c,hc,hd}:=n
 cases pl with
 |none=>cases f with
  |none=>exact wcZ (l:=τ) (u:=τ) (st:=τ) ⟨o,c,hc,hd⟩ rfl (wex {Õ (ν z _ _) b,fin})
  |int j e=>exact wcZ (l:=τ) (u:=ρ (j,e)) (st:=τ) ⟨o,c,hc,hd⟩ rfl (wex {Õ (ν z _ _) b,fin})
 |int i g=>cases f with
  |none=>exact wcZ (l:=ρ (i,g)) (u:=τ) (st:=τ) ⟨o,c,hc,hd⟩ rfl (wex {Õ (ν z _ _) b,fin})
  |int j e=>exact wcZ (l:=ρ (i,g)) (u:=ρ (j,e)) (st:=τ) ⟨o,c,hc,hd⟩ rfl (wex {Õ (ν z _ _) b,fin})
end
section
variable{A:Around}{s:Shared}
theorem wm{X:Cx}{K:À}(g:X.K=K):d7 X (.builtin "len") (λxs H Q=>∃p ys,xs=[.ref p]/\(aL K H p ys\/gF K H p ys)/\Q (.int ys.9) H):=by
 subst g;exact oQ
theorem uq(r:KV g j)(C:tY g=true):∀{l:List (Key×V)} {I:List (Key×Value)},KV l I->tY l=true->whs A s j I (hitsD g l)
 |_,_,.nil,_=>.nil
 |_,_,@Paired.cons _ _ _ p q ps c h t,fa=>by
  let{k,v}:=p
  let{d,u}:=q
  let{f,i}:=h
  obtain rfl:k=d:=f;have f1:du v=true:=í.mp fa (k,v) (Ù ..);have f2:tY ps=true:=í.mpr λz m=>í.mp fa z (Ø _ m);have n:=uq r C t f2;have a:=r.val k;delta hitsD;rw[weW];show whs A s j ((k,u)::c) ((match bD g k with |some y=>qz v y |none=>false)&&_)
  cases e:bD g k with
  |none=>
   rw[e]at a
   cases b:valueAt j k with
   |none=>exact .miss b
   |some y=>rw[b]at a;exact ã a
  |some y=>
   rw[e]at a
   cases b:valueAt j k with
   |none=>rw[b]at a;exact ã a
   |some o=>
    rw[b]at a;exact .hit b (Bg i a f1 (DZ C e)) n
end
section
variable{X:Cx}{pins:List (Addr×Obj)}{σ:St}{H:Hp}{s:Shared}{a C dx:Addr}{fs:List (Str×V)}{f:Str}{A:Around}{E:Value->Shared->Prop}
theorem Inv.made(I:Inv X pins σ H s):Inv X pins σ (upd (upd H s.heap.objs.size (.own (s.8+1))) (s.8+1) (.ins C s.heap.objs.size []))
 {s with heap:=(s.heap.push ł).push (Ŕ C s.8)}:=by
 have c:(s.heap.push ł).get? s.8=ρ ł:=ç s.heap rfl
 have d:((s.heap.push ł).push (Ŕ C s.8)).get? (s.8+1)=ρ (Ŕ C s.8):=by
  have:=ç (s.heap.push ł) (o:=Ŕ C s.8) rfl;rwa[ň]at this
 have f:(s.heap.push ł).Ns s.heap.objs.size (λ_=>τ):={ł,#[],_,c,rfl,(λe g=>absurd g (by simp)),λ_=>rfl};have h:=I.laid (a:=s.8) (o:=.own (s.8+1)) (h':=s.heap.push ł) (t':=s.toks) (λb u q=>Ð _ q) (Ç _) {_,c};refine h.laid (a:=s.8+1) (o:=.ins C s.heap.objs.size []) (t':=s.toks) (λb u q=>Ð _ q) (weu (ň _ _)) ?_;have ne:s.heap.objs.size≠s.8+1:=Ñ (Ł _);refine{by rw[a9 ne,a6],à _,ne,d,λ_=>τ,(wgX f).at λo q=>Ð _ q,λ_=>Ā,λy i=>absurd rfl i}
theorem Df{Q:Value->Shared->Prop}(j:ĩ e f env (eval e env)=eval e env)
 (h:wpAny (model prog w) A (eval e env) (λo g=>wpAny (model prog w) A (getAttr o f true) Q E g) E s):wpAny (model prog w) A (eval (.Attribute e f pos) env) Q E s:=
 Attribute_any_ h (by rw[arm_eval_Attribute,j])
theorem Mr(g:X.A.units<ú):mH X (ù .Eq) RL:=by
 intro c s σ H x y v u Q I f i h
 let{a,b,p,r,rfl,rfl,ha,j,fa,k,q}:=h
 cases f;cases i
 let{_,l,t,d,m}:=lj I.b7 ha
 let{_,n,w,e,o}:=lj I.b7 j
 refine PySem.W.keq_eq l n m o g (λ_=>uq e k d fa) {.bl _,H,I,rfl,?_};rw[<-d.9,<-e.9];exact q
end
section
variable{P:É}{w:World}{K:À}{mg:Str->Option Value}{base:Heap}
theorem zo.ok{x g:Str}{st:Stmt}{f:Addr}{fd:î}{N ps:List Str}{k:Nat}{sp:Sp}(F:zo K x g st f fd)(S:di N ps (ax st))(len:∀vs H Q E,sp vs H Q E->vs.9=ps.9)
 (l:∀(j:Value) (A:Around) (outer:List Env) (s:Shared) (H:Hp) (vs:List V) (Q:VK) (E:XK),cO k (A.deeper (envOfC g (ax st) s.heap.objs.size f j))->sp vs H Q E ->
   ∃t,yz (sU cz P w K mg base N g (ax st) f j A outer s H E).Ja (ck st) t/\t (Ends.fn Q) (start N vs) H):aI P w K mg base cz (k+1) f fd ps sp:=by
 let{i,m,kV,c,pm,n,j,ct,d,rfl,lk,a}:=F.ex
 refine Le lk a S len λA outer s H vs Q E e b=>?_
 let{t,h,q}:=l j A outer s H vs Q E e b
 exact⟨t,h.Ja,q⟩
theorem j5(d:Addr)(o:Obj)(kvs:List (Key×V)):kX (Jw d o kvs) (λH=>H d=ρ (.frz o (.dK kvs))) (kvs.map λg=>kV g.1) where
 go:=λi H ok h=>{ok,by rwa[Á]at h}
 we:=λi H x a ok h q=>by
  let{rfl,g,e,rfl}:=q
  refine{rfl,?_};rw[Ê,e];rfl
 stop:=λH ok=>{ok,by rw[Á];exact Ç _}
end
section
variable{X:Cx}{tg:Expr}
theorem Bz{P:É}{w:World}{K:À}{U:Expr}{it:Addr}{n:Nat}{Pv:Nat->Value->Prop}{St:Nat->Heap->Prop}{val:Nat->V}
 (T:∀A:Around,A.handled=τ->Walks P w A it [it] [it] n Pv St)
 (g:∀i h,St i h->∃(o:Obj) (nm:String) (vs:Array Value),h.get? it=ρ o/\o.cls=.type nm/\o.data=.fields vs/\L1 nm)
 (j:∀i h h',St i h->(∀o,h.get? it=ρ o->h'.get? it=ρ o)->St i h')
 (l:∀(A:Around) (i:Nat) (s:Shared) (Q:Value->Shared->Prop) (E:Value->Shared->Prop),St i s.heap->Q (.ref it) s->wpAny (model P w) A (pyIter (.ref it)) Q E s)
 (p:∀i u,Pv i u->RelV (val i) u):Turn P w K U (QR n val) [it] it (λi h=>St i h/\i<=n) where
 mem:=by simp
 obj:=λi h st b f=>by
  have e:b=it:=by simpa using f
  subst e
  let{o,nm,vs,e,c,d,_}:=g i h st.1
  exact{o,e,λv z=>by rw[d]at z;cases z}
 keep:=λi h h' st k=>{j i h h' st.1 λo e=>k it (by simp) o e,st.2}
 item:=by
  intro X t hw x hc i a s σ H E I q st r;subst t hw x
  let{y,f1,f2,B,C,D}:=q it (by simp)
  refine(T X.A (I.ok.hd hc)).item i s _ _ r st.1 λv h' G L m J=>?_;have M:Inv X a σ H {s with heap:=h',toks:=G}:=I.turned (λb o f e=>J b o (by simpa using f) e) y f1 B C D
  let{o,nm,vs,e,c,d,hn}:=g _ _ m
  exact{1,CT (s:={s with heap:=h',toks:=G}) e c d hn {val i,H,M,p i v L,⟨rfl,rfl⟩,⟨m,r⟩,λb f=>(q b f).1}}
 done:=by
   intro X t hw x hc i a s σ H E I q st r;subst t hw x
   let{y,f1,f2,B,C,D}:=q it (by simp)
   have e:i=n:=by
    have N:=st.2;have O:n<=i:=r
    lia
   subst e;exact(T X.A (I.ok.hd hc)).done s _ _ st.1 λh' G J=>{rfl,I.turned (λb o f e=>J b o (by simpa using f) e) y f1 B C D}
 self:=λA i s Q E st h=>l A i s Q E st.1 h
theorem qL{l:Expr}{r:TE}(hl:PE X l r):PI X tg l (OM r):=by
 refine{?_};intro a s σ H R I h;refine bU (hl a s σ H _ I h) λv s1 ⟨x,y,j,B,C⟩=>?_
 let{z,e,q}:=C
 subst e
 let{t,rfl}:=B
 have fin:∀(nm:String) (o:Obj),(∀g:Around,g.handled=τ->Walks X.prog X.w g s1.heap.objs.size [s1.8] [s1.8] z.cps.size (SignAt z) (λi h=>h.IsStrIter s1.heap.objs.size nm z t i)) ->
  (∀(A:Around) (i:Nat) (s:Shared) (Q:Value->Shared->Prop) (E:Value->Shared->Prop),s.heap.IsStrIter s1.heap.objs.size nm z t i->Q (.ref s1.8) s->wpAny (model X.prog X.w) A (pyIter (.ref s1.8)) Q E s) ->
  L1 nm->(s1.heap.push o).IsStrIter s1.heap.objs.size nm z t 0->P4 X a σ tg R (.ref s1.8) {s1 with heap:=s1.heap.push o}:=by
  intro nm o D f m n
  refine{s1.8,[s1.8],_,_,y,rfl,j.kept (t':=s1.toks) λb o e=>Ð _ e,
   Bz (val:=xk z) D (λi h st=>?_) (λi h M st k=>?_) f (λi u G=>?_),{n,à _},λb J=>?_,q}
  .let{o,e,c,d}:=st
   exact{o,nm,_,e,c,d,m}
  .let{o,e,c,d}:=st
   exact{o,k o e,c,d}
  .let{c,L,hc,e}:=G
   refine{L,?_};rw[e,wcz,hc];rfl
  .have e:b=s1.8:=by simpa using J
   subst e;exact j.E4 (Ç _) (j.b7.fresh (Ç _))
 cases ha:z.cps.all (· < 128)
 .exact wpAny_pyIter_wide ha (fin "str_iterator" _ (λg p=>Walks.strWide p _ z t) (λA i s Q E st h=>wpAny_pyIter_striter_wide st h) ⋯ {_,ç _ rfl,rfl,rfl})
 .exact wpAny_pyIter_ascii ha (fin "str_ascii_iterator" _ (λg p=>Walks.strAscii p _ z t) (λA i s Q E st h=>wpAny_pyIter_striter_ascii st h) ⋯ {_,ç _ rfl,rfl,rfl})
theorem ur(hc:X.calm=true):d7 X (.builtin "any") (λxs H Q=>∃p bs,xs=[.ref p]/\aL X.K H p (đ V.bl bs)/\Q (.bl (bs.any id)) H):=by
 intro d s σ H xs o Q I r h
 let{p,bs,rfl,j,q}:=h
 let{u,rfl,k}:=vals1 r
 cases k
 let{a,l,pl,t}:=I.list j
 have f:=rG l;have hl:=pl.isList;have m:=I.ok.hd hc;have c:p<s.8:=by let{_,e,_}:=hl;exact Æ e
 refine call_any_walk (we7 hl ?_)
 refine{s.8,[s.8,p],[s.8],a.toArray.size,_,_,λi=>(bs[i]?).getD false,rfl,wfd (A:=X.A.in1) m _ p (Ñ c) a.6,
  {{_,ç _ rfl,rfl,rfl},hl.push _},λi v w x y n g=>?_,λz B hk=>?_}
 .let{b,e,rfl}:=f.get i v (by simpa using n)
  simp only[e,whe]at g;exact Ń g
 .have e:((ð a.toArray.size).any λi=>(bs[i]?).getD false)=bs.any id:=by
   rw[ö,f.9];exact LSm.range_any bs
  rw[e];exact{.bl _,H,I.kept (LSm.kept_iter hk),rfl,q}
theorem uv(hc:X.calm=true):d7 X (.builtin "all") (λxs H Q=>∃p bs,xs=[.ref p]/\aL X.K H p (đ V.bl bs)/\Q (.bl (bs.all id)) H):=by
 intro d s σ H xs o Q I r h
 let{p,bs,rfl,j,q}:=h
 let{u,rfl,k}:=vals1 r
 cases k
 let{a,l,pl,t}:=I.list j
 have f:=rG l;have hl:=pl.isList;have m:=I.ok.hd hc;have c:p<s.8:=by let{_,e,_}:=hl;exact Æ e
 refine call_all_walk (we7 hl ?_)
 refine{s.8,[s.8,p],[s.8],a.toArray.size,_,_,λi=>(bs[i]?).getD true,rfl,wfd (A:=X.A.in1) m _ p (Ñ c) a.6,
  {{_,ç _ rfl,rfl,rfl},hl.push _},λi v w x y n g=>?_,λz B hk=>?_}
 .let{b,e,rfl}:=f.get i v (by simpa using n)
  simp only[e,whe]at g;exact Ń g
 .have e:((ð a.toArray.size).all λi=>(bs[i]?).getD true)=bs.all id:=by
   rw[ö,f.9];exact LSm.range_all bs
  rw[e];exact{.bl _,H,I.kept (LSm.kept_iter hk),rfl,q}
theorem yE(hc:X.calm=true):d7 X (.builtin "sorted") (λxs H Q=>∃d kvs g,xs=[.ref d]/\H d=ρ (.dK kvs)/\kvs.map (·.1)=đ (Ã:Str->Key) g/\g.9<64 /\
 ∀l ss,H l=τ->ss.Perm g->wfw ss=true->Q (.ref l) (upd H l (.lst (ss.map V.str)))):=by
 intro k s σ H xs U Q I r h
 let{d,kvs,g,rfl,hd,hk,v,q}:=h
 let{u,rfl,N}:=vals1 r
 cases N
 let{D,lo,x,rel,O}:=rH I.b7 hd
 let{ep,y}:=O.dictAt
 have R:=I.ok.hd hc;have n:kvs.9=g.9:=by have:=congrArg Ĳ hk;simpa using this
 have hn:x.9<=sizeLine:=by rw[<-rel.9];exact D
 refine Calls.call_function_entry kind_sorted plain_sorted entry_sorted (args_sorted1 _) ?_;unfold Ō.«sorted»;refine Â (m:=checkCount "sorted" 1 1 _) (Ë ?_);refine Â (PySem.W.kdu_collect (A:=X.A.in1) (whf (knd:=bp X.prog X.w) (kvs:=x) (ep:=ep) lo) R y hn λi E a z c=>?_);have hl:a.toList.9=x.9:=by rw[ź];exact c.1
 refine Â (wpAny_newList ?_ (by rw[hl];exact hn));have B:StrsAre a.toList g:=G9 (P:=X.prog) (w:=X.w) hk rel hl λj u e=>c.2 j u (by rw[<-Ź];exact e);have f:(i.push (seqObj "list" a.toList.toArray 0)).get? i.7=ρ (seqObj "list" a.toList.toArray 0):=ç _ rfl;have p:a.toList.9<64:=by rw[hl,<-rel.9,n];exact v
 refine Â (Ą (wpAny_call_entry slot_list_sort {_,f,rfl} entry_list_sort (list_sort_treeK strKind_oneLt f B.keysOf (λG J rest e=>keyKind_strs (by rw[<-e];exact B)) p λC a1 a2=>{1,?_}) (args_list_sort _)))
 let{t,b1,L,S}:=sorted_out_str B a1 a2
 have M:Inv X k σ H {s with heap:=i,toks:=E}:=I.kept z
 let{e,T}:=sortedHeap_at (out:=(arrOf C).map (·.2)) f
 refine Ë {1,{.ref i.7,upd H i.objs.size (.lst (t.map V.str)),M.laid (t':=E) (λb o q=>?_) (Ç _) {?_,_,e,xh b1,?_},rfl,q _ t (M.b7.fresh (Ç _)) L S}}
 .have lt:b<i.7:=Æ q;rw[sortedHeap_old (Ñ lt) (by rw[size_push'];exact we8 lt)];exact Ð _ q
 .rw[Á,L.length_eq,<-n];exact D
 .rw[wdp];exact T
theorem oi(hc:X.calm=true):d7 X (.type "list") (λxs H Q=>∃d kvs,xs=[.ref d]/\H d=ρ (.dK kvs)/\∀l,H l=τ->Q (.ref l) (upd H l (.lst (kvs.map λg=>kV g.1)))):=by
 intro k s σ H xs y Q I r h
 let{d,kvs,rfl,hd,q}:=h
 let{u,rfl,n}:=vals1 r
 cases n
 let{m,lo,f,rel,o}:=rH I.b7 hd
 let{ep,i}:=o.dictAt
 have p:=I.ok.hd hc;have hn:f.9<=sizeLine:=by rw[<-rel.9];exact m
 refine whg (whf (knd:=bp X.prog X.w) (kvs:=f) (ep:=ep) lo) p i hn λt v b c kp x a=>?_;have hl:b.toList.9=f.9:=by rw[ź];exact a.1
 refine{.ref s.8,_,I.laid (t':=v) kp (Ç _) (show bL X.prog X.w _ t _ (.lst (kvs.map λg=>kV g.1)) from {?_,b.toList,c,xq (P:=X.prog) (w:=X.w) rel hl λj u e=>a.2 j u (by rw[<-Ź];exact e),?_}),rfl,q _ (I.b7.fresh (Ç _))}
 .rw[Á];exact m
 .rw[wdp];exact x
theorem BA(hc:X.calm=true):d7 X (.type "list") (λxs H Q=>∃v d kvs,xs=[.ref v]/\H v=ρ (oM v d)/\H d=ρ (.dK kvs)/\∀l,H l=τ->Q (.ref l) (upd H l (.lst (kvs.map (·.2))))):=by
 intro k s σ H xs D Q I r h
 let{v,d,kvs,rfl,n,hd,q}:=h
 let{u,rfl,o}:=vals1 r
 cases o
 let{m,lo,b,rel,p}:=rH I.b7 hd
 let{ep,i}:=p.dictAt
 let{g,_}:=(show bL X.prog X.w H s.heap v (oM v d) from I.b7 v _ n)
 have x:=I.ok.hd hc;have hn:b.9<=sizeLine:=by rw[<-rel.9];exact m
 refine whg (wgI (knd:=bp X.prog X.w) (kvs:=b) (ep:=ep)) x ⟨g,i⟩ hn λy z a c kp A f=>?_;have hl:a.toList.9=b.9:=by rw[ź];exact f.1
 have e:a.toList=b.map (·.2):=PySem.W.kdl_vals_eq a.toList hl λj u e=>f.2 j u (by rw[<-Ź];exact e)
 have B:∀{kvs:List (Key×V)} {b:List (Key×Value)},KV kvs b->Vals (kvs.map (·.2)) (b.map (·.2)):=λ{kvs b} r=>by
  induction r with
  |nil=>exact .nil
  |cons r t C=>exact .cons r.2 C
 refine{.ref s.8,_,I.laid (t':=z) kp (Ç _) (show bL X.prog X.w _ y _ (.lst (kvs.map (·.2))) from {?_,a.toList,c,by rw[e];exact B rel,?_}),rfl,q _ (I.b7.fresh (Ç _))}
 .rw[Á];exact m
 .rw[wdp];exact A
theorem E8{P:É}{w:World}{K:À}{g:List Expr}{k:Nat}{pos:Pos}(a e it:Addr)(j:e≠it):Turn P w K (.Tuple g k pos) (OQ K a) [e,it] e (λi h=>(∃old,IsEnum h e it (i:Nat) old)/\h.IsListIter it a i) where
 mem:=by simp
 obj:=λi h st b f=>by
  let{{old,c},o,t,hc,hd}:=st
  rcases Þ.mp f with rfl |f
  .exact{_,c,λv z=>by
    have Q:wh9 _=whF v:=z
    cases Q}
  .have R:b=it:=by simpa using f
   subst R;exact{o,t,λv z=>by rw[hd]at z;cases z}
 keep:=λi h O st k=>{st.1.imp λold c=>k e (by simp) _ c,st.2.at λo q=>k it (by simp) o q}
 item:=by
  intro X A hw B hc i l s σ H E I C st D;subst A hw B
  let{S,x,r,G}:=D
  let{J,L,p,T}:=I.list r
  let{u,U,V}:=L.get G
  let{{old,c},hit}:=st
  refine wpAny_pyNext_enum_item c hit p.isList (x:=u) (by simpa using U) j λO t m Y Z hk=>?_;refine{1,weY t λWm M d=>?_}
  let{_,N,_}:=id hit
  have n:e<s.8:=Æ c
  let{fr,I1,hn}:=zE (y:=.int (i:Nat)) (s.toks+1) I C (λb o h q=>(d.2 b (DU h).1).trans (hk b o (DU h).1 (DU h).2 q)) ((d.2 _ (Ŀ n)).trans Y) {_,rfl} V (OD n (Æ N))
  exact{.ref s.8,_,I1,rfl,{s.8,x,fr,rfl,rfl,λys hy=>by rw[I.zC hy r];exact G},{{u,by simpa using M},m.at λo q=>(d.2 it (Ü j)).trans q},hn}
 done:=by
   intro X A hw B hc i l s σ H E I C st D;subst A hw B
   let{S,r,G}:=D
   let{J,L,p,T}:=I.list r
   have hl:=L.9
   let{{old,c},hit}:=st
   let{g0,g1,g2,g3,g4,g5}:=C it (by simp)
   exact wpAny_pyNext_enum_end (I.ok.hd hc) c hit p.isList (Array.getElem?_eq_none (by simp;lia)) λO eb=>{rfl,I.turned (t':=s.toks) (λb o f e=>eb b o f e) g0 g1 g3 g4 g5}
 self:=λ_ _ _ _ _ st h=>let ⟨⟨_,c⟩,_⟩:=st;we9 c h
theorem Dg{g:List Expr}{k:Nat}{j:Pos}{l:Expr}{r:TA}{p pos:Pos}(t:Gl X "enumerate")(C:X.mg "enumerate"=τ)(ha:PA X [l] r)(J:starEach [l] X.5=[(false,eval l X.5)]:=by rfl) :
 PI X (.Tuple g k j) (.Call (.Name "enumerate" p) [l] [] pos) (OS X.K r):=by
 refine{?_};intro c s σ H R I h;refine Call_ (iT I t C kd (wbY (bU (ha pos c s σ H _ I h) λB s1 ⟨D,i,f,n,o⟩=>?_) J rfl))
 let{a,E,e,v,q}:=o
 subst e
 let{u,rfl,w}:=vals1 n
 cases w
 let{x,G,pl,L}:=f.list v
 refine call_enumerate_list pl.isList λy m hit z kp=>we9 m ?_;have A:Inv X c σ i {s1 with heap:=y}:=f.kept (t':=s1.toks) kp;refine{s1.8+1,[s1.8+1,s1.8],_,_,i,rfl,A,E8 a _ _ (Ŀ (Ł _)),{{_,m},hit},λb M=>?_,q}
 have d:s1.8<=b:=by
  grind
 exact f.E4 d (f.b7.fresh d)
theorem BC(hc:X.calm=true):d7 X (.type "list") (λxs H Q=>∃(p:Addr) (n:Nat),xs=[.ref p]/\H p=ρ (.rng 0 (n:Int))/\n<=sizeLine/\∀l,H l=τ->Q (.ref l) (upd H l (.lst ((ð n).map λi=>V.int (i:Nat))))):=by
 intro m s σ H xs b Q I r h
 let{p,n,rfl,x,hn,q}:=h
 let{u,rfl,y}:=vals1 r
 cases y
 let{t,u,v,e}:=I.b7 p _ x
 have f:n<=2^24:=by rw[Ę]at hn;lia
 refine call_list_range (I.ok.hd hc) (n:=n) (show IsRange s.heap p 0 (n:Int) 1 t u v from e) (small_one () () () ()) (by rw[rangeSize_one];split<;>lia) f λg z d c kp A a=>?_
 have B:∀(b:List Value) (k:Nat),(∀(j:Nat) (u:Value),b[j]?=ρ u->∃t,u=.int ((k+j:Nat):Int) t)->Vals ((List.range' k b.9).map λi=>V.int (i:Nat)) b:=by
  intro b
  induction b with
  |nil=>intro k _;exact .nil
  |cons u b C=>
   intro k h
   let{t,e}:=h 0 u rfl
   rw[å,List.range'_succ,Í];refine .cons ⟨t,e⟩ (C (k+1) λj u g=>?_)
   let{t,e}:=h (j+1) u (by simpa using g)
   exact{t,by rw[e];congr 1;lia}
 have hl:d.toList.9=n:=by rw[ź];exact a.1
 have o:=B d.toList 0 λj u e=>by
  let{t,D}:=a.2 j u (by rw[<-Ź];exact e)
  exact{t,by rw[D];congr 1;lia}
 rw[hl,<-List.range_eq_range']at o;refine{.ref s.8,_,I.laid (t':=z) kp (Ç _) (show bL X.prog X.w _ g _ (.lst ((ð n).map λi=>V.int (i:Nat))) from {?_,d.toList,c,o,?_}),rfl,q _ (I.b7.fresh (Ç _))}
 .rw[Á,ŉ];exact hn
 .rw[wdp];exact A
theorem tK:mH X (binaryOp .Mult) (λx y H Q=>∃z n,x=.str z/\y=.int n/\MulOk z n/\Q (.str (Txt.mul z n)) H):=by
 intro a s σ H x y v u Q I b c h
 let{z,n,rfl,rfl,ok,q}:=h
 let{t,rfl}:=b
 let{e,rfl}:=c
 exact SB.mul ok λd k=>{.str _,H,I.tok k,⟨d,rfl⟩,q}
theorem zJ(hc:X.calm=true):d7 X (.builtin "sum") (λxs H Q=>∃p ns,xs=[.ref p]/\aL X.K H p (đ V.int ns)/\Q (.int ns.sum) H):=by
 intro b s σ H xs j Q I r h
 let{p,ns,rfl,d,q}:=h
 let{u,rfl,f}:=vals1 r
 cases f
 let{a,g,pl,k}:=I.list d
 let{c,e,rfl}:=o7 g
 have hl:s.heap.IsList p (intItems c.6):=by
  have:intItems c.6=a.6:=by rw[e];unfold intItems;simp
  rw[this];exact pl.isList
 refine sum_intListG (I.ok.hd hc) hl λl m i hk=>?_;refine{.int _,H,I.kept hk,{i,?_},q};rw[preSum_eq,Η (by simp)]
theorem Gu:QU X .Mult W9:=by
 intro a s σ H x y v u Q I b c h
 let{i,j,d,e,hc,q}:=h
 subst d;subst e
 let{t,rfl}:=b
 let{f,rfl}:=c
 exact imul_int {.int _,H,I.tok _,{_,rfl},q} hc.ok
def oj(K:À)(J:It)(l:Addr)(σf:St)(tt:TT)(te:TE)(H:Hp)(Q:Hp->Prop):Prop:=
 ∃W:Nat->Nat->List V->Hp->Prop,(∃m,W 0 m [] (upd H l (.lst [])))/\∀i m ys H2,W i m ys H2->H2 l=ρ (.lst ys) /\
  ((J.stop i H2/\Q H2)\/(J.go i H2/\ys.9<sizeLine/\∀x H3,J.we i H2 x H3->∃p a b,x=.ref p/\gF K H3 p [a,b]/\tt (ρ a::ρ b::σf) H3 λok H4=>
    if ok=true then te (ρ a::ρ b::σf) H4 λy H5=>H5 l=ρ (.lst ys)/\∃m',m'<m/\W (i+1) m' (ys++[y]) (upd H5 l (.lst (ys++[y])))
    else ∃m',m'<m/\W (i+1) m' ys H4))
def Ms(K:À)(wi:TI)(ix:List Nat)(tt:TT)(te:TE):TE:=λσ H Q=>wi σ H λJ H1=>∀l,H1 l=τ->oj K J l (pick σ ix) tt te H1 (λH2=>Q (.ref l) H2)
def uw(K:À)(J:It)(l:Addr)(σf:St)(tt:TT)(te:TE)(H:Hp)(Q:Hp->Prop):Prop:=
 ∃W:Nat->Nat->List V->Hp->Prop,(∃m,W 0 m [] (upd H l (.lst [])))/\∀i m ys H2,W i m ys H2->H2 l=ρ (.lst ys) /\
  ((J.stop i H2/\Q H2)\/(J.go i H2/\ys.9<sizeLine/\∀x H3,J.we i H2 x H3->∃p a b c,x=.ref p/\gF K H3 p [a,b,c]/\tt (ρ a::ρ b::ρ c::σf) H3 λok H4=>
    if ok=true then te (ρ a::ρ b::ρ c::σf) H4 λy H5=>H5 l=ρ (.lst ys)/\∃m',m'<m/\W (i+1) m' (ys++[y]) (upd H5 l (.lst (ys++[y])))
    else ∃m',m'<m/\W (i+1) m' ys H4))
def Mt(K:À)(wi:TI)(ix:List Nat)(tt:TT)(te:TE):TE:=λσ H Q=>wi σ H λJ H1=>∀l,H1 l=τ->uw K J l (pick σ ix) tt te H1 (λH2=>Q (.ref l) H2)
end
section
variable{X:Cx}{pins:List (Addr×Obj)}{σ:St}{H:Hp}{s:Shared}{e:Addr}
theorem BD{M:ė}{A:Around}{E:Value->Shared->Prop}{i:Nat}{x:Str}{v:V}{u:Value}{m:Str->Option Value}{Q:Unit->Shared->Prop}(I:Inv X pins σ H s)(hn:s.heap.Ns X.env.locals m)(T:X.N.Nodup)(hi:X.N[i]?=ρ x)(hk:X.env.scope.names.lookup x=ρ .local)(r:RelV v u)
 (h:∀s',Inv X pins (σ.set i (ρ v)) H s'->s'.heap.Ns X.env.locals (λy=>if y=x then ρ u else m y)->s'.toks=s.toks+1->Q .unit s'):wpAny M A (wgH X.env x u) Q E s:=by
 let{m0,D,hl}:=id I.loc
 have e:=D8 hn D;subst e;have l:(X.env.scope.kind == .class ||(X.env.scope.kind == .module&&X.env.locals != X.env.globals))=false:=by rw[I.ok.kind];rfl
 have hiσ:i<σ.9:=by rw[I.len];exact(Ô.mp hi).1
 have Bn:=I.Bn;refine wg0 hk hn (λO t g=>?_) l
 let{oL,_,_,R,_}:=id hn
 have a:jA X.prog X.w H O:=λb ob e=>by
  refine(I.b7 b ob e).sV (λc L hc q=>(g.2 c ?_).trans q) (λ_ q=>q) λ_ _ q=>q;rintro rfl;rcases hc with z |hc
  .rw[<-z,I.free]at e;cases e
  .rw[I.free]at hc;cases hc
 refine h _ {I.ok,I.os,I.bare,{λb o e n G B=>?_,λb o e n G B=>?_,I.base.free,λb o e B=>?_,I.base.nY,I.base.mY,I.base.nZ},{_,t,λj y S f C U=>?_},λy c e=>?_,I.free,I.gB,λp Y=>?_,a,by simpa using I.len} t rfl
 .exact(g.2 b (Ñ (Ö (Æ e) I.ok.above))).trans (I.base.keep b o e n G B)
 .let{Z,f}:=I.base.slot b o e n G B
  exact{Z,(g.2 b (Ñ (Ö (Æ e) I.ok.above))).trans f}
 .let{o',f}:=I.base.there b o e B
  exact{o',(g.2 b (Ñ (Ö (Æ e) I.ok.above))).trans f}
 .by_cases J:j=i
  .subst J;rw[hi]at f;cases f;rw[ζ hiσ]at C;cases C;exact{u,r,.inl {hk,by simp}}
  .rw[ĵ (Ü J)]at C
   let{u',r',q}:=hl j y S f C U
   refine{u',r',?_};rcases q with⟨k,e⟩ |⟨k,c,e,z⟩
   .refine .inl {k,?_};have:y≠x:=λe=>J (oK T f (e ▸ hi));simp[this,e]
   .exact .inr {k,c,e,z.sameBut g (Bn y c e)}
 .let{L,z}:=I.cell y c e
  exact{L,z.sameBut g (Bn y c e)}
 .let{e,n,ne,nf,d}:=I.pin p Y
  exact{(g.2 p.1 ne).trans e,n,ne,nf,d}
theorem E9{a b c:Nat}{pl g fd T:Str}{idx:Expr}{ti:TE}{j:Nat}{p1 p2 p3 p4 p5 p6 p7 p8 p9 Wn p UD r C J Wo:Pos}(hN:X.N.Nodup)(ha:X.N[a]?=ρ pl)(hb:X.N[b]?=ρ g)(hc:X.N[c]?=ρ fd)
 (la:X.env.scope.names.lookup pl=ρ .local) (lb:X.env.scope.names.lookup g=ρ .local) (lc:X.env.scope.names.lookup fd=ρ .local) (Sh:PE X idx ti) (hz:T.9=0) (Wq:D1 idx)
 (Si:a≠b:=by decide) (Ws:a≠c:=by decide) (Wt:b≠c:=by decide) (Z5:¬pl=g:=by decide) (Wu:¬g=fd:=by decide) (Z6:¬pl=fd:=by decide)
 (UE:(pl==("__debug__":Str))=false:=by decide) (Wv:(pl==("__classdict__":Str))=false:=by decide) (UG:(g==("__debug__":Str))=false:=by decide) (Ww:(fd==("__debug__":Str))=false:=by decide)
 (Wx:Ě (.Subscript (.Name pl p2) idx p3) (ρ (.Name g p1)) p4.line X.5=pure false:=by rfl)
 (U:ĩ (.Name pl p) "replace" X.env (eval (.Name pl p) X.5)=eval (.Name pl p) X.5:=by rfl)
 (Sj:((backTo J (starEach [.Name g r,.Constant (.str T) j C] X.5)).all (λx=>!x.1)&&(backToKw J (Ĝ [] X.5)).all (λx=>x.1.isSome)
   && decide (([.Name g r,.Constant (.str T) j C]:List Expr).length+([]:List ĭ).9+(if ([]:List ĭ).isEmpty then 0 else 1)<30))=true:=by rfl)
 (hline:(UD.endLine==J.line)=true:=by rfl) :
 E2 X [.Assign [.Name g p1] (.Subscript (.Name pl p2) idx p3) p4,.Assign [.Name fd p5] (.BinOp (.Name fd p6) .Add (.Name g p7) p8) p9,
  .Assign [.Name pl Wn] (.Call (.Attribute (.Name pl p) "replace" UD) [.Name g r,.Constant (.str T) j C] [] J) Wo] (Mg a b c T ti):=by
 refine{?_};intro f s σ H D I tk h
 let{d,found,S,e2,h}:=h
 refine İ (Ŵ (wga ?_) Wx);refine ß (Ņ tk (Bo ha (.inl la) UE Wv f s σ H (λx V=>x=.str d/\V=H) I {_,S,rfl,rfl})) (λv s1 ⟨G,x,V,I1,r1,ex,eH⟩=>?_) (λ_ _ e=>e.2);subst ex eH;refine ß (Ņ G (Sh f s1 σ _ _ I1 h)) (λu s2 ⟨O5,y,H2,I2,r2,i,ch,ey,hp,hf,L,q⟩=>?_) (λ_ _ e=>e.2);subst ey
 let{t,rfl}:=r1
 let{Y,rfl}:=r2
 let{jj,Z,h2,h3,h4,h5}:=tJ L
 have hl:d.cps.toList.9=d.9:=by simp[ı]
 rw[hl]at Z h4 h5;have hn:=o5
 refine tail_any (Ś s2 d t) wfk.lookup (getItem_str (c:=ch) (by
  have q1:decide (i < -(2^63:Int))=false:=decide_eq_false ();have q2:decide (i ≥ 2^63)=false:=decide_eq_false ()
  rw[q1,q2,Bool.or_false]) (by rw[Z];simpa using h2) ?_) (Wq _ _)
 have I3:=I2.tok (s2.toks+1)
 let{m3,n3,_}:=id I3.loc
 refine BD I3 n3 hN hb lb (v:=.str {#[ch]}) ⟨s2.toks,rfl⟩ λo w z t4=>?_;have lσ:σ.9=X.N.9:=I.len;have Z7:a<σ.9:=by rw[lσ];exact(Ô.mp ha).1
 have Z8:b<σ.9:=by rw[lσ];exact(Ô.mp hb).1
 have Z9:c<σ.9:=by rw[lσ];exact(Ô.mp hc).1
 let{uf,mf,tf,rfl}:=Ld (v:=.str found) w z hc (by rw[ĵ Wt];exact e2) lc
 refine İ (Ŵ (wpAny_BinOp ?_) rfl);refine Ų (ο w.ok.kind lc z mf ?_) Ww;refine Ų (ο w.ok.kind lb z (v:=.str {#[ch]} s2.toks) (by simp) ?_) UG;refine wpAny_with_toks (n:=o.toks) (Ç _) (whG (λY k=>?_) (by rw[Ę];show found.9+1<=_;lia));intro hk;have M:({o with toks:=k}:Shared).heap.Ns X.env.locals _:=z;refine BD (w.tok k) M hN hc lc (v:=.str (found++{#[ch]})) ⟨Y,rfl⟩ λA B E t5=>?_;have JG:o.toks<=k:=hk;have Za:A.toks=k+1:=t5;have Zb:o.toks=s2.toks+1+1:=t4
 let{up,mp,tp,rfl}:=Ld (v:=.str d) B E ha (by rw[ĵ Ws.symm,ĵ Si.symm];exact S) la
 refine İ (Ŵ (wfM U Sj hline rfl ?_) rfl);refine Ų (ο B.ok.kind la E mp ?_) UE;refine{"str","str.replace",δ,PySem.F.slot_str_replace,PySem.F.type_str_replace,Ś _ _ _,(λ_ e=>nomatch e),?_};refine wcy (by rfl) (wdq ?_);show wpAny _ _ (spliced ((false,eval (.Name g r) X.5)::(false,eval (.Constant (.str T) j C) X.5)::[])) _ _ _;refine ų (Ų (ο B.ok.kind lb E (v:=.str {#[ch]} s2.toks) (by simp[Wu]) ?_) UG);refine ų (wdJ ?_);refine we6 ?_
 have O:(({#[ch]}:Str)==T)=false:=by
  refine beq_eq_false_iff_ne.mpr λe=>?_;have:=congrArg ı e;rw[hz]at this;exact absurd this (by show ¬((1:Nat)=0);decide)
 have a1:s2.toks≠0:=();have a2:A.toks≠0:=();have a3:s2.toks≠A.toks:=();refine SC.replace a1 a2 a3 O (by rw[hz];lia) λQ m=>?_;have R:({A with toks:=m}:Shared).heap.Ns X.env.locals _:=E;refine BD (B.tok m) R hN ha la (v:=.str (Λ d {#[ch]} T)) ⟨Q,rfl⟩ λs6 I6 n6 t6=>?_;exact Ĭ {_,H2,I6,q}
theorem Cx.Ok.marked(ok:X.Ok):(X.marked e).Ok:=
 {ok.mod,ok.kind,ok.glob,ok.blt,ok.above,ok.inj,ok.has,ok.LL,λz=>Bool.noConfusion z,ok.frames,ok.KU,ok.QP,ok.bs,ok.FT,ok.B8,ok.DR,ok.oJ,ok.Jn}
theorem Inv.marked(I:Inv X pins σ H s):Inv (X.marked e) pins σ H s:=⟨I.ok.marked,I.os,I.bare,I.base,I.loc,I.cell,I.free,I.gB,I.pin,I.b7,I.len⟩
theorem Inv.unmarked(ok:X.Ok)(I:Inv (X.marked e) pins σ H s):Inv X pins σ H s:=⟨ok,I.os,I.bare,I.base,I.loc,I.cell,I.free,I.gB,I.pin,I.b7,I.len⟩
theorem Sl(e:h.get? x=ρ {.ref C,od,.fields vs,g}):bL P w H h x (XC x C od):=
 {⟨vs,g,e⟩,{_,e},λd f ⟨a,b,c⟩ k=>{a,b,k _ c}}
theorem Inv.Pb{φ:Heap->Prop}(I:Inv X pins σ H s)(hn:H x=τ)(g:X.s₀.8<=x)(hl:x≠X.env.locals)(hc:∀y c,X.env.cells.lookup y=ρ c->c≠x)(j:∀p∈X.pn++pins,p.1≠x)(ok:bL X.prog X.w (upd H x (.ext φ)) s.heap x (.ext φ)) :
 Inv X pins σ (upd H x (.ext φ)) s:=by
 have u:=I.base;refine{I.ok,I.os,I.bare,{u.keep,u.slot,λb o q n h=>?_,u.there,λb f q=>?_,λb o v q=>?_,λb ps q=>?_},I.loc,I.cell,by rw[a9 (Ü hl)];exact I.free,λy c e=>by rw[a9 (hc y c e)];exact I.gB y c e,λp d=>?_,λa o e=>?_,I.len}
 .rw[a9 (λz=>by rw[z]at q;exact absurd (Ö (Æ q) g) (ò _))];exact u.free b o q n h
 .have e:=u.nY b f q;rw[a9 (ae e hn)];exact e
 .have e:=u.mY b o v q;rw[a9 (ae e hn)];exact e
 .let{m,e}:=u.nZ b ps q
  exact{m,by rw[a9 (ae e hn)];exact e}
 .let{a1,a2,a3}:=I.pin p d
  exact{a1,by rw[a9 (j p d)];exact a2,a3}
 .by_cases z:a=x
  .subst z;rw[a6]at e;cases e;exact ok
  .rw[a9 z]at e;refine(I.b7 a o e).sV (λb u _ q=>q) (λb q=>?_) λb f q=>?_
   .rw[a9 (ae q hn)];exact q
   .rw[a9 (ae q hn)];exact q
theorem Inv.Gv{m:Str->Option Value}(I:Inv X pins σ H s)(J:X.N.Nodup)(C:X.N[j]?=ρ n)(hk:X.env.scope.names.lookup n=ρ .local)
 (T:∃m,s.heap.Ns X.env.locals m/\(∀(i:Nat) (x:Str) (v:V),X.N[i]?=ρ x->σ[i]?=ρ (ρ v)->O3 X.env.scope x->∃u,RelV v u/\Look X.env s.heap m x u)/\h'.Ns X.env.locals (λx=>if x=n then v else m x))
 (g:Τ X.env.locals s.heap h'):Inv X pins (σ.set j τ) H {s with heap:=h',toks:=tk}:=by
 let{m,hn,hl,t}:=T
 have Bn:=I.Bn
 let{S,_,_,B,_}:=id hn
 refine{I.ok,I.os,I.bare,{λb o e n w l=>?_,λb o e n w l=>?_,I.base.free,λb o e l=>?_,I.base.nY,I.base.mY,I.base.nZ},{_,t,λi y D h r E=>?_},λy c e=>?_,I.free,I.gB,λp G=>?_,λb ob e=>?_,by simpa using I.len}
 .exact(g.2 b (Ñ (Ö (Æ e) I.ok.above))).trans (I.base.keep b o e n w l)
 .let{L,h}:=I.base.slot b o e n w l
  exact{L,(g.2 b (Ñ (Ö (Æ e) I.ok.above))).trans h}
 .let{M,h}:=I.base.there b o e l
  exact{M,(g.2 b (Ñ (Ö (Æ e) I.ok.above))).trans h}
 .by_cases f:i=j
  .subst f;have:i<σ.9:=by rw[I.len];exact(Ô.mp C).1
   rw[ζ this]at r;cases r
  .rw[ĵ (Ü f)]at r
   let{O,Q,q}:=hl i y D h r E
   refine{O,Q,?_};rcases q with⟨k,e⟩ |⟨k,c,e,z⟩
   .refine .inl {k,?_};have:y≠n:=λe=>f (oK J h (e ▸ C));simp[this,e]
   .exact .inr {k,c,e,z.sameBut g (Bn y c e)}
 .let{A,z}:=I.cell y c e
  exact{A,z.sameBut g (Bn y c e)}
 .let{e,n,ne,R,d}:=I.pin p G
  exact{(g.2 p.1 ne).trans e,n,ne,R,d}
 .refine(I.b7 b ob e).sV (λc A hc q=>(g.2 c ?_).trans q) (λ_ q=>q) λ_ _ q=>q;rintro rfl;have a:=I.free;rcases hc with rfl |hc
  .rw[a]at e;cases e
  .rw[a]at hc;cases hc
theorem Gw{K:À}{J:It}(h:oj K J l g j r H Q):xm (FV K 2 (kU (cA 0) (kU (cA 1) FU))) 2 J l g j r H Q:=
 let ⟨W,a,t⟩:=h
 {W,a,λi m ys f w=>let ⟨p,q⟩:=t i m ys f w;{p,q.imp id λ⟨a,b,c⟩=>{a,b,λx k n u y=>by revert n;refine Bi 2 _ ?_;exact λ_ _=>let ⟨p,v,d,e,o,s⟩:=c x k y;{p,[v,d],e,o,rfl,v,[d],rfl,d,[],rfl,rfl,{[ρ v,ρ d],rfl,rfl},s}}}}
theorem Gx{K:À}{J:It}(h:uw K J l g j r H Q):xm (FV K 3 (kU (cA 0) (kU (cA 1) (kU (cA 2) FU)))) 3 J l g j r H Q:=
 let ⟨W,a,t⟩:=h
 {W,a,λi m ys k w=>let ⟨p,q⟩:=t i m ys k w;{p,q.imp id λ⟨a,b,c⟩=>{a,b,λx n o z y=>by revert o;refine Bi 3 _ ?_;exact λ_ _ _=>let ⟨p,v,f,d,e,u,s⟩:=c x n y;{p,[v,f,d],e,u,rfl,v,[f,d],rfl,f,[d],rfl,d,[],rfl,rfl,{[ρ v,ρ f,ρ d],rfl,rfl},s}}}}
end
section
variable{f C:Addr}
structure Mk(K:À)(C f:Addr):Prop where
 makes:wht K C=true
 init:ø K (.ref C) "__init__"=ρ (ρ (.ref f))
 fn:wet K (.ref f)=true
 kp:š K (.ref C)=true
abbrev JH(X:Cx)(ifs:List Expr)(t:TT):Prop:=Bx (∀(pins:List (Addr×Obj)) (s:Shared) (σ:St) (H:Hp) (Q:Bool->Hp->Prop),Inv X pins σ H s->t σ H Q ->
  wpAny (model X.prog X.w) X.A (forIn ifs true λc r=>if r=true then do let ok <-isTrue c X.env (eval c X.5);pure (γ ok) else pure (γ r)) (TP X pins σ Q) X.xe s)
theorem bx{X:Cx}:JH X [] tX:={λ_ _ _ H _ I h=>wpAny_tests_nil ⟨H,I,h⟩}
theorem gL{X:Cx}(h:PT X c t):JH X [c] t:={λa s σ H Q I hw=>wpAny_tests_one (h a s σ H Q I hw)}
end
section
variable{X:Cx}{pins:List (Addr×Obj)}{σ:St}{H:Hp}{s₂:Shared}{scope:ý}{x:Str}{xs ys:List Str}{ix:List Nat}{cl:List (Str×Addr)}{fp:List Addr}{L:Addr}
theorem JI(B:bZ X scope x ys ix)(I:Inv X pins σ H s₂)(j:∀b∈fp,sT X pins H b)(l:∀b∈fp,b<s₂.8)(r:s₂.8<=L)
 (g:∀y c,cl.lookup y=ρ c->X.env.cells.lookup y=ρ c) (p:∀y∈scope.names,y.2=.free->∃c,cl.lookup y.1=ρ c):(bB X scope N cl L s₂ H fp (X.pn++pins)).Ok where
 mod:=I.ok.mod
 kind:=B.kind
 glob:=I.ok.glob
 blt:=I.ok.blt
 above:=r
 inj:=λa b c i m=>I.ok.inj a b c (g a c i) (g b c m)
 has:=λa ha=>by
  let{k,f,hk}:=yw (env:=X.5) B.G1 (x:=a) ha
  exact p (a,k) f hk
 LL:=λ_ _ h=>nomatch h
 hd:=I.ok.hd
 frames:=I.ok.frames
 KU:=.inl rfl
 QP:=λb d=>{Ñ (Ö (l b d) r),λy c h=>(j b d).2.2.2.2.1 y c (g y c h)}
 bs:=I.bs
 FT:=Õ I.ok.FT I.sz
 B8:=λb o e d=>by
  rcases(j b d).2.2.2.1 with z |z
  .exact I.ok.B8 b o e z
  .exact absurd (Ö (Ö (Æ e) I.ok.FT) z) (ò _)
 DR:=λb d f=>by
  rcases Þ.mp (I.uc b f) with z |z
  .exact(j b d).2.1 z
  .exact(j b d).2.2.1 z
 oJ:=I.stack
 Jn:=I.mI
theorem Gy{m₁:Str->Option Value}(B:bZ X scope x ys ix)(I:Inv X pins σ H s₂)(hf:∀b∈fp,sT X pins H b)(J:∀b∈fp,b<s₂.8)(T:s₂.8<=L)
 (g:∀y c,cl.lookup y=ρ c->X.env.cells.lookup y=ρ c) (C:∀y∈scope.names,y.2=.free->∃c,cl.lookup y.1=ρ c)
 (kp:∀b o,s₂.heap.get? b=ρ o->t.get? b=ρ o) (U:t.Ns L m₁) (hl:l=s₂.8) (Sn:l≠L) (ho:t.get? l=ρ {cls:=.type "list",data:=.seq ([]:List Value).toArray n₀}) :
 Inv (bB X scope (xs++ys) cl L s₂ H fp (X.pn++pins)) [] (Ú xs.length τ++pick σ ix) (upd H l (.lst [])) {s₂ with heap:=t,toks:=tk}:=by
 subst hl;have Q:=I.b7.fresh (Ç s₂.8);refine{JI B I hf J T g C,rfl,I.bare,Un.laid kp (Ç _) Q,{m₁,U,λi y v D E Z=>?_},λy c e=>?_,?_,λy c e=>?_,λp O=>?_,I.b7.laid kp (Ç _) {à _,[],n₀,.nil,ho},?_}
 .obtain⟨j,rfl⟩:∃j,i=xs.9+j:=by
   by_cases z:i<xs.9
   .rw[ģ (by simpa using z)]at E;simp[z]at E
   .exact{i-xs.9,()}
  have G:ys[j]?=ρ y:=by
   have D:(xs++ys)[xs.9+j]?=ρ y:=D;rwa[ĉ (Nat.le_add_right _ _),wd0]at D
  let{i,hi,R,hk,a}:=B.slots j y G
  have f:(σ[i]?).join=ρ v:=by
   have:(pick σ ix)[j]?=ρ (ρ v):=by rwa[ĉ (by simp),Ő,wd0]at E
   unfold pick at this;rw[Ê,hi]at this;exact Î this
  have s:σ[i]?=ρ (ρ v):=by
   cases q:σ[i]? with
   |none=>rw[q]at f;cases f
   |some z=>rw[q]at f;rw[show z=ρ v from f]
  let{m,hn,M}:=I.loc
  have N:O3 X.env.scope y:=.inr (hk.imp id id)
  let{u,r,l}:=M i y v R s N
  refine{u,r,.inr {ua a,?_}};rcases l with⟨k,_⟩ |⟨_,c,hc,h⟩
  .have A:X.env.scope.names.lookup y=ρ .local:=k;rcases hk with z |z
   .rw[z]at A;cases A
   .rw[z]at A;cases A
  .let{S,w}:=C (y,.free) (Ÿ a) rfl
   have:=g y S w;rw[hc]at this;cases this
   let{o,q,d}:=h
   exact{c,w,o,kp c o q,d}
 .let{v,o,q,d}:=I.cell y c (g y c e)
  exact{v,o,kp c o q,d}
 .show upd H s₂.heap.objs.size (.lst []) L=τ;rw[a9 (Ü Sn)];exact I.b7.fresh T
 .let{v,o,q,d}:=I.cell y c (g y c e)
  rw[a9 (Ñ (Æ q))];exact I.gB y c (g y c e)
 .rw[û]at O
  let{q,n,ne,V,d}:=I.pin p O
  have lt:=Æ q;refine{kp _ _ q,by rw[a9 (Ñ lt)];exact n,Ñ (Ö lt T),λY=>?_,d};rcases Þ.mp (I.uc p.1 Y) with z |z
  .exact ne z
  .exact V z
 .simp[pick,B.len,bB]
theorem Dh(B:bZ X scope x ys ix)(cl L s H ex pn):PG (bB X scope ([x]++ys) cl L s H ex pn) (.Name x g) (cA 0):=
 have a:(relabel scope X.5).names.lookup x=ρ .local:=ω B.var
 iw B.nd rfl (.inl a) (.inr a)
end
section
variable{X:Cx}{st:Stmt}{rest:List Stmt}{t u:TS}
theorem a0(g:PS X st t)(j:yz X rest u):yz X (st::rest) (Bu t u):=by
 refine{?_};intro a s σ H D I h;refine İ (bU (g a s σ H (D.M9 (u D)) I h) λf s1 q=>?_)
 cases f with
 |next=>
  let{b,c,d,q}:=q
  exact j a s1 b c D d q
 |ret v=>exact q
 |brk=>exact q
 |cont=>exact q
theorem xD(g:QX X st t)(j:E2 X rest u):E2 X (st::rest) (Bu t u):=by
 refine{?_};intro a s σ H D I d h;refine İ (ß (Ņ d (g a s σ H (D.M9 (u D)) I d h)) (λf s1 ⟨b,q⟩=>?_) λ_ _ e=>e.2)
 cases f with
 |next=>
  let{c,i,k,q}:=q
  exact j a s1 c i D k b q
 |ret v=>exact q
 |brk=>exact q
 |cont=>exact q
end
section
variable{X:Cx}{e:Expr}{es:List Expr}{te:TE}{t:TA}
theorem a5(ha:PE X e te)(g:PA X es t)(j:starEach (e::es) X.5=(false,eval e X.5)::starEach es X.5:=by rfl):PA X (e::es) (tV te t):=by
 refine{?_};intro pos a s σ H Q I h;rw[j];show wpAny _ _ (spliced ((false,eval e X.5)::backTo pos (starEach es X.5))) _ _ s;refine ų (bU (ha a s σ H _ I h) λu s1 ⟨x,b,c,d,f⟩=>?_);exact bU (g pos a s1 σ b _ c f) λo s2 ⟨i,k,l,m,n⟩=>{x::i,k,l,.cons d m,n}
theorem aB(ha:PE X e te)(g:starEach [e] X.5=(false,eval e X.5)::starEach [] X.5:=by rfl):PA X [e] (tV te wg):=a5 ha jB g
end
section
variable{X:Cx}{x:Str}{p pos:Pos}{e:Expr}{es:List Expr}{t:TA}{id:String}{r:List V->Hp->VK->Prop}
def Pg(r:List V->Hp->VK->Prop)(t:TA):TE:=λσ H Q=>t σ H λvs H1=>r vs H1 Q
theorem aF(hc:d7 X (.builtin id) r)(j:Gl X x)(l:X.mg x=τ)(C:ì x=ρ (.builtin id))(ha:PA X (e::es) t)(hn:x≠"__name__":=by decide)(g:(x==("__debug__":Str))=false:=by decide)
 (he:starEach (e::es) X.5=(false,eval e X.5)::starEach es X.5:=by rfl) (hpl:(backTo pos (starEach es X.5)).any (·.1)=false:=by rfl):PE X (.Call (.Name x p) (e::es) [] pos) (Pg r t):=by
 refine{?_};intro a s σ H Q I h;refine ĸ (iT I j l C ?_ hn g);exact wey (bU (ha pos a s σ H _ I h) λb s1 ⟨c,d,f,i,k⟩=>hc a s1 σ d c b Q f i k) he hpl
end
section
variable{prog:É}{w:World}{A:Around}{E:Value->Shared->Prop}{s:Shared}{K:À}{x dx C:Addr}{mA:Str->Option Value}{name:Str}{v:Value}
theorem get_map{Q:Value->Shared->Prop}(X:K.In s.heap)(I:B9 s.heap x dx C mA)(j:wee K C name=true)(l:wf2 K C=true)
 (ha:ø K (.ref C) name=ρ τ) (p:mA name=ρ v) (g:whc v=true) (h:Q v {s with toks:=s.toks+1}) :
 wpAny (model prog w) A (getAttr (.ref x) name expr) Q E s:=by
 let{a,J,hl}:=I.look
 exact PySem.W.get_value X J (weF j).1 (PySem.W.findObj_own l ha rfl (by rw[hl,p])) g h
theorem JK{Q:Unit->Shared->Prop}(X:K.In s.heap)(I:B9 s.heap x dx C mA)
 (g:ø K (.ref C) "__setattr__"=ρ (ρ (.builtin "object.__setattr__"))) (j:wgV K C=true) (l:wfC K C name=ρ τ) (p:wf2 K C=true)
 (hw:wgF mA ns) (hsz:ns.9<=sizeLine)
 (h:∀h',B9 h' x dx C (λy=>if y=name then ρ v else mA y)->Τ dx s.heap h'->Q .unit {s with heap:=h',toks:=s.toks+2}) :
 wpAny (model prog w) A (setAttr (.ref x) name v) Q E s:=by
 let{q,J,hl}:=I.look
 refine wgY X J g (PySem.W.osa_open (s:={s with toks:=s.toks+1}) (r:=τ) X J j l λb=>?_)
 let{t,hc,e}:=PySem.W.any_some p
 have i:s.heap.get? x=ρ {.ref C,ρ dx,.plain,#[]}:=I.obj;refine Â (Ë (Â (Â (wg1 i (Â (wgJ (s:={s with toks:=s.toks+1}) (wfi X hc) ?_))))));rw[e];refine Ë (a:=ρ dx) (Â (Ë (Â ?_)));refine wpAny_nsSet1 (s:={s with toks:=s.toks+1}) I.ns λh' c d=>?_
 let{u,k,m,f,n,o}:=c.count (whC name v hw)
 refine Â (wpAny_lookBehind f (by grind [pastItsLine_dict,Õ]) ?_);exact Ë (h _ {(d.2 _ (Ü I.ne)).trans I.obj,c,I.ne} d)
end
section
variable{prog:É}{w:World}{A:Around}{E:Value->Shared->Prop}{s:Shared}{K:À}{x dx C f:Addr}{mA:Str->Option Value}{name:Str}
theorem Gz{Q:Value×List Value->Shared->Prop}(X:K.In s.heap)(I:B9 s.heap x dx C mA)(g:wee K C name=true)
 (j:ø K (.ref C) name=ρ (ρ (.ref f))) (l:wet K (.ref f)=true) (p:mA name=τ) (h:Q (.ref f,[.ref x]) s) :
 wpAny (model prog w) A (ř (.ref x) name pl) Q E s:=by
 let{a,J,hl}:=I.look
 exact PySem.W.method_fn X J (weF g).1 (weF g).2 j (beq_iff_eq.mp l) (by show (weK name a).map (·.isSome)=ρ false;rw[hl,p];rfl) h
theorem zK{R:ġ->Shared->Prop}(X:K.In s.heap)(l:wht K C=true)
 (hi:ø K (.ref C) "__init__"=ρ (ρ (.ref f))) (p:PySem.W.typeIn K (.ref f)=ρ (.type "function"))
 (h:codeAny (model prog w) (A.under (.builtin "type.__call__" {.ref C::vs,j})) (.call (.ref f) {.ref (s.8+1)::vs,j}) (PySem.W.InitBack (s.8+1) R)
   {s with heap:=(s.heap.push ł).push (Ŕ C s.8)}) :
 codeAny (model prog w) A (.call (.ref C) ⟨vs,j⟩) R s:=by
 let{a,g,d,t,os}:=s
 exact PySem.W.make_core (PySem.W.makes_of X l) (ς X hi) (λself=>PySem.W.bind_fn X self p) (.inl rfl) h
end
section
variable{X:Cx}{o e:Expr}{es:List Expr}{to:TE}{t:TA}{name:Str}{apos ez:Pos}{T id:String}{r:V->List V->Hp->VK->Prop}
theorem GA(p:wgb T)(slot:Slot T name id)(l:typeOf (.builtin id)=pure (.type "method_descriptor"))(C:Jb X id r)(J:PE X o to)
 (g:ĩ o name X.env (eval o X.5)=eval o X.5:=by rfl) (j:(apos.endLine==ez.line)=true:=by rfl):PE X (.Call (.Attribute o name apos) [] [] ez) (P7 X.K T r to):=by
 refine{?_};intro a s σ H Q I h;refine wpAny_Call_method0_late g j (bU (J a s σ H _ I h) λv s1 ⟨x,d,b,c,ty,e⟩=>?_)
 let{f,i}:=Gp b c ty
 exact{T,id,p,slot,l,f,i,wcy rfl (PySem.evalArgs_none (C a s1 σ d x [] v [] Q b c .nil e))}
theorem iy(J:wgb T)(slot:Slot T name id)(C:typeOf (.builtin id)=pure (.type "method_descriptor"))(U:Jb X id r)(ho:PE X o to)(ha:PA X (e::es) t)
 (j:ĩ o name X.env (eval o X.5)=eval o X.5:=by rfl)
 (p:((backTo ez (starEach (e::es) X.5)).all (λx=>!x.1)&&(backToKw ez (Ĝ [] X.5)).all (λx=>x.1.isSome)
   && decide ((e::es).9+([]:List ĭ).9+(if ([]:List ĭ).isEmpty then 0 else 1)<30))=true:=by rfl)
 (l:(apos.endLine==ez.line)=true:=by rfl) (hs:starEach (e::es) X.5=(false,eval e X.5)::starEach es X.5:=by rfl) (g:(backTo ez (starEach es X.5)).any (·.1)=false:=by rfl) :
 PE X (.Call (.Attribute o name apos) (e::es) [] ez) (QZ X.K T r to t):=by
 refine{?_};intro a s σ H Q I h;refine wfM j p l rfl (bU (ho a s σ H _ I h) λv s1 ⟨x,f,b,c,ty,i⟩=>?_)
 let{k,m}:=Gp b c ty
 refine{T,id,J,slot,C,k,m,?_};have d:=ha ez a s1 σ f _ b i;rw[hs]at d ⊢;refine wcy (by show (false ||(backTo ez (starEach es X.5)).any (·.1))=false;rw[g]<;>rfl) (wdq ?_);exact bU d λn s2 ⟨q,u,w,y,z⟩=>U a s2 σ u x q v n Q w c y z
end
section
variable{te:Jt}{i:Nat}
theorem Di{X:Cx}{K:À}{o:Expr}{t:TE}{name:Str}{apos g:Pos}{T id:String}{r:V->List V->Hp->VK->Prop}(C:X.K=K)(I:wgb T)(slot:Slot T name id)(p:typeOf (.builtin id)=pure (.type "method_descriptor"))(J:Jb X id r)(U:PE X o t)
 (j:ĩ o name X.env (eval o X.5)=eval o X.5:=by rfl) (l:(apos.endLine==g.line)=true:=by rfl):PE X (.Call (.Attribute o name apos) [] [] g) (P7 K T r t):=by
 subst C;exact GA I slot p J U j l
noncomputable def Sq(te:Jt)(i:Nat):JA:=λE D σ H=>te (E σ) σ H λv H1=>D.nx (σ.set i (ρ v)) H1
end
section
variable{X:Cx}{pins:List (Addr×Obj)}{σ:St}{H:Hp}{s:Shared}{a:Addr}{y d:V}{u r:Value}{o:Option V}{A:Around}{E:Value->Shared->Prop}
theorem JL{Q:Value->Shared->Prop}(p:A.units+1<ú)(I:Inv X pins σ H s)(g:eQ H a y o)(j:RelV y u)(h:∀s',Inv X pins σ H s'->Q (.bool (!o.isSome)) s') :
 wpAny (model X.prog X.w) A (ù .NotIn u (.ref a)) Q E s:=by
 rcases g with⟨c,k,e,d,l⟩ |⟨c,k,b,e,d,i,l⟩
 .subst d
  let{z,hd,m,rel,f}:=lj I.b7 e
  refine wpAny_notIn_of (tW j) hd f.mapOf ?_;rw[<-(rel.val k).qA,<-l];exact h _ (I.tok _)
 .subst d;cases(show u=Ä b from j)
  let{z,hd,n,rel,f}:=xA I.b7 e
  refine wpAny_notIn_heap (wdP p) (uk I.b7 i) hd f ?_;have q:=(rel.val k).qA;rw[wgW]at q;rw[<-q,<-l];exact h _ (I.tok _)
theorem Mu{Q:Value->Shared->Prop}(t:A.units+1<ú)(I:Inv X pins σ H s)(g:eQ H a y o)(j:RelV y u)(rd:RelV d r)(h:∀p s',Inv X pins σ H s'->RelV (o.getD d) p->Q p s') :
 wpAny (model X.prog X.w) A (call (.builtin "dict.get") [.ref a,u,r]) Q E s:=by
 rcases g with⟨f,k,e,i,l⟩ |⟨f,k,b,e,i,m,l⟩
 .subst i
  let{z,hd,q,rel,c}:=lj I.b7 e
  refine wfl wei c.typeIs wfN (wfy _ _ _) (meets_dict_get_default (bp X.prog X.w) a (tW j) hd r) {_,c.mapOf,h _ _ (I.tok _) ?_};rw[l];exact(rel.val k).getD rd
 .subst i;cases(show u=Ä b from j)
  let{z,hd,n,rel,c}:=xA I.b7 e
  refine wfl wei c.typeIs wfN (wfy _ _ _) (meetsH_dict_get_default (ſ (bp X.prog X.w)) a b hd r) {wdP t,k,n,uk I.b7 m,c,h _ _ (I.tok _) ?_};rw[l];exact(rel.val k).getD rd
end
section
variable{P:É}{w:World}{K:À}{mg:Str->Option Value}{base:Heap}{N:List Str}{qual:Str}{scope:ý}{f:Addr}{cd:Value}{A:Around}{outer:List Env}{s:Shared}{H:Hp}{E:XK}
theorem jA.past{lo:Nat}{H:Hp}{fs:List Addr}{h h':Heap}(x:jA P w H h)(p:yy lo H fs h h')(g:∀b∈fs,H b=τ):jA P w H h':=λa o e=>
 (x a o e).sV (λb u c q=>p.keep b u q (.inr (by grind)) λd=>by
   grind) (λ_ q=>q) λ_ _ q=>q
theorem bW:Dc (sU (qH P w) P w K mg base N qual scope f cd A outer s H E) E:=by
 intro v σ l s1 e C x I F y;show wpAny (model P w) _ («leaving» _ (.ref e)) (λ_ d=>qH P w outer H s E (.ref e) d) (λB d=>qH P w outer H s E B d) s1;unfold «leaving»;have g:∀b,s1.8<=b->l b=τ:=λb a=>I.b7.fresh a;refine Â (zz (lo:=s.8) (H:=l) (base:=base) (outer:=outer) I.ok.frames I.stack rfl I.sz g F λJ D p=>?_);have m:=I.mI
 have h:∀b o,s.heap.get? b=ρ o->b∉oI outer->b∉(envOfC qual scope s.heap.objs.size f cd::outer).filterMap (·.frame):=λb o a hn j=>by
  rcases Þ.mp (show b∈s.8::oI outer from j) with z |z
  .exact absurd (Æ a) (by rw[z];exact ò _)
  .exact hn z
 refine{e,C,x,l,rfl,I.os,I.bare,?_,I.b7.past p m,D,y};have u:=I.base;refine{λb o a n c i=>?_,λb o a n c i=>?_,λb o a n i=>u.free b o a n i,λb o a i=>?_,u.nY,u.mY,u.nZ}
 .exact p.keep b o (u.keep b o a n c i) (.inl (Æ a)) (h b o a c)
 .let{G,k}:=u.slot b o a n c i
  let{q,r}:=p.slot b _ k (show b∈s.8::oI outer from Ø _ c)
  exact⟨q,r⟩
 .let{t,k}:=u.there b o a i
  by_cases j:b∈(envOfC qual scope s.heap.objs.size f cd::outer).filterMap (·.frame)
  .let{G,r}:=p.slot b t k j
   exact{_,r}
  .exact{t,p.keep b t k (.inl (Æ a)) j}
end
section
variable{X:Cx}{pins:List (Addr×Obj)}{σ:St}{H:Hp}{s s':Shared}
theorem Inv.after(I:Inv X pins σ H s)(h:CE X.stack X.prog X.w H s Q u s'):EP X pins σ Q u s':=by
 let{v,c,os,bare,un,b7,r,q}:=h
 let{e,g,d,t,a}:=s'
 obtain rfl:a=s.os:=os;exact{v,c,I.call (h':=e) (g':=g) (d':=d) (t':=t) (ch:=[]) un b7 bare (λb z=>absurd z (by simp)),r,q}
theorem Inv.yF{g H':Hp}{s0 s1:Shared}{h':Heap}(r:Inv X pins σ g s0)(j:s1.os=s0.os)(bare:AllBare s1.gens)(un:Un (oI X.stack) [] g H' s0.heap s1.heap)(b7:jA X.prog X.w H' s1.heap)
 (p:yy s0.heap.objs.size H' (oI X.stack) s1.heap h') (l:∀b∈oI X.stack,H' b=τ):Un (oI X.stack) [] g H' s0.heap h'/\jA X.prog X.w H' h'/\∀tk,Inv X pins σ H' {s1 with heap:=h',toks:=tk}:=by
 have e:Un (oI X.stack) [] g H' s0.heap h':=by
  refine{λb o d n a f=>p.keep b o (un.keep b o d n a f) (.inl (Æ d)) a,λb o d n a f=>?_,un.free,λb o d f=>?_,un.nY,un.mY,un.nZ}
  .let{s,h}:=un.slot b o d n a f
   let{i,k}:=p.slot b _ h a
   exact⟨i,k⟩
  .let{m,h}:=un.there b o d f
   by_cases q:b∈oI X.stack
   .let{s,k}:=p.slot b m h q
    exact{_,k}
   .exact{m,p.keep b m h (.inl (Æ d)) q}
 have c:=b7.past p l;exact{e,c,λtk=>r.xx (s':={s1 with heap:=h',toks:=tk}) j e c bare λb z=>absurd z (by simp)}
end
section
variable{X:Cx}{CX:FL}{k:Nat}{f C:Addr}{fd:î}{ps:List Str}{sp:Sp}{tI:List V}{ds:List Value}{E:XK}{x:Str}{p pos:Pos}{e:Expr}{es:List Expr}{t:TA}
theorem BE(F:aI X.prog X.w X.K X.mg X.base CX k f fd ps sp)(j:cO k X.A)(l:Binds X.K fd ps ds)(hd:Vals tI ds)(J:Passes CX X E)
 (I:Inv X g σ H s) (r:Vals vs us) (h:sp (vs++tI) H Q E):wpAny (model X.prog X.w) X.A (call (.ref f) us) (EP X g σ Q) X.xe s:=by
 have b:Vals (vs++tI) (us++ds):=r.append hd;have hl:(us++ds).9=ps.9:=by rw[<-b.9];exact F.len _ _ _ _ h
 refine ē (Ĵ (F.run X.A X.stack s H {us,[]} (us++ds) (vs++tI) Q E j I.Go (l s us I.fJ hl) b h) λr c a=>?_)
 cases r with
 |error e=>exact J g σ H s e c I a
 |ok fl=>
  cases fl with
  |ret u=>exact I.after a
  |next=>exact ã a
  |brk=>exact ã a
  |cont=>exact ã a
theorem jF(F:aI X.prog X.w X.K X.mg X.base CX k f fd ps sp)(j:cO k X.A)(l:Gl X x)(J:X.mg x=ρ (.ref f))(hk:š X.K (.ref f)=true)(T:Binds X.K fd ps ds)(hd:Vals tI ds)(U:Passes CX X E)
 (ha:PA X (e::es) t) (g:(x==("__debug__":Str))=false:=by decide) (he:starEach (e::es) X.5=(false,eval e X.5)::starEach es X.5:=by rfl) (hpl:(backTo pos (starEach es X.5)).any (·.1)=false:=by rfl) :
 PE X (.Call (.Name x p) (e::es) [] pos) (KY sp tI E t):=by
 refine{?_};intro a s σ H Q I h;refine ĸ (ft I l J ?_ g);refine Ť (h₀:=X.base) I.ok.mod.Jm hk (bU (ha pos a s σ H _ I h) λc s1 ⟨d,i,b,r,q⟩=>{b.fJ,?_}) he hpl;exact BE F j T hd U b r q
theorem zL(M:Mk X.K C f)(F:aI X.prog X.w X.K X.mg X.base CX k f fd ps sp)(l:cO (k+1) X.A)(J:Binds X.K fd ps ds)(hd:Vals tI ds)
 (T:Passes CX X E) (I:Inv X g σ H s) (r:Vals vs us)
 (h:∀x j,H x=τ->H j=τ->j≠x->sp (.ref x::(vs++tI)) (upd (upd H j (.own x)) x (.ins C j [])) (λv U=>v=.non/\Q (.ref x) U) E) :
 wpAny (model X.prog X.w) X.A (call (.ref C) us) (EP X g σ Q) X.xe s:=by
 have c:=h (s.8+1) s.heap.objs.size (I.b7.fresh (Ĩ _)) (I.b7.fresh (Ç _)) (Ñ (Ł _));have b:=Inv.made (C:=C) I;have d:Vals (V.ref (s.8+1)::(vs++tI)) (Ä (s.8+1)::(us++ds)):=.cons rfl (r.append hd)
 have hl:(Ä (s.8+1)::us++ds).9=ps.9:=by
  have e:=d.9;rw[F.len _ _ _ _ c]at e;exact e.symm
 refine ē (zK (f:=f) I.fJ M.makes M.init (beq_iff_eq.mp M.fn) (Ĵ (F.run _ X.stack _ _ {Ä (s.8+1)::us,[]} (Ä (s.8+1)::(us++ds)) _ _ E (l.make C us [])
  (b.Go.make C us []) (J _ (Ä (s.8+1)::us) b.fJ hl) d c) λr i a=>?_))
 cases r with
 |error e=>exact T g σ _ _ e i b a
 |ok fl=>
  cases fl with
  |ret u=>
   let{v,m,n,o,p,q}:=b.after a
   subst p;exact{o,{V.ref (s.8+1),m,n,rfl,q}}
  |next=>exact ã a
  |brk=>exact ã a
  |cont=>exact ã a
theorem mJ(M:Mk X.K C f)(F:aI X.prog X.w X.K X.mg X.base CX k f fd ps sp)(j:cO (k+1) X.A)(l:Gl X x)(J:X.mg x=ρ (.ref C))(T:Binds X.K fd ps ds)(hd:Vals tI ds)(U:Passes CX X E)
 (ha:PA X (e::es) t) (g:(x==("__debug__":Str))=false:=by decide) (he:starEach (e::es) X.5=(false,eval e X.5)::starEach es X.5:=by rfl) (hpl:(backTo pos (starEach es X.5)).any (·.1)=false:=by rfl) :
 PE X (.Call (.Name x p) (e::es) [] pos) (KZ C sp tI E t):=by
 refine{?_};intro a s σ H Q I h;refine ĸ (ft I l J ?_ g);refine Ť (h₀:=X.base) I.ok.mod.Jm M.kp (bU (ha pos a s σ H _ I h) λc s1 ⟨d,i,b,r,q⟩=>{b.fJ,?_}) he hpl;exact zL M F j T hd U b r q
theorem GB(M:Mk X.K C f)(F:aI X.prog X.w X.K X.mg X.base CX k f fd ps sp)(j:cO (k+1) X.A)(l:Gl X x)(r:X.mg x=ρ (.ref C))(J:Binds X.K fd ps ds)(hd:Vals tI ds)(T:Passes CX X E)
 (g:(x==("__debug__":Str))=false:=by decide):PE X (.Call (.Name x p) [] [] pos) (KZ C sp tI E wg):=by
 refine{?_};intro a s σ H Q I h;refine ĸ (ft I l r ?_ g);exact wgt I.fJ M.kp (zL (us:=[]) M F j J hd T I .nil h)
end
section
variable{X:Cx}{ys:List Str}
theorem ag(F:aI X.prog X.w X.K X.mg X.base cz k f fd ps sp)(a:FnAt X.K X.mg x I ps f fd)(ha:PA X (e::j) t)(r:cO k X.A:=by exact cO.mono (by assumption) ⋯)(C:Gl X x:=by rfl)(l:(x==("__debug__":Str))=false:=by decide)
 (he:starEach (e::j) X.5=(false,eval e X.5)::starEach j X.5:=by rfl) (hpl:(backTo pos (starEach j X.5)).any (·.1)=false:=by rfl):PE X (.Call (.Name x p) (e::j) [] pos) (KY sp [] E0 t):=
 jF F r C a.g a.F.kp a.b .nil ni ha l he hpl
theorem wo{K:À}(g:X.K=K):d7 X (.type "list") (λxs H Q=>∃p ys,xs=[.ref p]/\(aL K H p ys\/gF K H p ys)/\∀l,H l=τ->Q (.ref l) (upd H l (.lst ys))):=by
 subst g;exact dQ
end
section
variable{κ:Type}[DecidableEq κ]
theorem yG{kvs:List (κ×V)}{k:κ}{v:V}(h:bD kvs k=ρ v):k∈kvs.map (·.1):=by
 have q:(kvs.any λa=>decide (a.1=k))=true:=by
  rw[j2,h]
  all_goals rfl
 let{p,b,e}:=ķ.mp q
 exact Å.mpr {p,b,of_decide_eq_true e}
end
section
variable{X:Cx}{st:Stmt}{tx:JA}
theorem om(h:k∉mv.map (·.1)):bD (cn mv) (Ã k:Key)=τ:=by
 cases q:bD (cn mv) (Ã k:Key) with
 |none=>rfl
 |some v=>
  have:=yG q;unfold cn at this;rw[Ì]at this
  let{m,a,e}:=Å.mp this
  have b:m.1=k:=Đ e;exact absurd (Å.mpr ⟨m,a,b⟩) h
theorem zM(g:RZ X st tx):Mh X [st] tx:=by
 refine{?_};intro a s σ H D E I h;refine İ (ß (g a s σ H D E I h) (λf s1 q=>?_) λ_ _ z=>z)
 cases f with
 |next=>exact Ĭ q
 |ret v=>exact q
 |brk=>exact q
 |cont=>exact q
theorem xE(f:Str->V)(h:k∉g):bD (qF f g) (Ã k:Key)=τ:=by
 cases q:bD (qF f g) (Ã k:Key) with
 |none=>rfl
 |some v=>
  have:=yG q;unfold qF at this;rw[Ì]at this
  let{m,a,e}:=Å.mp this
  have b:m=k:=Đ e;subst b;exact absurd a h
end
section
variable{X:Cx}{rest:List Stmt}{u:TS}{pos:Pos}
theorem GC(l:X.N.Nodup)(hi:X.N[i]?=ρ x)(g:X.env.scope.names.lookup x=ρ .local)(r:E2 X rest u):yz X (.Assign [.Name x C] (.Constant (.str z) j p) pos::rest) (Bu (E1 (tC (.str z)) (cA i)) u):=by
 refine{?_};intro a s σ H D I h;refine İ (Ŵ (wdJ ?_) rfl);refine wpAny_with_toks (n:=1) (s:={s with toks:=s.toks+1}) (Nat.le_add_left 1 _) (gZ (I.tok (s.toks+1)) l hi (.inl g) (v:=.str z) {_,rfl} (λs2 b=>?_) (.inr g));intro c;exact r a s2 _ H D b c h
end
section
variable{X:Cx}{t u:TS}{pos:Pos}
theorem aQ{c:Expr}{a b:List Stmt}{tc:TT}(hc:PT X c tc)(ha:yz X a t)(j:yz X b u):PS X (.If c a b pos) (P9 tc t u):=by
 refine{?_};intro e s σ H D I h;refine wpAny_If (bU (hc e s σ H _ I h) λd s1 ⟨f,g,i⟩=>?_)
 cases d with
 |true=>exact ha e s1 σ f D g i
 |false=>exact j e s1 σ f D g i
end
section
variable{X:Cx}{es:List Expr}{t:TJ}{pos:Pos}
theorem GD(h:PJ X es t):PJ X (.Constant (.str z) j pos::es) (Se z t):={λa s σ H b Q I q=>
 joinParts_cons (wdJ {q.1,h a _ σ H _ Q (I.tok _) q.2})}
end
section
variable{E:XK}{f:Str}{ta:TE}{te:Jt}
noncomputable def Sr(K:À)(ta:TE)(te:Jt)(f:Str):JA:=λE D σ H=>te (E σ) σ H λy H1=>ta σ H1 λx H2=>∃a C dx fs,x=.ref a/\H2 a=ρ (.ins C dx fs)/\wY K C/\bA K C f/\fs.9<1000/\D.nx σ (upd H2 a (.ins C dx (bV f y fs)))
end
section
variable{prog:É}{w:World}{A:Around}{R:ġ->Shared->Prop}{s:Shared}
theorem Ea(I:Nat->Shared->Prop)
 (J:∀n s,I n s->wpAny (model prog w) A (pyNext it) (λr g=>match r with
   |none=>R (.ok .next) g
   |some v=>wpAny (model prog w) A (weo target it v) (λ_ j=>wpAny (model prog w) A (assign target env v) (λ_ p=>
     wpAny (model prog w) A (forIn T true λc r=>if r=true then do let ok <-isTrue c env (eval c env);pure (γ ok) else pure (γ r)) (λok l=>
      if ok=true then wpAny (model prog w) A (eval U env) (λx t=>
       wpAny (model prog w) A (call (.builtin "list.append") [acc,x]) (λ_ C=>∃m,m<n/\I m C) (notedBy (model prog w) A env λe s'=>R (.error e) s') t) (notedBy (model prog w) A env λe s'=>R (.error e) s') l
      else ∃m,m<n/\I m l) (notedBy (model prog w) A env λe s'=>R (.error e) s') p) (notedBy (model prog w) A env λe s'=>R (.error e) s') j) (notedBy (model prog w) A env λe s'=>R (.error e) s') g) (notedBy (model prog w) A env λe s'=>R (.error e) s') s)
 (n:Nat) (h:I n s) :
 codeAny (model prog w) A (.compLoop (.ListComp U [⟨target,iter,T,0⟩] scope pos) 0 it acc env) R s:=by
 refine codeAny_loop rfl I (λn s q=>?_) n h;show wpAny _ A ((compTurn (.ListComp U [⟨target,iter,T,0⟩] scope pos) 0 it acc env).onRaise (λx=>do Β x env;theTreesLotGoes x)) _ _ s;refine wpAny_noted ?_;rw[compTurn_list];refine Â (weZ (Â (ß (J n s q) (λr g b=>?_) λ_ _ a=>a)))
 cases r with
 |none=>exact Ë b
 |some v=>
  refine Â (ß b (λ_ j f=>?_) λ_ _ a=>a);refine Â (ß f (λ_ p i=>Â (ß i (λok l d=>?_) λ_ _ a=>a)) λ_ _ a=>a)
  cases ok with
  |false=>exact Ë ⟨rfl,d⟩
  |true=>
   exact Â (Â (ß d (λx t k=>Â (ß k (λ_ C o=>Ë (Ë ⟨rfl,o⟩)) λ_ _ a=>a)) λ_ _ a=>a))
end
section
variable{X:Cx}{ta:TE}{a b:Expr}{pos:Pos}
theorem b8(g:mH X (ù op) r)(ha:PE X a ta)(j:PE X b l)(h:op≠.In:=by decide)(I:op≠.NotIn:=by decide):PT X (.Compare a [op] [b] pos) (CZ (wW r ta l)):=eL g ha j (bH _ h I)
end
section
variable{X:Cx}{o i:Expr}{td ty:TE}
theorem xF(j:X.A.units+1<ú)(hi:PE X i ty)(l:PE X o td):PC X .NotIn i o (Jv ty td):=by
 refine{?_};intro b s σ H Q I h;refine bU (hi b s σ H _ I h) λt s1 ⟨y,c,d,e,f⟩=>bU (l b s1 σ c _ d f) λu s2 ⟨x,k,m,n,a,p,ex,g,q⟩=>?_;subst ex;obtain rfl:u=Ä a:=n;exact JL j m g e λv r=>{.bl (!p.isSome),k,r,rfl,q}
end
section
variable{X:Cx}{k:Nat}{f:Addr}{fd:î}{ps:List Str}{sp:Sp}
theorem JM(F:aI X.prog X.w X.K X.mg X.base (qH X.prog X.w) k f fd ps sp)(j:cO k X.A)(l:Binds X.K fd ps [])
 (I:Inv X g σ H s) (r:Vals vs us) (h:sp vs H Q E):wpAny (model X.prog X.w) X.A (call (.ref f) us) (EP X g σ Q) (RY X g σ E) s:=by
 have hl:(us++[]).9=ps.9:=by rw[û,<-r.9];exact F.len _ _ _ _ h
 have a:=l s us I.fJ hl;rw[û]at a;refine ē (Ĵ (F.run X.A X.stack s H {us,[]} us vs Q E j I.Go a r h) λr c b=>?_)
 cases r with
 |error e=>exact⟨H,s,I,b⟩
 |ok fl=>
  cases fl with
  |ret u=>exact I.after b
  |next=>exact ã b
  |brk=>exact ã b
  |cont=>exact ã b
end
section
variable{X:Cx}{a b:Expr}{ta tb:TE}{pos:Pos}{rest:List Expr}
theorem dD(ha:PE X a ta)(j:PE X (.BoolOp .And (b::rest) pos) tb):PE X (.BoolOp .And (a::b::rest) pos) (OH ta tb):=by
 refine{?_};intro d s σ H Q I h;refine BoolOp_and (bU (ha d s σ H _ I h) λv s1 ⟨x,f,g,i,e⟩=>?_)
 let{c,rfl,e}:=e
 cases i;refine Ń ?_
 cases c with
 |true=>exact j d s1 σ f Q g e
 |false=>exact{.bl false,f,g,rfl,e}
end
section
variable{X:Cx}{pins:List (Addr×Obj)}{σ:St}{H:Hp}{s:Shared}{x:Addr}{φ:Heap->Prop}
theorem Inv.del(I:Inv X pins σ H s)(g:H x=ρ (.ext φ)):Inv X pins σ (_L.del H x) s:=by
 have ne:∀{b:Addr} {o:HO},H b=ρ o->(∀ψ,o≠.ext ψ)->b≠x:=λe n z=>by rw[z,g]at e;exact n φ (Î e).symm
 have nn:∀{b:Addr},H b=τ->_L.del H x b=τ:=λ{b} e=>by
  by_cases z:b=x
  .rw[z];exact fi
  .rw[gp z];exact e
 have u:=I.base;refine{I.ok,I.os,I.bare,{u.keep,u.slot,λb o q n d=>nn (u.free b o q n d),u.there,λb f q=>?_,λb o v q=>?_,λb ps q=>?_},I.loc,I.cell,nn I.free,λy c e=>nn (I.gB y c e),λp h=>?_,λa o e=>?_,I.len}
 .have e:=u.nY b f q;rw[gp (ne e λψ z=>by cases z)];exact e
 .have e:=u.mY b o v q;rw[gp (ne e λψ z=>by cases z)];exact e
 .let{m,e}:=u.nZ b ps q
  exact{m,by rw[gp (ne e λψ z=>by cases z)];exact e}
 .let{a1,a2,a3}:=I.pin p h
  exact{a1,nn a2,a3}
 .have i:H a=ρ o:=by
   by_cases z:a=x
   .rw[z,fi]at e;cases e
   .rw[gp z]at e;exact e
  refine(I.b7 a o i).sV (λb u _ q=>q) (λb q=>?_) λb f q=>?_
  .rw[gp (ne q λψ z=>by cases z)];exact q
  .rw[gp (ne q λψ z=>by cases z)];exact q
end
section
variable{P:É}{w:World}{H:Hp}{h h':Heap}{x e:Addr}{o':HO}
theorem jA.write(ok:jA P w H h)(g:Oo (H x))(he:e=x\/H e=ρ (.own x))(k:∀b u,b≠e->h.get? b=ρ u->h'.get? b=ρ u)(l:∃u,h'.get? e=ρ u)
 (new:bL P w (upd H x o') h' x o'):jA P w (upd H x o') h':=λb u q=>by
 have d:∀c y,H c=ρ (.own y)->c≠x:=λc y r z=>by subst z;rw[r]at g;exact g
 have f:∀c i,H c=ρ (.tup i)->c≠x:=λc i r z=>by subst z;rw[r]at g;exact g
 by_cases j:b=x
 .subst j;rw[a6]at q;cases q;exact new
 .rw[a9 j]at q
  by_cases a:b=e
  .have m:H b=ρ (.own x):=by
    rcases he with z |z
    .exact absurd (a.trans z) j
    .rw[a];exact z
   rw[q]at m;cases m
   let{v,n}:=l
   exact{v,by rw[a];exact n}
  .refine(ok b u q).sV (λc v hc r=>k c v ?_ r) (λc r=>by rw[a9 (d c b r)];exact r) λc i r=>by rw[a9 (f c i r)];exact r
   rcases hc with rfl |hc
   .exact a
   .rintro rfl;rcases he with z |z
    .exact d c b hc z
    .rw[hc]at z;cases z;exact j rfl
end
section
variable{fs ex:List Addr}{H:Hp}{h h':Heap}{x e:Addr}{o:HO}
theorem Un.write(g:Oo (H x))(he:e=x\/H e=ρ (.own x))(k:∀b u,b≠e->h.get? b=ρ u->h'.get? b=ρ u)(j:∃u,h'.get? e=ρ u):Un fs ex H (upd H x o) h h':=by
 have f:∀b,H b=τ->b≠x:=λb n z=>by subst z;rw[n]at g;exact g
 have d:∀b,H b=τ->b≠e:=λb n z=>by
  subst z;rcases he with r |r
  .grind
  .grind
 have c:∀b u,H b=ρ u->¬Oo (ρ u)->b≠x:=λb u q nm z=>by subst z;rw[q]at g;exact nm g
 refine{λb u q n _ _=>k b u (d b n) q,λb u q n _ _=>{u.slots,k b u (d b n) q},λb u q n _=>by rw[a9 (f b n)];exact n,λb u q _=>?_,
  λb i q=>by rw[a9 (c b _ q λz=>z)];exact q,λb u i q=>by rw[a9 (c b _ q λz=>z)];exact q,λb ps q=>{#[],by rw[a9 (c b _ q λz=>z),q];simp}}
 by_cases a:b=e
 .subst a;exact j
 .exact{u,k b u a q}
end
section
variable{X:Cx}{pins:List (Addr×Obj)}{σ:List (Option V)}{H:Hp}{s:Shared}{h':Heap}
theorem Inv.write(I:Inv X pins σ H s)(j:Oo (H x))(he:e=x\/H e=ρ (.own x))(k:∀b u,b≠e->s.heap.get? b=ρ u->h'.get? b=ρ u)(g:∃u,h'.get? e=ρ u)
 (new:bL X.prog X.w (upd H x o) h' x o):Inv X pins σ (upd H x o) {s with heap:=h',toks:=t'}:=I.un (Un.write j he k g) (I.b7.write j he k g new)
end
section
variable{X:Cx}{pins:List (Addr×Obj)}{σ:St}{H:Hp}{s:Shared}{l:Addr}{xs ys:List V}
theorem Inv.Ph{g its':List Value}{n:Nat}{f:Array Value->Array Value}{t':Nat}(I:Inv X pins σ H s)(j:H l=ρ (.lst xs))
 (e:s.heap.get? l=ρ {cls:=.type "list",data:=.seq g.toArray n}) (p:f g.6=its'.6) (r:Vals ys its') (t:ys.9<=sizeLine) :
 Inv X pins σ (upd H l (.lst ys)) {s with heap:=s.heap.update l (ŭ f),toks:=t'}:=by
 have q:=PySem.IsL.update e f;rw[p]at q;refine I.write (x:=l) (e:=l) (by rw[j];exact trivial) (.inl rfl) (λc u a b=>(þ s.heap (ŭ f) (Ü a)).trans b) {_,q} ?_;exact{t,its',_,r,q}
theorem f5:UA X "list.append" yr:=by
 intro b s σ H x i v j Q I d f h
 let{l,k,y,rfl,rfl,c,m,q}:=h
 cases d
 let{u,rfl,g}:=f.one
 let{z,a,n,r,hl,e}:=I.Gr c
 refine Ļ ő {_,e,rfl} F.entry_list_append (F.args_list_append_2 _ _) (PySem.list_append l a.toArray n u (by grind)) {e,?_};refine{.non,_,I.Ph (its':=a++[u]) c e (by simp) (r.append (.cons g .nil)) ?_,rfl,q};rw[Ò,wcD]
 lia
theorem Mv:UA X "list.pop" RA:=by
 intro d s σ H x m v o Q I g i h
 let{l,p,y,rfl,rfl,f,j,q}:=h
 cases g;have b:=i.zero;subst b
 let{z,a,n,r,hl,e}:=I.Gr f
 let{u,t,k}:=r.get j
 have c:a.toArray[a.toArray.size-1]?=ρ u:=by
  grind
 refine Ļ wgK {_,e,rfl} F.entry_list_pop (F.args_list_pop_1 _) (MeetsSeq.list_pop_last l a.toArray n u c (by grind)) {e,?_};refine{y,_,I.Ph (its':=a.dropLast) f e ?_ r.dropLast ?_,k,q}
 .grind
 .grind
end
section
variable{X:Cx}{pins:List (Addr×Obj)}{σ:St}{H:Hp}{s:Shared}{a:Addr}{y v:V}{u r:Value}{A:Around}{E:Value->Shared->Prop}
theorem Eb{Q:Value->Shared->Prop}(C:A.units+1<ú)(I:Inv X pins σ H s)(g:eQ H a y (ρ v))(t:RelV y u)(h:∀j s',Inv X pins σ H s'->RelV v j->Q j s') :
 wpAny (model X.prog X.w) A (getItem (.ref a) u) Q E s:=by
 rcases g with⟨d,k,e,f,l⟩ |⟨d,k,b,e,f,n,l⟩
 .subst f
  let{z,hd,q,rel,i}:=lj I.b7 e
  let{j,hw,c}:=j0.tH (v:=v) (o:=valueAt q k) (by rw[l];exact rel.val k)
  exact wpAny_getItem_of (tW t) i.mapOf hw (h j _ (I.tok _) c)
 .subst f;cases(show u=Ä b from t)
  let{z,hd,r,rel,i}:=xA I.b7 e
  let{j,hw,c}:=j0.tH (v:=v) (o:=(atKey r k).map (·.2)) (by rw[l];exact rel.val k)
  let{p,x,m}:=wfH.mp hw
  refine wpAny_getItem_heap (wdP C) (uk I.b7 n) i x ?_;rw[m];exact h j _ (I.tok _) c
theorem tL(I:Inv X pins σ H s)(g:Oo (H a))(j:Τ a s.heap h')(he:∃q,h'.get? a=ρ q)(new:bL X.prog X.w (upd H a ob) h' a ob) :
 Inv X pins σ (upd H a ob) {s with heap:=h',toks:=t'}:=
 I.write (x:=a) (e:=a) g (.inl rfl) (λb q c z=>(j.2 b c).trans z) he new
theorem Ec{Q:Unit->Shared->Prop}(J:A.units+1<ú)(I:Inv X pins σ H s)(g:mZ H a y v H')(t:RelV y u)(C:RelV v r)(h:∀s',Inv X pins σ H' s'->Q .unit s') :
 wpAny (model X.prog X.w) A (setItem (.ref a) u r) Q E s:=by
 rcases g with⟨d,k,e,j,l,m⟩ |⟨d,k,b,e,j,x,l,m⟩
 .subst j m
  let{z,hd,G,rel,n}:=rH I.b7 e
  have o:G.9<=sizeLine:=by rw[<-rel.9];exact z
  have hl:(putK d k v).9<=sizeLine:=by have:=gf d k v;lia
  refine wpAny_setItem_pairs (hsz:=o) (tW t) n λB f p=>h _ ?_;have L:∃q,B.get? a=ρ q:=let ⟨q,_,_,i,_⟩:=f;⟨q,i⟩
  exact tL I (by rw[e];exact Ā) p L (Bq hl hd (rel.put k C) f)
 .subst j m;cases(show u=Ä b from t)
  let{z,hd,M,rel,n}:=P6 I.b7 e
  have o:M.9<=sizeLine:=by rw[<-wgm rel];exact z
  have hl:(putK d k v).9<=sizeLine:=by have:=gf d k v;lia
  refine wpAny_setItem_heap (hsz:=o) (wdP J) (uk I.b7 x) n λB f p=>h _ ?_
  let{q,N,O,i,R,S,T,_,U}:=f
  refine tL I (by rw[e];exact Ā) p ⟨q,i⟩ {hl,hd,_,(rel.put k x C).keeps λc V D=>?_,q,N,O,i,R,S,T,U};rw[a9 (Om D e (λz=>nomatch z))];exact D
end
section
variable{X:Cx}{pins:List (Addr×Obj)}{σ:St}{H:Hp}{s₂:Shared}{scope:ý}{x:Str}{xs ys:List Str}{ix:List Nat}{cl:List (Str×Addr)}{fp:List Addr}{L:Addr}
theorem xG{tn:Nat->Heap->Prop}{Qd:Addr->Hp->Prop}{RR:Value->Addr->ġ->Shared->Prop}{E:Value->Shared->Prop}
 (hc:X.calm=true) (B:bZ X scope x ys ix) (I:Inv X pins σ H s₂) (T:Turn X.prog X.w X.K tg J fp it tn) (UH:tn 0 s₂.heap) (U:∀b∈fp,sT X pins H b)
 (Jy:∀y c,cl.lookup y=ρ c->X.env.cells.lookup y=ρ c) (Wy:∀y∈scope.names,y.2=.free->∃c,cl.lookup y.1=ρ c)
 (ht:∀L s H ex pn,JH (bB X scope (xs++ys) cl L s H ex pn) ifs tt) (he:∀L s H ex pn,PE (bB X scope (xs++ys) cl L s H ex pn) elt te)
 (hg:∀L s H ex pn,PG (bB X scope (xs++ys) cl L s H ex pn) tg g) (hw:∀l,H l=τ->xm g xs.length J l (pick σ ix) tt te H (Qd l))
 (Wz:∀D L H' s' m,Inv X pins σ H' s'->s'.heap.Ns L m->H' L=τ->L≠X.env.locals->X.s₀.8<=L->(∀y c,X.env.cells.lookup y=ρ c->c≠L)->(∀p∈X.pn++pins,p.1≠L)->Qd D H'->RR (.ref D) L (.ok .next) s') :
 wpAny (model X.prog X.w) X.A (newList []) (λacc t=>wpAny (model X.prog X.w) X.A (newFunctionEnv scope X.env.globals cl [] X.env.qual τ .none (ρ X.5)) (λPj s₄=>
  codeAny (model X.prog X.w) X.A (.compStart (.ListComp elt [⟨tg,iter,ifs,0⟩] scope pos) 0 (.ref it) acc {Pj with scope:=relabel scope X.5}) (RR acc Pj.locals) s₄) E t) E s₂:=by
 refine we5 (wpAny_newFunctionEnv B.G1 (by intro y hy;simp at hy) (λk j a=>?_) B.kind);dsimp only at j a ⊢;generalize O:s₂.heap.push {cls:=.type "list",dict:=τ,data:=.seq ([]:List Value).toArray}=C at j a ⊢;have hC:C.7=s₂.8+1:=by rw[<-O,ň]
 have UI:s₂.heap.objs.size≠C.7:=by rw[hC];exact Ñ (Ł _)
 have f:s₂.8<=C.7:=by rw[hC];exact Ĩ _
 have old:∀b o,s₂.heap.get? b=ρ o->k.get? b=ρ o:=λb o e=>a.extBut b o (Ñ (Ö (Æ e) f)) (Ð _ (O ▸ Ð _ e));have Ss:k.get? s₂.8=ρ {cls:=.type "list",data:=.seq ([]:List Value).toArray}:=a.extBut _ _ UI (Ð _ (O ▸ ç _ rfl));have Q:∀b∈fp,b<s₂.8:=λb h=>let ⟨o,e,_⟩:=T.obj 0 _ UH b h;Æ e
 have WB:∀b∈fp,∀o,s₂.heap.get? b=ρ o->k.get? b=ρ o:=λb _ o e=>old b o e;have UJ:tn 0 k:=T.keep 0 _ _ UH WB
 let{W,{m0,w0},turn}:=hw s₂.heap.objs.size (I.b7.fresh (Ç _))
 have N:∀t:Shared,t={s₂ with heap:=k,toks:=s₂.toks+([]:List (Str×Value)).length} ->
  codeAny (model X.prog X.w) X.A (.compLoop (.ListComp elt [⟨tg,iter,ifs,0⟩] scope pos) 0 (.ref it) (.ref s₂.8) (compEnvC scope cl C.objs.size X.5))
   (RR (.ref s₂.8) C.7) t:=by
  rintro t rfl;have I0:=Gy (xs:=xs) (tk:=s₂.toks+([]:List (Str×Value)).length) (n₀:=0) (m₁:=_) (L:=C.7) B I U Q f Jy Wy old j rfl UI Ss
  refine Ea (env:=compEnvC scope cl C.objs.size X.5)
   (λn s'=>∃i G vs H',vs.9=xs.9/\Inv (bB X scope (xs++ys) cl C.objs.size s₂ H fp (X.pn++pins)) [] (vs++pick σ ix) H' s'/\tn i s'.heap/\(∀b∈fp,H' b=τ)/\W i n G H') ?_ m0
   ⟨0,[],_,_,Ő,I0,UJ,λb h=>by rw[a9 (Ñ (Q b h))];exact(U b h).1,w0⟩
  rintro n s3 ⟨i,G,vs,H3,hv,I3,UK,UL,w3⟩
  let{O6,alt}:=turn i n G H3 w3
  have M:∀{H':Hp},(∀b∈fp,H' b=τ)->∀b∈fp,sT (bB X scope (xs++ys) cl C.objs.size s₂ H fp (X.pn++pins)) [] H' b:=λhn b h=>
   {hn b h,Ñ (Ö (Q b h) f),λhm=>by
     rcases Þ.mp (I.uc b hm) with z |z
     .exact(U b h).2.1 z
     .exact(U b h).2.2.1 z,.inl h,λy c e=>(U b h).2.2.2.2.1 y c (Jy y c e),λp hp=>(U b h).2.2.2.2.2 p (by simpa [bB] using hp)}
  rcases alt with⟨stop,qd⟩ |⟨go,hsz,step⟩
  .refine bU (T.done (bB X scope (xs++ys) cl C.objs.size s₂ H fp (X.pn++pins)) rfl rfl rfl hc i [] s3 _ H3 _ I3 (M UL) UK stop) λr s4 ⟨hr,Y⟩=>?_;subst hr
   let{m,hn,_}:=Y.loc
   refine Wz s₂.heap.objs.size C.objs.size H3 s4 m ?_ hn Y.free (Ŀ (Ö I.lt f)) (Õ I.sz f) (λy c e=>?_) (λp hp=>?_) qd
   .exact I.xx Y.os Y.base Y.b7 Y.bare λb h=>{(U b h).2.2.2.1,(U b h).2.1,(U b h).2.2.2.2.1,(U b h).2.2.2.2.2}
   .let{v,o,q,d}:=I.cell y c e
    exact Ñ (Ö (Æ q) f)
   .exact Ñ (Ö (Æ (I.pin p hp).1) f)
  .refine bU (T.item (bB X scope (xs++ys) cl C.objs.size s₂ H fp (X.pn++pins)) rfl rfl rfl hc i [] s3 _ H3 _ I3 (M UL) UK go) λr s4 ⟨u,hr,h4⟩=>?_;subst hr;refine bU h4 λ_ s5 ⟨xv,H5,I5,r5,y5,R,Sb⟩=>?_;have Sd:=I5.pinned (M Sb) (T.obj _ _ R);refine ß (hg _ _ _ _ _ _ s5 _ H5 xv u _ Sd r5 (step xv _ vs hv y5)) (λ_ s6 {σ6,H6,I6,⟨OO,UM,e6⟩,q6}=>?_) λ_ _ z=>ã z;subst e6;refine ß (ht _ _ _ _ _ _ s6 _ _ _ I6 q6) (λb s7 ⟨H7,I7,q7⟩=>?_) λ_ _ z=>ã z
   have again:∀{S:St} {V:Hp} {Z:Shared},Inv (bB X scope (xs++ys) cl C.objs.size s₂ H fp (X.pn++pins)) ([]++qw fp s5.heap) S V Z ->
    Inv (bB X scope (xs++ys) cl C.objs.size s₂ H fp (X.pn++pins)) [] S V Z/\tn (i+1) Z.heap/\∀b∈fp,V b=τ:=λ{S V Z} I8=>by
    refine{I8.gY,T.keep _ _ _ R λb h o e=>(I8.pin (b,o) (ü _ (ü _ (fO h e)))).1,λb h=>?_}
    let{o,e,d}:=T.obj _ _ R b h
    exact(I8.pin (b,o) (ü _ (ü _ (fO h e)))).2.1
   cases b with
   |false=>
    rw[if_neg Ý]at q7 ⊢
    let{m',hm,w7}:=q7
    let{a1,a2,a3}:=again I7
    exact{m',hm,i+1,G,OO,H7,UM,a1,a2,a3,w7}
   |true=>
    rw[if_pos rfl]at q7 ⊢;refine ß (he _ _ _ _ _ _ s7 _ _ _ I7 q7) (λuy Z ⟨y,V,I8,r8,Pk,m',hm,w8⟩=>?_) λ_ _ z=>ã z
    refine ß (f5 (X:=bB X scope (xs++ys) cl C.objs.size s₂ H fp (X.pn++pins)) _ Z _ V (.ref s₂.8) [y] (.ref s₂.8) [uy] (λ_ H9=>H9=upd V s₂.heap.objs.size (.lst (G++[y]))) I8 rfl (.cons r8 .nil) {_,G,y,rfl,rfl,Pk,hsz,rfl})
     (λ_ s9 {v9,H9,I9,_,e9}=>?_) λ_ _ z=>ã z
    subst e9
    let{a1,a2,a3}:=again I9
    exact{m',hm,i+1,G++[y],OO,_,UM,a1,a2,a3,w8}
 exact codeAny_compStart_list (N _ rfl) (T.self X.A 0 _ _ _ UJ (N _ rfl))
theorem ux{C:It->Addr->St->Hp->(Hp->Prop)->Prop}(hc:X.calm=true)(B:bZ X scope x ys ix)(hg:∀cl L s H ex pn,PG (bB X scope (xs++ys) cl L s H ex pn) U g)(hC:∀J l j H Q,C J l j H Q->xm g xs.length J l j tt te H Q)(hi:PI X U iter wi)
 (ht:∀cl L s H ex pn,JH (bB X scope (xs++ys) cl L s H ex pn) p tt) (he:∀cl L s H ex pn,PE (bB X scope (xs++ys) cl L s H ex pn) r te)
 (hs:∀v,Ň iter X.env v=pure v:=by intro _;rfl):PE X (.ListComp r [⟨U,iter,p,0⟩] scope pos) (λσ H Q=>wi σ H λJ H1=>∀l,H1 l=τ->C J l (pick σ ix) H1 (λH2=>Q (.ref l) H2)):=by
 refine{?_};intro pins s σ H Q I h
 let{cl,a,d,f}:=nh (scope:=scope) (env:=X.5) (λy G i=>I.ok.has y.1 (B.free y G i))
 rw[eval_ListComp];refine wfn (use:=τ) rfl hs a B.kind B.names (bU (hi pins s σ H _ I h) λZ s1 k=>bU k λM s2 n=>?_)
 let{it,fp,tn,J,H2,e,N,T,t,f2,hw}:=n
 subst e;refine xG (RR:=λu C=>compPost (model X.prog X.w) X.A X.xe τ (EP X pins σ Q) u C) (Qd:=λl z=>Q (.ref l) z) hc B N T t f2 d f (ht cl) (he cl) (hg cl) (λl h=>hC _ _ _ _ _ (hw l h)) ?_;intro D L z O m R hn c k n S V q;exact{m,hn,λh' E=>{.ref D,z,R.turned (it:=L) (t':=O.toks) (λb o Y e=>(E.2 b Y).trans e) c k (.inr n) S V,rfl,q}}
theorem c6(hc:X.calm=true)(B:bZ X scope x ys ix)(hi:PI X (.Name x t) iter I)
 (T:∀cl L s H ex pn,JH (bB X scope (x::ys) cl L s H ex pn) g p) (he:∀cl L s H ex pn,PE (bB X scope (x::ys) cl L s H ex pn) j r)
 (U:∀v,Ň iter X.env v=pure v:=by intro _;rfl):PE X (.ListComp j [⟨.Name x t,iter,g,0⟩] scope pos) (L8 I ix p r):=
 ux (C:=λJ l a H Q=>ng J l a p r H Q) (xs:=[x]) hc B (Dh B) (λ_ _ _ _ _=>D7) hi T he U
end
theorem Dj{X:Cx}(h:QW X pos keys values j)(g:keys.all (·.isSome)=true)(hl:keys.9=values.9)(p:keys≠[])
 (l:keys.9<=15):PE X (.Dict keys values pos) (OV j):=by
 refine{?_};intro b s σ H Q I q;have hn:=I.b7.fresh (Ç s.8);have k:=I.laid (a:=s.8) (o:=.dK []) (h':=s.heap.push {cls:=.type "dict",data:=.dict #[]}) (t':=s.toks) (λ_ _ q=>Ð _ q) (Ç _) (ub s.heap I.big);refine wpAny_Dict_walk (knd:=bp X.prog X.w) g hl p l (bU (h b _ σ _ _ k (q _ hn)) λE s2 ⟨ps,G,i,rel,e,d,m,lk,n⟩=>?_);subst m
 let{r,c,t}:=ue (P:=X.prog) (w:=X.w) rel
 let{z,hd,u,v,x}:=rH i.b7 e
 cases v;refine{r,c,x,λh' f y=>{.ref s.8,_,?_,rfl,n}}
 have A:(gX [] d).9<=sizeLine:=by
  have B:=wh d [];rw[wer]at B;rw[Ę];lia
 have C:∃q,h'.get? s.8=ρ q:=let ⟨q,_,_,D,_⟩:=f;⟨q,D⟩
 exact tL i (by rw[e];exact Ā) y C (Bq A hd (t.merge .nil) f)
theorem Inv.freeze{X:Cx}(I:Inv X g σ H s)(e:H d=ρ (.dK kvs)):∃o,s.heap.get? d=ρ o/\Inv X g σ (upd H d (.frz o (.dK kvs))) s:=by
 have ok:=I.b7 d _ e
 let{z,y,f,rel,o,h,i,a,j}:=id ok
 refine{o,a,?_};exact I.write (x:=d) (e:=d) (h':=s.heap) (t':=s.toks) (by rw[e];exact trivial) (.inl rfl) (λb u _ c=>c) {_,a} ⟨a,ok⟩
section
variable{X:Cx}{scope:ý}{x:Str}{xs ys:List Str}{ix:List Nat}
theorem zN{C:It->Addr->St->Hp->(Hp->Prop)->Prop}(hc:X.calm=true)(B:bZ X scope x ys ix)(hN:X.N.Nodup)(hy:X.N[i]?=ρ y)(r:X.env.scope.names.lookup y=ρ .local)(hg:∀cl L s H ex pn,PG (bB X scope (xs++ys) cl L s H ex pn) tg g)(hC:∀J l t H Q,C J l t H Q->xm g xs.length J l t tt te H Q)(hi:PI X tg iter wi)
 (ht:∀cl L s H ex pn,JH (bB X scope (xs++ys) cl L s H ex pn) j tt) (he:∀cl L s H ex pn,PE (bB X scope (xs++ys) cl L s H ex pn) p te)
 (Su:Ě (.ListComp p [⟨tg,iter,j,0⟩] scope pos) (ρ (.Name y py)) U.line X.5=pure true:=by rfl)
 (hs:∀v,Ň iter X.env v=pure v:=by intro _;rfl):PS X (.Assign [.Name y py] (.ListComp p [⟨tg,iter,j,0⟩] scope pos) U) (λD σ H=>wi σ H λJ H1=>∀l,H1 l=τ->C J l (pick σ ix) H1 (λH2=>D.nx (σ.set i (ρ (.ref l))) H2)):=by
 refine{?_};intro c s σ H D I h
 let{cl,d,u,E}:=nh (scope:=scope) (env:=X.5) (λy hy G=>I.ok.has y.1 (B.free y hy G))
 rw[exec_Assign_Name_used _ _ _ _ Su];refine Â (weZ (Â ?_));show wpAny _ X.A (do let _ <-comprehension (.ListComp p [⟨tg,iter,j,0⟩] scope pos) scope X.env _ (newList []) false (eval iter X.5) (ρ (assign (.Name y py) X.5))) _ _ s
 refine Â (ß (wfn (use:=ρ (assign (.Name y py) X.5)) (Q:=λ_ k=>SP X c D .next k) rfl hs d B.kind B.names
  (bU (hi c s σ H _ I h) λxv s1 n=>bU n λQV s2 M=>?_)) (λ_ k hq=>Ë (Ë hq)) λ_ _ e=>e)
 let{it,fp,tn,J,H2,e,I2,T,O,f2,hw}:=M
 subst e;refine xG (RR:=λR C=>compPost (model X.prog X.w) X.A X.xe (ρ (assign (.Name y py) X.5)) (λ_ k=>SP X c D .next k) R C) (Qd:=λl S=>D.nx (σ.set i (ρ (.ref l))) S) hc B I2 T O f2 u E (ht cl) (he cl) (hg cl) (λl h=>hC _ _ _ _ _ (hw l h)) ?_;intro D' L S k m I' hn f n M h3 h4 q;show wpAny _ X.A (assign (.Name y py) X.env (.ref D')) _ _ _;refine wpAny_assign_Name (xB I' hN hy (.inl r) (v:=.ref D') rfl (λV Y sb=>?_) (.inr r))
 let{a,Z,ha}:=sb
 have hL:L≠a:=by
  rcases ha with z |z
  .rw[z];exact n
  .exact(h3 y a z).symm
 refine{m,hn.sameBut Z hL,λh' O7=>{_,S,Y.turned (it:=L) (t':=V.toks) (λb o hb e=>(O7.2 b hb).trans e) f n (.inr M) h3 h4,q}}
theorem fQ(hc:X.calm=true)(B:bZ X scope x ys ix)(hN:X.N.Nodup)(hy:X.N[i]?=ρ y)(r:X.env.scope.names.lookup y=ρ .local)(hi:PI X (.Name x I) iter wi)
 (ht:∀cl L s H ex pn,JH (bB X scope (x::ys) cl L s H ex pn) g T) (he:∀cl L s H ex pn,PE (bB X scope (x::ys) cl L s H ex pn) j U)
 (t:Ě (.ListComp j [⟨.Name x I,iter,g,0⟩] scope pos) (ρ (.Name y py)) p.line X.5=pure true:=by rfl)
 (hs:∀v,Ň iter X.env v=pure v:=by intro _;rfl):PS X (.Assign [.Name y py] (.ListComp j [⟨.Name x I,iter,g,0⟩] scope pos) p) (Mf wi ix T U i):=
 zN (C:=λJ l a H Q=>ng J l a T U H Q) (xs:=[x]) hc B hN hy r (Dh B) (λ_ _ _ _ _=>D7) hi ht he t hs
end
section
variable{X:Cx}{o i value:Expr}{pos pos':Pos}{td ty tv:TE}
theorem dk(j:X.A.units+1<ú)(l:PE X o td)(hi:PE X i ty)(p:OB i):PE X (.Subscript o i pos) (OJ td ty):=by
 refine{?_};intro b s σ H Q I h;refine Jr PySem.F.slot_dict_getitem.lookup p (bU (l b s σ H _ I h) λu s1 ⟨x,e,f,k,m⟩=>bU (hi b s1 σ e _ f m) λw s2 ⟨y,n,d,q,a,v,ex,g,r⟩=>?_);subst ex;obtain rfl:u=Ä a:=k;exact{zD d g,Eb j d g q λz B t c=>⟨v,n,t,c,r⟩}
theorem fu(j:X.A.units+1<ú)(l:PE X o td)(hi:PE X i ty)(p:PE X value tv)(t:Ě value (ρ (.Subscript o i pos')) pos.line X.5=pure false) :
 PS X (.Assign [.Subscript o i pos'] value pos) (Lb td ty tv):=by
 refine{?_};intro b s σ H D I h;refine wpAny_Assign_Subscript (bU (p b s σ H _ I h) λr s1 ⟨v,c,d,e,f⟩=>bU (l b s1 σ c _ d f) λu s2 ⟨x,k,m,n,q⟩=>bU (hi b s2 σ k _ m q) λG J ⟨y,L,w,z,a,B,ex,g,C⟩=>?_) t;subst ex;obtain rfl:u=Ä a:=n;exact Ec j w g z e λM E=>⟨σ,B,E,C⟩
end
section
variable{P:É}{w:World}{H:Hp}{h:Heap}{a C dx:Addr}{fs:List (Str×V)}
theorem tM(b7:jA P w H h)(e:H a=ρ (.ins C dx fs)):∃g,B9 h a dx C g/\(∀f,j0 (fs.lookup f) (g f))/\wgF g (fs.map (·.1))/\fs.9<=1000/\H dx=ρ (.own a):=by
 let{d,z,ne,ob,g,n,r,q}:=(show bL P w H h a (.ins C dx fs) from b7 a _ e)
 exact{g,⟨ob,n,ne⟩,r,q,z,d}
end
section
variable{X:Cx}{pins:List (Addr×Obj)}{σ:St}{H:Hp}{s:Shared}{a C dx:Addr}{fs:List (Str×V)}{f:Str}{v:V}{A:Around}{E:Value->Shared->Prop}
theorem BF{Q:Value->Shared->Prop}(I:Inv X pins σ H s)(e:H a=ρ (.ins C dx fs))(c:wY X.K C)(n:bA X.K C f)(l:fs.lookup f=ρ v)
 (h:∀u s',Inv X pins σ H s'->RelV v u->Q u s'):wpAny (model X.prog X.w) A (getAttr (.ref a) f b) Q E s:=by
 let{g,O,r,_,_,_}:=tM I.b7 e
 let{u,i,d}:=j0.tH (v:=v) (o:=g f) (by grind)
 exact get_map I.fJ O (c.get f) c.hd n i (wX d) (h u _ (I.tok _) d)
theorem oo{Q:Value×List Value->Shared->Prop}(I:Inv X pins σ H s)(e:H a=ρ (.ins C dx fs))(c:wY X.K C)(k:Ge X.K C m g)(l:fs.lookup m=τ)
 (h:Q (.ref g,[.ref a]) s):wpAny (model X.prog X.w) A (ř (.ref a) m pl) Q E s:=by
 let{b,O,r,_,_,_}:=tM I.b7 e
 have hn:b m=τ:=j0.none_of (by grind);exact Gz I.fJ O (c.get m) k.at_ k.fn hn h
theorem uz{Q:Unit->Shared->Prop}(I:Inv X pins σ H s)(e:H a=ρ (.ins C dx fs))(c:wY X.K C)(n:bA X.K C f)(hl:fs.9<1000)(l:RelV y u)
 (h:∀s',Inv X pins σ (upd H a (.ins C dx (bV f y fs))) s'->Q .unit s'):wpAny (model X.prog X.w) A (setAttr (.ref a) f u) Q E s:=by
 let{i,O,r,j,_,k}:=tM I.b7 e
 have m:(fs.map (·.1)).9<=sizeLine:=by rw[Á,Ę];lia
 refine JK I.fJ O c.sa c.po n.Oy c.hd j m λp d t=>h _ ?_;have hd:∃o,p.get? dx=ρ o:=let ⟨o,_,_,v,_⟩:=d.ns;⟨o,v⟩
 refine I.write (x:=a) (e:=dx) (by rw[e];exact Ā) (.inr k) (λb q B z=>(t.2 b B).trans z) hd ?_;refine{by rw[a9 O.ne];exact k,?_,O.ne,d.obj,_,d.ns,λg=>?_,λg D=>?_}
 .have:=rE f y fs;lia
 .show j0 ((bV f y fs).lookup g) (if g=f then ρ u else i g);rw[aC]
  by_cases q:g=f
  .rw[if_pos q,if_pos q];exact l
  .rw[if_neg q,if_neg q];exact r g
 .by_cases q:g=f
  .rw[q];exact(qx f y fs).1
  .refine(qx f y fs).2 g (j g λz=>D ?_);show (if g=f then ρ u else i g)=τ;rw[if_neg q];exact z
end
section
variable{X:Cx}{CX:FL}{k:Nat}{f C:Addr}{fd:î}{ps:List Str}{sp:Sp}{tI:List V}{ds:List Value}{E:XK}{m:Str}{pos apos:Pos}{e o:Expr}{es:List Expr}{ta:TE}{t:TA}
theorem gM(he:PE X o ta)(c:wY X.K C)(j:Ge X.K C m f)(F:aI X.prog X.w X.K X.mg X.base CX k f fd ps sp)(T:cO k X.A)(U:Binds X.K fd ps ds)(hd:Vals tI ds)(hx:Passes CX X E)(ha:PA X (e::es) t)
 (g:starEach (e::es) X.5=(false,eval e X.5)::starEach es X.5:=by rfl) (hpl:(backTo pos (starEach es X.5)).any (·.1)=false:=by rfl)
 (ht:eval (.Call (.Attribute o m apos) (e::es) [] pos) X.5=(do
   let J <-eval o X.5
   standAt apos.atName
   let (f,first) <-holding [J] (ř J m pl)
   ξ pos f first (backTo pos (starEach (e::es) X.5)) (backToKw pos (Ĝ [] X.5))):=by rfl) :
 PE X (.Call (.Attribute o m apos) (e::es) [] pos) (D0 C m sp tI E ta t):=by
 refine{?_};intro b s σ H Q I h;refine wdh (pl:=pl) (bU (he b s σ H _ I h) λu s1 ⟨x,n,d,p,a,z,fs,ex,v,l,q⟩=>?_) ht;subst ex;obtain rfl:u=Ä a:=p;refine oo d v c j l ?_;refine Ť (first:=[.ref a]) (h₀:=X.base) I.ok.mod.Jm j.kp (bU (ha pos b s1 σ n _ d q) λus s2 ⟨vs,B,i,r,y⟩=>{i.fJ,?_}) g hpl;exact BE (us:=.ref a::us) (vs:=.ref a::vs) F T U hd hx i (.cons rfl r) y
theorem GF(he:PE X o ta)(c:wY X.K C)(g:Ge X.K C m f)(F:aI X.prog X.w X.K X.mg X.base CX k f fd ps sp)(r:cO k X.A)(J:Binds X.K fd ps ds)(hd:Vals tI ds)(T:Passes CX X E)
 (U:eval (.Call (.Attribute o m apos) [] [] pos) X.5=(do
   let j <-eval o X.5
   standAt apos.atName
   let (f,first) <-holding [j] (ř j m pl)
   ξ pos f first (backTo pos (starEach [] X.5)) (backToKw pos (Ĝ [] X.5))):=by rfl) :
 PE X (.Call (.Attribute o m apos) [] [] pos) (D0 C m sp tI E ta wg):=by
 refine{?_};intro b s σ H Q I h;refine wdh (pl:=pl) (bU (he b s σ H _ I h) λu s1 ⟨x,n,d,e,a,p,fs,ex,i,l,q⟩=>?_) U;subst ex;obtain rfl:u=Ä a:=e;refine oo d i c g l ?_;exact wgt (first:=[.ref a]) d.fJ g.kp (BE (us:=[.ref a]) (vs:=[.ref a]) F r J hd T d (.cons rfl .nil) q)
theorem GH{pl:Sem Bool}(he:PE X.Ja o ta)(c:wY X.K C)(j:Ge X.K C m f)(F:aI X.prog X.w X.K X.mg X.base (qH X.prog X.w) k f fd ps sp)(T:cO k X.A)(U:Binds X.K fd ps [])(ha:PA X.Ja (e::es) t)
 (g:starEach (e::es) X.5=(false,eval e X.5)::starEach es X.5:=by rfl) (hpl:(backTo pos (starEach es X.5)).any (·.1)=false:=by rfl)
 (ht:eval (.Call (.Attribute o m apos) (e::es) [] pos) X.5=(do
   let J <-eval o X.5
   standAt apos.atName
   let (f,first) <-holding [J] (ř J m pl)
   ξ pos f first (backTo pos (starEach (e::es) X.5)) (backToKw pos (Ĝ [] X.5))):=by rfl) :
 QY X (.Call (.Attribute o m apos) (e::es) [] pos) (M7 C m sp ta t):=by
 refine{?_};intro b s σ H Q E I h;refine wdh (pl:=pl) (Gd (bU (he b s σ H _ (I.kT _) h) λu s1 ⟨x,n,d,p,a,B,fs,ex,v,l,q⟩=>?_)) ht;have d:=d.eS;subst ex;obtain rfl:u=Ä a:=p;refine oo d v c j l ?_;refine Ť (first:=[.ref a]) (h₀:=X.base) I.ok.mod.Jm j.kp (Gd (bU (ha pos b s1 σ n _ (d.kT _) q) λus s2 y=>?_)) g hpl
 let{vs,D,i,r,z}:=y.eS
 exact{i.fJ,JM (us:=.ref a::us) (vs:=.ref a::vs) F T U i (.cons rfl r) z}
end
section
variable{X:Cx}{e:Expr}{f:Str}{pos:Pos}{ta:TE}
theorem aM(he:PE X e ta)(g:ĩ e f X.env (eval e X.5)=eval e X.5):PE X (.Attribute e f pos) (Oz X.K ta f):=by
 refine{?_};intro b s σ H Q I h;refine Df g (bU (he b s σ H _ I h) λu s1 ⟨x,d,i,j,a,C,p,fs,v,ex,k,c,n,l,q⟩=>?_);subst ex;obtain rfl:u=Ä a:=j;exact BF i k c n l λr s2 m o=>⟨v,d,m,o,q⟩
end
section
variable{P:É}{w:World}{H:Hp}{h:Heap}{x C d t:Addr}
theorem tN{X:Cx}{K:À}{e:Expr}{f:Str}{pos:Pos}{g:TE}(j:X.K=K)(he:PE X e g)(l:ĩ e f X.env (eval e X.5)=eval e X.5):PE X (.Attribute e f pos) (Oz K g f):=by
 subst j;exact aM he l
theorem Sv(e:h.get? x=ρ (D3 C d t)):bL P w H h x (XD x C d):={⟨t,e⟩,{_,e},λc f ⟨a,b⟩ k=>{a,k _ b}}
end
section
variable{X:Cx}{o value:Expr}{f:Str}{pos pos':Pos}{ta tv:TE}
theorem c7(ha:PE X o ta)(g:PE X value tv)(j:Ě value (ρ (.Attribute o f pos')) pos.line X.5=pure false):PS X (.Assign [.Attribute o f pos'] value pos) (RW X.K ta tv f):=by
 refine{?_};intro b s σ H D I h;refine wcY (bU (g b s σ H _ I h) λu s1 ⟨y,d,e,i,q⟩=>bU (ha b s1 σ d _ e q) λk s2 m=>?_) j
 let{x,z,p,r,a,C,A,fs,ex,t,c,n,l,v}:=m
 subst ex;obtain rfl:k=Ä a:=r;exact uz p t c n l i λB w=>{σ,_,w,v}
end
section
variable{X:Cx}{o e f:Expr}{apos ez:Pos}{td ty tx:TE}
theorem GI(j:X.A.units+1<ú)(l:PE X o td)(he:PE X e ty)(p:PE X f tx)(m:M2 X o "get" apos e f ez):PE X (.Call (.Attribute o "get" apos) [e,f] [] ez) (LX td ty tx):=by
 refine{?_};intro b s σ H Q I h;refine wpAny_Call_method m.base m.few m.line wd1 wei PySem.F.type_dict_get (bU (l b s σ H _ I h) λu s1 ⟨x,k,i,n,a,ex,d,q⟩=>?_);subst ex;obtain rfl:u=Ä a:=n
 let{r,t,_}:=Gk i d
 refine{r,t,?_};rw[m.trees]
 refine wcy rfl (wdq (ų (bU (he b s1 σ k _ i q) λM s2 ⟨y,v,w,B,C⟩=>
  ų (bU (p b s2 σ v _ w C) λN O ⟨z,D,E,G,R,g,J⟩=>we6 ?_))))
 exact Mu j E g B G λS T L c=>{_,D,L,c,J}
end
section
variable{X:Cx}{x:Str}{p pos:Pos}{e:Expr}{es:List Expr}{t:TA}{T:String}{r:List V->Hp->VK->Prop}
theorem aY(hc:d7 X (.type T) r)(j:Gl X x)(l:X.mg x=τ)(C:ì x=ρ (.type T))(ha:PA X (e::es) t)(hn:x≠"__name__":=by decide)(g:(x==("__debug__":Str))=false:=by decide)
 (he:starEach (e::es) X.5=(false,eval e X.5)::starEach es X.5:=by rfl) (hpl:(backTo pos (starEach es X.5)).any (·.1)=false:=by rfl):PE X (.Call (.Name x p) (e::es) [] pos) (Pg r t):=by
 refine{?_};intro a s σ H Q I h;refine ĸ (iT I j l C ?_ hn g);exact wbY (bU (ha pos a s σ H _ I h) λb s1 ⟨c,d,f,i,k⟩=>hc a s1 σ d c b Q f i k) he hpl
end
section
variable{X:Cx}{pins:List (Addr×Obj)}{σ:St}{H:Hp}{s:Shared}{A:Around}{E Q:Value->Shared->Prop}{c:Value}{b:Bool}
theorem qM(I:Inv X pins σ H s)(g:RelV x u)(ty:eA X.K H x t)(e:Œ X.K t c=ρ b)(h:∀tk,Q (.bool b) {s with toks:=tk}) :
 wpAny (model X.prog X.w) A (call (.builtin "isinstance") [u,c]) Q E s:=by
 cases ty with
 |non=>cases(show u=ä from g);exact Ĥ PySem.W.kitx_none I.fJ Ā e (λz=>nomatch z) h
 |bl y=>cases(show u=Ι y from g);exact Ĥ PySem.W.kitx_bool I.fJ Ā e (λz=>nomatch z) h
 |int i=>let{t,q}:=(show ∃t,u=Θ i t from g);cases q;exact Ĥ PySem.W.kitx_int I.fJ Ā e (λz=>nomatch z) h
 |str y=>let{t,q}:=(show ∃t,u=wfB y t from g);cases q;exact Ĥ PySem.W.kitx_str I.fJ Ā e (λz=>nomatch z) h
 |flt y=>let{t,q}:=(show ∃t,u=wh8 y t from g);cases q;exact Ĥ PySem.W.kitx_float I.fJ Ā e (λz=>nomatch z) h
 |@lst a k d=>
  cases(show u=Ä a from g)
  let{_,_,n,_,f}:=(show bL X.prog X.w H s.heap a (.lst k) from I.b7 a _ d)
  exact Ĥ wgZ I.fJ {_,f,rfl} e (λz=>nomatch z) h
 |@frz a ob k d=>
  cases(show u=Ä a from g)
  let{_,_,_,n,_,f}:=(show bL X.prog X.w H s.heap a (.frz ob (.lst k)) from I.b7 a _ d)
  exact Ĥ wgZ I.fJ {_,f,rfl} e (λz=>nomatch z) h
 |@tup a k d=>
  cases(show u=Ä a from g)
  let{_,_,_,p}:=(show bL X.prog X.w H s.heap a (.tup k) from I.b7 a _ d)
  let{o,f,l,_}:=p
  exact Ĥ PySem.W.kitx_tuple I.fJ ⟨o,f,l⟩ e (λz=>nomatch z) h
 |@dK a j d=>
  cases(show u=Ä a from g)
  let{_,_,B,_,p}:=(show bL X.prog X.w H s.heap a (.dK j) from I.b7 a _ d)
  let{o,m,r,f,l,_}:=p
  exact Ĥ wh0 I.fJ ⟨o,f,l.1⟩ e (λz=>nomatch z) h
 |@dT a j d=>
  cases(show u=Ä a from g)
  let{_,_,k,_,o,m,r,f,l,_}:=(show bL X.prog X.w H s.heap a (.dT j) from I.b7 a _ d)
  exact Ĥ wh0 I.fJ ⟨o,f,l.1⟩ e (λz=>nomatch z) h
 |@ins a C D fs d cl ha hn sW v=>
  cases(show u=Ä a from g)
  let{G,O,_}:=tM I.b7 d
  let{L,J,_}:=O.look
  exact Ĥ (PySem.W.kitx_own (cl.get _) cl.hd ha hn sW v) I.fJ J e (λz=>nomatch z) h
end
section
variable{X:Cx}
theorem cU:d7 X (.builtin "isinstance") (λxs H Q=>∃x T t b,xs=[x,.ty T]/\eA X.K H x t/\Œ X.K t (.type T)=ρ b/\Q (.bl b) H):=by
 intro a s σ H xs g Q I r h
 let{x,T,t,b,rfl,ty,e,q}:=h
 let{u,i,rfl,c,d}:=vals2 r
 cases d;exact qM I c ty e λf=>{.bl b,H,I.tok f,rfl,q}
end
section
variable{prog:É}{w:World}{A:Around}{R:ġ->Shared->Prop}{I:Addr}{fp wr:List Addr}{G:Array ĳ->Array ĳ->Prop}{n:Nat}{P:Nat->Value->Prop}{St:Nat->Shared->Prop}
theorem zO(l:WalksS prog w A.in1 I fp wr G n P St)(S:Addr)(p:S∉fp)
 (val:Nat->Str) (r:∀i v,P i v->∃t,v=.str (val i) t) (j:n+1<ŕ) :
 ∀(k i:Nat) (s:Shared),n-i=k->i<=n->St i s ->
  s.heap.SetOf (ę prog w) S (λg=>(cL val i).any (· == g)) (cL val i).9 ->
  (∀s',Moved (S::wr) G s s'->s'.heap.SetOf (ę prog w) S (λg=>(cL val n).any (· == g)) (cL val n).9->R (.ok (.ret .none)) s') ->
  codeAny (model prog w) A (.builtin "set.update.loop" {[.ref S,.ref I],[]}) R s:=by
 have f:S∉wr:=λh=>p (l.sub _ h);have a:∀b∈wr,b∈S::wr:=λb j=>Ø _ j;intro k
 induction k with
 |zero=>
  intro i s hk hi c B C;have D:i=n:=();subst D;refine Ķ wdQ ?_;rw[Ŋ wcB _];show wpAny _ A.in1 (pyNext (.ref I) >>= _) _ _ s;refine Â (l.done s _ _ c λs' m=>?_);show wpAny _ A.in1 (ret ä) _ _ s'
  exact Ë (C s' (m.mono a) (by
   let{o,E,H,t,J,rest}:=B
   exact{o,E,H,t,m.heap S _ f J,rest}))
 |succ k Q=>
  intro i s hk hi c B C;have q:i<n:=();refine Ķ wdQ ?_;rw[Ŋ wcB _];show wpAny _ A.in1 (pyNext (.ref I) >>= _) _ _ s;refine Â (l.item i s _ _ q c λv s' T u m=>?_)
  let{t,rfl}:=r i v T
  have L:s'.heap.SetOf (ę prog w) S (λg=>(cL val i).any (· == g)) (cL val i).9:=by
   let{o,E,H,U,J,rest}:=B
   exact{o,E,H,U,m.heap S _ f J,rest}
  show wpAny _ A.in1 (holding [wfB (val i) t] (setAdd S (.str (val i) t)) >>= _) _ _ s';refine Â (Ą ?_);unfold setAdd;refine Ą ?_;refine Â ((ę prog w).pyHash (k:=val i) (L4 _ _ _ _) ?_);have d:(cL val i).9+1<ŕ:=by have:=xr val i;lia
  refine wpAny_setAddHashed_of (knd:=ę prog w) (s:={s' with toks:=s'.toks+1}) (L4 _ _ _ _) rfl L d λV x M=>?_
  have N:V.SetOf (ę prog w) S (λg=>(cL val (i+1)).any (· == g)) (cL val (i+1)).9:=
   SetOf_congr M (λg=>by rw[ir,DX]) (by rw[ir,yx])
  refine Ë {Ľ wcB _,Q (i+1) _ () q (l.frame _ s' _ _ u (Ĩ _) λb j o e=>?_) N λO y z=>?_}
  .rw[x.2 b (λh:b=S=>p (by rw[<-h];exact j))];exact e
  .refine C O (Moved.trans l.gtrans ((m.mono a).then_heap (Ĩ _) λb o j e=>?_) y) z;rw[x.2 b (λh:b=S=>j (by rw[h];exact Ù))];exact e
end
section
variable{prog:É}{w:World}{A:Around}{E:Value->Shared->Prop}{s:Shared}
set_option maxRecDepth 100000 in
set_option maxHeartbeats 3200000 in
theorem yH{Q:Value->Shared->Prop}
 (hh:A.handled=τ) (p:x.cps.size+1<ŕ)
 (h:∀(h':Heap) (tk:Nat),h'.SetOf (ę prog w) s.heap.objs.size (λC=>(cL (eR x) x.cps.size).any (· == C)) (cL (eR x) x.cps.size).9 ->
   (∀b o,b<s.8->s.heap.get? b=ρ o->h'.get? b=ρ o)->Q (.ref s.8) {s with heap:=h',toks:=tk}) :
 wpAny (model prog w) A (call (.type "set") [.str x I]) Q E s:=by
 let{c,tl,T}:=Ř.mro
 have y:=Ř.made;have U:=Ř.sub;refine ē (codeAny_of_tree ?_);show wpAny _ _ (callAny (.type "set") _) _ _ _;refine Ë {weR _ ∅,Ķ PySem.F.entry_type_call ?_};rw[Around.under_plain (weight_type_call_type "set" [.str x I] []) rfl];have h1:=Ř.notType;have h2:=Ř.canCreate;have Z:=PySem.F.typeCall_set_1 (.str x I)
 repeat (any_goals (first |assumption |wp_step))
 refine Ĵ (code_set_new_1 (.str x I) (E:=E) (Q₁:=λobj f=>∃a:Bool,obj=.ref s.8/\f={s with heap:=s.heap.push {cls:=.type "set",dict:=τ,data:=.set #[] 0 (.fresh 0 0 a)}}) λa=>⟨a,rfl,rfl⟩) λr f z=>?_
 cases r with
 |error e=>exact z
 |ok fl=>
  cases fl with
  |ret obj=>
   let{a,rfl,rfl}:=z
   have V:(s.heap.push {cls:=.type "set",dict:=τ,data:=.set #[] 0 (.fresh 0 0 a)}).get? s.8=ρ {cls:=.type "set",dict:=τ,data:=.set #[] 0 (.fresh 0 0 a)}:=ç _ rfl;have hT:Shared.TypeIs {s with heap:=s.heap.push {cls:=.type "set",dict:=τ,data:=.set #[] 0 (.fresh 0 0 a)}} (.ref s.8) "set":={_,V,rfl};have Zc:=Ř.init.lookup;have Zd:=Ř.init.bind (.ref s.8)
   repeat (any_goals (first |assumption |wp_step))
   refine Ĵ (Ε (R:=wants (λr g=>r=.none/\∃h' tk,g={s with heap:=h',toks:=tk} /\
    h'.SetOf (ę prog w) s.heap.objs.size (λC=>(cL (eR x) x.cps.size).any (· == C)) (cL (eR x) x.cps.size).9 /\
    (∀b o,b<s.8->s.heap.get? b=ρ o->h'.get? b=ρ o)) E) Ř.init.plain PySem.F.entry_set_init (check_set_init_1 hT ?_)) λl g d=>?_
   .have X:=sub_str_set;have Y:=sub_str_frozenset;have Mw:(wg9 "str" == wg9 "dict")=false:=⋯;unfold Ō.«set.__init__» noKeywords whD;generalize B:pyIter=PI
    wp_walk
    subst B;refine wpAny_pyIter_str λo St hW D=>?_;refine Â (wpAny_runValue ?_);have G:A.in1.in1.in1.handled=τ:=by simp[hh]
    have H:s.heap.objs.size∉[(s.heap.push {cls:=.type "set",dict:=τ,data:=.set #[] 0 (.fresh 0 0 a)}).7]:=by
     rw[ň];simp only[Þ,Ï,Δ,or_false,not_or];exact Ñ (Ł _)
    have m:∀(i:Nat) (v:Value),SignAt x i v->∃t,v=.str (eR x i) t:=λi v hv=>by
     let{c,u,hc,e}:=hv
     refine{u,?_};rw[e];unfold eR;rw[wcz,hc];rfl
    refine zO ((hW _ G).toS) s.heap.objs.size H (eR x) m p (x.cps.size-0) 0 _ () (à _) D ?J ?hR
    case J=>
     have n:((s.heap.push {cls:=.type "set",dict:=τ,data:=.set #[] 0 (.fresh 0 0 a)}).push o).get? s.8
      =ρ {cls:=.type "set",dict:=τ,data:=.set #[] 0 (.fresh 0 0 a)}:=Ð _ V
     exact SetOf_congr ((setObjOf_fresh (knd:=ę prog w) a).setOf n (by unfold ŕ;lia)) (λ_=>rfl) rfl
    case hR=>
     intro s' q j
     let{h',g',d',L,M}:=s'
     have eg:g'=s.gens:=q.gens;have ed:d'=s.drawn:=q.drawn;have eo:M=s.os:=q.os;subst eg;subst ed;subst eo;show wpAny _ _ _ _ _ _;refine Ë ?_;show wpAny _ _ (ret ä) _ _ _;refine Ë {rfl,h',L,rfl,j,λb o' p e=>?_};have N:b≠s.8:=Ñ p
     have O:b≠(s.heap.push {cls:=.type "set",dict:=τ,data:=.set #[] 0 (.fresh 0 0 a)}).7:=by
      rw[ň];exact Ñ (we8 p)
     exact q.heap b o' (by simp only[Þ,Ï,Δ,or_false,not_or];exact⟨N,O⟩) (Ð _ (Ð _ e))
   .cases l with
    |error e=>exact d
    |ok k=>
     cases k with
     |ret r=>
      let{rfl,h',tk,rfl,j,S}:=d
      repeat (any_goals (first |assumption |wp_step))
      exact h _ _ j S
     |_=>exact d.elim
  |_=>exact z.elim
end
section
variable{X:Cx}
theorem zP(hc:X.calm=true):d7 X (.type "set") (λxs H Q=>∃z,xs=[.str z]/\z.cps.size+1<ŕ/\∀p,H p=τ->Q (.ref p) (upd H p (Js X.prog X.w p (cL (eR z) z.cps.size).9))):=by
 intro c s σ H xs n Q I r h
 let{z,rfl,f,q}:=h
 let{u,rfl,t,rfl}:=vals1 r
 refine yH (I.ok.hd hc) f λg i d kp=>?_;have a:∀b o,s.heap.get? b=ρ o->g.get? b=ρ o:=λb o e=>kp b o (Æ e) e;refine{.ref s.8,_,I.laid (t':=i) (o:=Js X.prog X.w s.heap.objs.size (cL (eR z) z.cps.size).9) a (Ç _) {{_,d},?_,?_},rfl,q _ (I.b7.fresh (Ç _))}
 .let{o,_,_,_,e,_}:=d
  exact⟨o,e⟩
 .rintro v x ⟨S,o,j,l,m,e,rest⟩ k;exact{S,o,j,l,m,k o e,rest}
end
end _L
open _L
namespace _B
noncomputable def gC(r:Str)(n:Nat):Str:=á r (ρ (n:Int)) τ
noncomputable def GJ(ps:List Str)(r:Str):Nat:=((ð (r.9+1)).find? λn=>decide (gC r n∈ps)).getD 0
noncomputable def lend(ps:List Str)(r:Str):Str:=gC r (GJ ps r)
theorem zQ(g:gC r n∈ps)(j:∀m,m<n->gC r m∉ps)(l:n<=r.9):GJ ps r=n:=by
 delta GJ
 have e:(ð (r.9+1)).find? (λn=>decide (gC r n∈ps))=ρ n:=by
  grind [List.find?_range_eq_some]
 rw[e];rfl
theorem zR{α β:Type}(f:α->List β)(b:Nat):∀(g:List α),(∀c∈g,(f c).9<=b)->(g.flatMap f).9<=g.9*b
 |[],_=>à _
 |c::g,h=>by
  rw[Υ,Ò,å,wgE];have:=zR f b g λd hd=>h d (Ø _ hd);have:=h c (Ù ..)
  lia
theorem nk(f:Nat->Option Str)(h:Str->Int):∀g:List Nat,((g.filterMap f).map h).sum=(g.map λc=>(match f c with |none=>0 |some x=>h x)).sum
 |[]=>rfl
 |c::g=>by
  rw[ĕ,Í,ÿ,<-nk f h g]
  cases f c with
  |none=>simp
  |some x=>simp
noncomputable def bG(m:List (Str×Int)):List (Key×V):=m.map λp=>((Ã p.1:Key),V.int p.2)
theorem j6(m:List (Str×Int)):(bG m).9=m.9:=Á ..
noncomputable def rJ:List (Str×Int)->Str->Option Int
 |[],_=>τ
 |(j,u)::m,k=>if j=k then ρ u else rJ m k
theorem dR(k:Str):∀m:List (Str×Int),bD (bG m) (Ã k:Key)=(rJ m k).map V.int
 |[]=>rfl
 |(j,u)::m=>by
  unfold rJ
  by_cases h:j=k
  .rw[if_pos h,h];exact cf rfl
  .rw[if_neg h,<-dR k m];exact cg (λz=>h (Đ z))
theorem uA:∀{m:List (Str×Int)},k∉m.map (·.1)->rJ m k=τ
 |[],_=>rfl
 |(j,u)::m,h=>by
  unfold rJ;rw[if_neg (λz=>h (by rw[z];exact Ù ..))];exact uA λz=>h (Ø _ z)
noncomputable def lx(q:Str×Str):List V:=[.str q.1,.str q.2]
noncomputable def oR(q:Str×Str):V×V:=(.str q.1,.str q.2)
theorem Dk(g:List (Str×Str)):(g.map oR).map nc=g.map lx:=by
 rw[Ì];rfl
structure cS(H:Hp)(l:Addr)(rs:List Addr)(qs:List (Str×Str)):Prop where
 l:H l=ρ (.lst (rs.map V.ref))
 t:bq H rs (qs.map lx)
theorem cS.len{H:Hp}{l:Addr}{rs:List Addr}{g:List (Str×Str)}(r:cS H l rs g):rs.9=g.9:=by rw[r.t.1,Á]
theorem cS.Ze{H:Hp}{l:Addr}{rs:List Addr}{g:List (Str×Str)}(R:cS H l rs g){d:Addr}{kvs:List (Key×V)}{u:HO}(h:H d=ρ (.dK kvs)):cS (_L.upd H d u) l rs g:=by
 refine{?_,R.t.keep λr b a=>?_}
 .rw[a9 (λz=>by have:=R.l;rw[z,h]at this;cases this)];exact R.l
 .rw[a9 (λz=>by rw[z,h]at a;cases a)];exact a
theorem zS(ls:List Str)(g:List (Str×Str)):((g.map oR).filter λq=>jy q.2 (ls.map V.str)).map nc=(g.filter λq=>decide (q.2∈ls)).map lx:=by
 induction g with
 |nil=>rfl
 |cons q g a=>
  have e:jy (oR q).2 (ls.map V.str)=decide (q.2∈ls):=fm q.2 ls;rw[Í]
  by_cases h:q.2∈ls
  .rw[Ċ (by rw[e];exact decide_eq_true h),Ċ (by exact decide_eq_true h),Í,Í,a];rfl
  .rw[į (by rw[e];simpa using h),į (by simpa using h),a]
def Mx(m:List (Str×Int))(ls:List Str)(f:Str->Int):Prop:=∀p∈ls,rJ m p=ρ (f p)
theorem uB(m:List (Str×Int)):tY (bG m)=true:=í.mpr λa h=>by
 let{p,1}:=Å.mp h
 rfl
theorem qN(h:k∉m.map (·.1))(v:Int):putK (bG m) (Ã k:Key) (.int v)=bG (m++[(k,v)]):=by
 rw[gg _ (by rw[dR,uA h];rfl)];delta bG;rw[Û];rfl
theorem xH{f:Str->Int}:∀{os:List Str},k∈os->rJ (os.map λp=>(p,f p)) k=ρ (f k)
 |[],h=>nomatch h
 |j::os,h=>by
  show (if j=k then ρ (f j) else rJ (os.map λp=>(p,f p)) k)=_
  by_cases e:j=k
  .rw[if_pos e,e]
  .rw[if_neg e];rcases Þ.mp h with z |z
   .exact absurd z.symm e
   .exact xH z
theorem yI{α:Type}{a b:α->Int}:∀{l:List α},(∀x∈l,a x<=b x)->(l.map a).sum<=(l.map b).sum
 |[],_=>Ţ _
 |x::l,h=>by
  rw[Í,Í,ÿ,ÿ];exact Int.add_le_add (h x (Ù ..)) (yI λy c=>h y (Ø _ c))
theorem uC{α:Type}{a:α->Int}{l:List α}(h:∀x∈l,0<=a x):0<=(l.map a).sum:=by
 have:=yI (a:=λ_=>(0:Int)) (b:=a) h
 have e:∀l:List α,(l.map λ_=>(0:Int)).sum=0:=by
  intro l
  induction l with
  |nil=>rfl
  |cons x l c=>rw[Í,ÿ,c];rfl
 rw[e]at this;exact this
noncomputable def yJ:V->Bool
 |.int _=>true
 |_=>false
theorem ly{α β:Type}{f:α->Option β}:∀{l:List α},(∀a∈l,f a=τ)->l.filterMap f=[]
 |[],_=>rfl
 |a::l,h=>by rw[ĕ,h a (Ù ..)];exact ly λb c=>h b (Ø _ c)
noncomputable def iz(q:Str×Nat):V×V:=(.str q.1,.int (q.2:Int))
noncomputable def xI(a:Addr):List (Str×V):=[("homes",.ref a)]
noncomputable def uD(a b:Addr):List (Str×V):=[("homes",.ref a),("weights",.ref b)]
noncomputable def BG(a b c:Addr):List (Str×V):=[("homes",.ref a),("weights",.ref b),("lines",.ref c)]
theorem Lf(a:Addr):bV "homes" (.ref a) []=xI a:=rfl
theorem GK(a b:Addr):bV "weights" (.ref b) (xI a)=uD a b:=by
 show (if ("homes":Str)="weights" then(("homes":Str),V.ref b)::[] else(("homes":Str),V.ref a)::bV "weights" (.ref b) [])=_;rw[if_neg ∅];rfl
theorem Dl(a b c:Addr):bV "lines" (.ref c) (uD a b)=BG a b c:=by
 show (if ("homes":Str)="lines" then(("homes":Str),V.ref c)::[(("weights":Str),V.ref b)] else(("homes":Str),V.ref a)::(if ("weights":Str)="lines" then(("weights":Str),V.ref c)::[] else(("weights":Str),V.ref b)::bV "lines" (.ref c) []))=_;rw[if_neg ∅,if_neg ∅];rfl
theorem iA(a b c:Addr):(BG a b c).lookup ("homes":Str)=ρ (.ref a):=by
 rw[<-Dl,aC,if_neg ∅,<-GK,aC,if_neg ∅,<-Lf,aC,if_pos rfl]
theorem wq(a b c:Addr):(BG a b c).lookup ("weights":Str)=ρ (.ref b):=by
 rw[<-Dl,aC,if_neg ∅,<-GK,aC,if_pos rfl]
theorem gi(a b c:Addr):(BG a b c).lookup ("lines":Str)=ρ (.ref c):=by
 rw[<-Dl,aC,if_pos rfl]
noncomputable def av(ls:List Str)(f:Str->Int):List Str:=ls.filter λp=>decide (0<f p)
theorem rK:∀{g:List Str} {j:Nat} (h:j<g.9),g.idxOf g[j]<=j
 |[],j,h=>absurd h (Ω _)
 |a::g,0,h=>by
  show (a::g).idxOf a<=0;rw[wgc];exact Ç 0
 |a::g,j+1,h=>by
  have b:j<g.9:=by simpa using h
  show (a::g).idxOf g[j]<=j+1;rw[whu];have:=rK b
  cases(a==g[j]) with
  |true=>exact à _
  |false=>show List.idxOf g[j] g+1<=j+1;omega
noncomputable def yK(ws:List Int)(qs:List (Str×Nat)):Int:=(qs.map λq=>ws.getD q.2 0).sum
structure GL(many:Int)(hs:List Str)(ws:List Int)(dq:List (List (Str×Nat))):Prop where
 w:ws.9=hs.9
 l:dq.9=hs.9
 p:∀w∈ws,1<=w
 e:∀l∈dq,∀q∈l,q.2<hs.9
 b:∀(i:Nat) (l:List (Str×Nat)),dq[i]?=ρ l->many*ws.getD i 0<=yK ws l
noncomputable def pre(ls:List Int)(k:Nat):Int:=(ls.take k).sum
theorem jG{α:Type}(f:α->Int):∀l:List α,(∀x∈l,0<=f x)->(l.map f).sum=((l.filter λx=>decide (0<f x)).map f).sum
 |[],_=>rfl
 |x::l,h=>by
  have b:=jG f l λy d=>h y (Ø _ d);have e:=h x (Ù ..);show f x+(l.map f).sum=_
  by_cases c:0<f x
  .rw[Ċ (p:=λx=>decide (0<f x)) (a:=x) (decide_eq_true c),b];rfl
  .rw[į (p:=λx=>decide (0<f x)) (a:=x) (by rw[decide_eq_false c];decide),b];omega
theorem Ed{f:Str->Int}(h:∀p∈ls,0<=f p):((av ls f).map f).sum=(ls.map f).sum:=(jG f ls h).symm
noncomputable def cM(ds:List Nat)(qs:List (Str×Nat)):List (Str×Nat):=qs.filter λq=>decide (q.2∈ds)
theorem GN(j:List Nat)(g:List (Str×Nat)):(cM j g).9<=g.9:=ě _ _
noncomputable def uE(dq:List (List (Str×Nat)))(many:Int)(ds:List Nat):List Nat:=ds.filter λd=>decide (many<=((cM ds (dq.getD d [])).9:Int))
def Dm(dq:List (List (Str×Nat)))(many:Int)(S:List Nat):Prop:=∀d∈S,d<dq.9/\many<=((cM S (dq.getD d [])).9:Int)
theorem GO(e:uE g many j≠j):(uE g many j).9<j.9:=by
 have a:(uE g many j).Sublist j:=wdy;exact Nat.lt_of_le_of_ne a.length_le λz=>e (a.eq_of_length z)
theorem Ee{ws:List Int}{i:Nat}(h:i<ws.9):ws.getD i 0∈ws:=by
 rw[ï,È h];exact ă h
noncomputable def nI(ds:List Nat):List Int:=ds.map λn:Nat=>(n:Int)
theorem My{g:List Nat}{e:Nat}:(e:Int)∈nI g↔e∈g:=by grind [nI]
theorem GP(e:Nat)(g:List Nat):jy (.int (e:Int)) ((nI g).map V.int)=decide (e∈g):=by
 rw[G7];exact decide_eq_decide.mpr My
theorem fv(g:List Nat):(nI g).9=g.9:=Á _
theorem GQ{g:List Nat}{i n:Nat}(h:g[i]?=ρ n):((nI g).map V.int)[i]?=ρ (.int (n:Int)):=by
 unfold nI;rw[Ê,Ê,h];rfl
theorem qO(a b:List Nat):nI (a++b)=nI a++nI b:=Û
noncomputable def cN(O7:List Str)(f:Str->Int):Str->Int:=λp=>if p∈O7 then f p else 0
theorem uF{α:Type}{f g:α->Int}:∀l:List α,(∀x∈l,f x<=g x)->(l.map f).sum<=(l.map g).sum
 |[],_=>Ţ _
 |x::l,h=>by
  have:=h x (Ù ..);have:=uF l λy a=>h y (Ø _ a);rw[Í,Í,ÿ,ÿ]
  lia
theorem uG{α:Type}{f:α->Int}{x:α}:∀l:List α,(∀x∈l,0<=f x)->x∈l->0<f x->0<(l.map f).sum
 |y::l,h,a,c=>by
  have d:=h y (Ù ..);have hn:=uC λz b=>h z (Ø _ b);rw[Í,ÿ];rcases Þ.mp a with e |a
  .rw[<-e];lia
  .have:=uG l (λz b=>h z (Ø _ b)) a c
   lia
theorem uH{ls g:List Str}{f:Str->Int}(h:∀p∈ls,0<=f p):∀p∈ls,0<=cN g f p:=λp a=>by
 delta cN;split
 .exact h p a
 .exact Ţ _
theorem zT{ls g:List Str}{f:Str->Int}(h:∀p∈ls,0<=f p):∀p∈ls,cN g f p<=f p:=λp a=>by
 delta cN;split
 .exact Ţ _
 .exact h p a
theorem Ef{ls g:List Str}{f:Str->Int}(h:∀p∈ls,0<=f p):(ls.map (cN g f)).sum<=(ls.map f).sum:=uF ls (zT h)
theorem Eg{ls:List Str}{f:Str->Int}{rs:List Nat}(h:∀p∈ls,0<=f p)(hl:∀d∈rs,d<(av ls f).9)(g:rs≠[]):0<(ls.map (cN (rs.map λd=>(av ls f).getD d "") f)).sum:=by
 cases rs with
 |nil=>exact absurd rfl g
 |cons d rs=>
  have hd:=hl d (Ù ..)
  have a:(av ls f).getD d ""∈av ls f:=by
   rw[ï,È hd];exact ă hd
  let{b,c}:=é.mp a
  refine uG ls (uH h) b ?_;delta cN;rw[if_pos (Å.mpr {d,Ù ..,rfl})];exact of_decide_eq_true c
theorem xJ:∀(a b:List Int),tZ (a.map V.int) (b.map V.int)=decide (a=b)
 |[],[]=>rfl
 |[],_::_=>rfl
 |_::_,[]=>rfl
 |x::a,y::b=>by
  have d:=xJ a b;show (qz (.int x) (.int y)&&tZ (a.map V.int) (b.map V.int))=_;rw[d]
  by_cases h:x=y
  .subst h
   by_cases c:a=b
   .subst c;have:qz (.int x) (.int x)=true:=by simp[qz]
    rw[this,decide_eq_true rfl,decide_eq_true rfl];rfl
   .rw[decide_eq_false c,Φ,decide_eq_false λz=>c (ŵ z).2]
  .have:qz (.int x) (.int y)=false:=by simp[qz,h]
   rw[this,whB,decide_eq_false λz=>h (ŵ z).1]
theorem xK{p:V->Bool}{f:Nat->Bool}(h:∀n:Nat,p (.int (n:Int))=f n):∀g:List Nat,((nI g).map V.int).filter p=(nI (g.filter f)).map V.int
 |[]=>rfl
 |k::g=>by
  have a:=xK h g;show (V.int (k:Int)::(nI g).map V.int).filter p=_
  cases e:f k with
  |true=>rw[Ċ (by rw[h,e]),Ċ e,a];rfl
  |false=>rw[į (by rw[h,e];decide),į (by rw[e];decide),a]
theorem yL(h:x∈(nI g).map V.int):∃n∈g,x=.int (n:Int):=by
 let{i,hi,rfl}:=Å.mp h
 let{n,hn,rfl}:=Å.mp hi
 exact⟨n,hn,rfl⟩
theorem GR(n:Nat):((ð n).map λi=>V.int (i:Nat))=(nI (ð n)).map V.int:=by
 unfold nI;rw[Ì];rfl
noncomputable def dB(rs:List Nat):List (Key×V):=rs.map λn:Nat=>((Ć (n:Int):Key),V.bl true)
theorem BH(e:Nat):∀rs:List Nat,bD (dB rs) (Ć (e:Int):Key)=if e∈rs then ρ (.bl true) else τ
 |[]=>rfl
 |r::rs=>by
  have a:=BH e rs
  by_cases h:r=e
  .subst h;rw[if_pos (Ù ..)];exact cf (p:=((Ć (r:Int):Key),V.bl true)) (r:=dB rs) rfl
  .have hn:¬(Ć (r:Int):Key)=Ć (e:Int):=λz=>h (by grind);rw[show dB (r::rs)=((Ć (r:Int):Key),V.bl true)::dB rs from rfl,cg hn,a]
   by_cases b:e∈rs
   .grind
   .grind
theorem Mz{e:Nat}{rs:List Nat}(h:e∉rs):putK (dB rs) (Ć (e:Int):Key) (.bl true)=dB (rs++[e]):=by
 rw[gg _ (by rw[BH,if_neg h])];delta dB;rw[Û];rfl
theorem JN(rs:List Nat):((dB rs).map λg=>kV g.1)=(nI rs).map V.int:=by
 unfold dB nI;rw[Ì,Ì];rfl
theorem JO(h:g≠[]):∃(z:Nat) (ys:List Nat),g=ys++[z]/\((nI g).map V.int)[((nI g).map V.int).9-1]?=ρ (.int (z:Int))/\((nI g).map V.int).dropLast=(nI ys).map V.int:=by
 refine{g.getLast h,g.dropLast,(wcv h).symm,?_,?_}
 .have e:nI g=nI g.dropLast++[((g.getLast h:Nat):Int)]:=by
   conv=>lhs;rw[<-wcv h]
   exact qO _ _
  rw[e,Û,Ò];show (_++[V.int _])[_+1-1]?=_;rw[wgL,ĉ (Ç _),Ż];rfl
 .unfold nI;rw[<-wh1,<-wh1]
theorem JP{R:Addr->Prop}:(∀y∈ys,∃q,y=.ref q/\R q)->∃ps:List Addr,ys=ps.map V.ref/\∀q∈ps,R q:=by
 induction ys with
 |nil=>exact λ_=>{[],rfl,λq h=>nomatch h}
 |cons y ys b=>
  intro h
  let{q,rfl,c}:=h y (Ù ..)
  let{ps,rfl,d}:=b λz e=>h z (Ø _ e)
  exact{q::ps,rfl,λr a=>by
   rcases Þ.mp a with rfl |a
   .exact c
   .exact d r a}
noncomputable abbrev O8:=Nat×List Nat×Int
noncomputable def xM(a:Addr):List (Str×V):=[("weights",.ref a)]
noncomputable def uI(a b:Addr):List (Str×V):=[("weights",.ref a),("splits",.ref b)]
noncomputable def xN(a b c:Addr):List (Str×V):=[("weights",.ref a),("splits",.ref b),("kept",.ref c)]
noncomputable def uJ(a b c d:Addr):List (Str×V):=[("weights",.ref a),("splits",.ref b),("kept",.ref c),("last",.ref d)]
theorem Pm(a:Addr):bV "weights" (.ref a) []=xM a:=rfl
theorem Lg(a b:Addr):bV "splits" (.ref b) (xM a)=uI a b:=by
 show (if ("weights":Str)="splits" then _ else(("weights":Str),V.ref a)::bV "splits" (.ref b) [])=_;rw[if_neg ∅];rfl
theorem GU(a b c:Addr):bV "kept" (.ref c) (uI a b)=xN a b c:=by
 show (if ("weights":Str)="kept" then _ else(("weights":Str),V.ref a)::(if ("splits":Str)="kept" then _ else(("splits":Str),V.ref b)::bV "kept" (.ref c) []))=_;rw[if_neg ∅,if_neg ∅];rfl
theorem Dn(a b c d:Addr):bV "last" (.ref d) (xN a b c)=uJ a b c d:=by
 show (if ("weights":Str)="last" then _ else(("weights":Str),V.ref a)::(if ("splits":Str)="last" then _ else(("splits":Str),V.ref b)::(if ("kept":Str)="last" then _ else(("kept":Str),V.ref c)::bV "last" (.ref d) [])))=_;rw[if_neg ∅,if_neg ∅,if_neg ∅];rfl
theorem BI(a b c d:Addr):(uJ a b c d).lookup ("last":Str)=ρ (.ref d):=by
 rw[<-Dn,aC,if_pos rfl]
theorem BJ(a b c d:Addr):(uJ a b c d).lookup ("kept":Str)=ρ (.ref c):=by
 rw[<-Dn,aC,if_neg ∅,<-GU,aC,if_pos rfl]
theorem yM(a b c d:Addr):(uJ a b c d).lookup ("splits":Str)=ρ (.ref b):=by
 rw[<-Dn,aC,if_neg ∅,<-GU,aC,if_neg ∅,<-Lg,aC,if_pos rfl]
theorem yN:fj (upd H b o) b=fj H b:=by
 funext c;unfold fj
 by_cases h:c=b
 .rw[if_pos h,if_pos h]
 .rw[if_neg h,if_neg h,a9 h]
theorem zU(s:a7 H H')(h:H b=τ):a7 H (fj H' b):=λc o e=>fk (s _ _ e) (ae e h)
noncomputable def oS(ks:List Nat)(m:Nat)(qs:List (Str×Nat)):List (Str×Nat):=((cM ks qs).take m).map λq=>(q.1,ks.idxOf q.2)
noncomputable def sX(dq:List (List (Str×Nat)))(ks:List Nat)(m:Nat):List (List (Str×Nat)):=ks.map λd=>oS ks m (dq.getD d [])
theorem Eh{l:List (Str×Nat)}{t:Nat}(h:t<l.9):l[t]?=ρ (l.getD t ("",0)):=by
 rw[ï,È h];rfl
theorem uK:∀{g:List Nat} {j:Nat} (h:j<g.9),g.idxOf g[j]<=j
 |[],j,h=>absurd h (Ω _)
 |a::g,0,h=>by
  show (a::g).idxOf a<=0;rw[wgc];exact Ç 0
 |a::g,j+1,h=>by
  have b:j<g.9:=by simpa using h
  show (a::g).idxOf g[j]<=j+1;rw[whu];have:=uK b
  cases(a==g[j]) with
  |true=>exact à _
  |false=>show List.idxOf g[j] g+1<=j+1;omega
theorem qP{α:Type}(c:Int):∀l:List α,(l.map λ_=>c).sum=(l.9:Int)*c
 |[]=>by simp
 |_::l=>by rw[Í,ÿ,qP c l,å,wez,Int.add_mul,Int.add_comm];simp
theorem mK{a b:Int}(g:0<=a)(h:a<=b):∀k:Nat,a^k<=b^k
 |0=>by rw[wgM,wgM];exact Ţ _
 |k+1=>by
  rw[ť,ť];exact Int.mul_le_mul (mK g h k) h g (Int.pow_nonneg 1.0)
noncomputable def Pn(m:Nat):V->V->Bool
 |.int many,.int wide=>decide (2<=many/\many<=8/\1<=wide/\wide<=6/\(m:Int)^wide.toNat<=64)
 |_,_=>false
theorem dS:∀{fs:List (Str×V)},n∉fs.map (·.1)->bV n v fs=fs++[(n,v)]
 |[],_=>rfl
 |(a,u)::fs,h=>by
  have b:¬a=n:=λz=>h (by rw[Í,z];exact Ù ..);show (if a=n then _ else _)=_;rw[if_neg b,dS (fs:=fs) λz=>h (by rw[Í];exact Ø _ z)];rfl
theorem cw:∀{fs:List (Str×V)},n∉fs.map (·.1)->(fs++(n,v)::g).lookup n=ρ v
 |[],_=>by
  show weN n ((n,v)::g)=_;rw[ą,show (n==n)=true from beq_iff_eq.mpr rfl]
 |(a,u)::fs,h=>by
  have b:¬n=a:=λz=>h (by rw[Í,z];exact Ù ..);rw[whd,ą,show (n==a)=false from beq_eq_false_iff_ne.mpr b];exact cw (fs:=fs) λz=>h (by rw[Í];exact Ø _ z)
theorem cI:∀{fs:List (Str×V)},n∉fs.map (·.1)->fs.lookup n=τ:=by grind [Ù,Ø]
noncomputable def O9(p:Addr):List (Str×V):=[("scheme",.ref p)]
noncomputable def Pp(p b:Addr):List (Str×V):=[("scheme",.ref p),("band",.ref b)]
noncomputable def Oa(p b:Addr)(many:Int):List (Str×V):=[("scheme",.ref p),("band",.ref b),("many",.int many)]
noncomputable def Ob(p b:Addr)(many wide:Int):List (Str×V):=[("scheme",.ref p),("band",.ref b),("many",.int many),("wide",.int wide)]
noncomputable def Oc(p b:Addr)(many wide:Int)(h:Addr):List (Str×V):=[("scheme",.ref p),("band",.ref b),("many",.int many),("wide",.int wide),("homes",.ref h)]
noncomputable def JQ(p b:Addr)(many wide:Int)(h l:Addr):List (Str×V):=[("scheme",.ref p),("band",.ref b),("many",.int many),("wide",.int wide),("homes",.ref h),("lines",.ref l)]
noncomputable def Pq(p b:Addr)(many wide:Int)(h l:Addr)(o:Str):List (Str×V):=[("scheme",.ref p),("band",.ref b),("many",.int many),("wide",.int wide),("homes",.ref h),("lines",.ref l),("opening",.str o)]
theorem uL:∀b:Nat,(Ú b [V.int 0]).flatten=(nI (Ú b 0)).map V.int
 |0=>rfl
 |b+1=>by
  rw[ž,Ž,uL b,ž];rfl
theorem BK(h:∀c o,H c=ρ o->∃g,j c=ρ g):a7 (aH j l) (aH H l):=by grind [a7,aH]
theorem getD_some{α:Type}{l:List α}{i:Nat}(x:α)(h:i<l.9):l[i]?=ρ (l.getD i x):=by
 rw[ï,È h];rfl
def Pt(dq:List (List (Str×Nat))):Nat->List Str->Prop
 |_,[]=>True
 |d,w::ws=>∃e,(w,e)∈dq.getD d []/\Pt dq e ws
noncomputable def cat:List Str->Str
 |[]=>""
 |w::ws=>w++cat ws
noncomputable def GV(b c:Nat)(ts:List Nat):List Nat:=Ú b 0++(ts++Ú c 0)
noncomputable def nq(p:Nat×Nat):List V:=[.int (p.1:Int),.int (p.2:Int)]
noncomputable abbrev wt:=Nat×Str×Nat
noncomputable def pairsOf(done:List wt)(w:Str):List (Nat×Nat):=(done.filter λt=>decide (t.2.1=w)).map λt=>(t.1,t.2.2)
theorem zV(done:List wt)(w:Str)(i e:Nat):(i,e)∈pairsOf done w↔(i,w,e)∈done:=by
 delta pairsOf;constructor
 .intro h
  let{{a,b,c},f,g}:=Å.mp h
  let{j,d}:=é.mp f
  have d:b=w:=of_decide_eq_true d
  let{rfl,rfl}:=Ŧ g
  rw[<-d];exact j
 .intro h;exact Å.mpr {(i,w,e),é.mpr {h,decide_eq_true rfl},rfl}
theorem yO(done:List wt)(i e:Nat)(w v:Str):pairsOf (done++[(i,w,e)]) v=if v=w then pairsOf done v++[(i,e)] else pairsOf done v:=by
 delta pairsOf;rw[Ğ,Û]
 by_cases h:v=w
 .subst h;rw[if_pos rfl,Ċ (by exact decide_eq_true rfl)];rfl
 .rw[if_neg h,į (by exact λz=>h (of_decide_eq_true z).symm)];exact û _
noncomputable def lA(H0 H2 H3:Hp):Hp:=λc=>match H2 c with
 |none=>H3 c
 |some _=>H0 c
theorem GW{z:Str}{n:Nat}(j:n<=1000000)(g:z.9*n<=1000000):MulOk z (n:Int):=by
 refine{by rw[decide_eq_false 1.0,decide_eq_false 1.0];rfl,λa _=>?_,λ_ _=>?_}
 .have b:(z.9:Int)*(n:Int)<=1000000:=by rw[<-wfF];omega
  have c:(z.9:Int)<=(2^63-1)/(n:Int):=(web 1.0).mpr 1.0;omega
 .rw[ć];have:=ak g;exact decide_eq_false 1.0
theorem MA{m:Nat}(h:2<=m):(4:Int)<=(m:Int)^2:=mK (a:=2) ⋯ () 2
theorem BL{f:Str->Int}(h:f ""=1):av [("":Str)] f=[("":Str)]:=by
 delta av;rw[Ċ (by rw[h];decide),whv]
section
variable(p b h l:Addr)(many wide:Int)(o:Str)
theorem Pu:bV "scheme" (.ref p) []=O9 p:=rfl
theorem Pw:bV "band" (.ref b) (O9 p)=Pp p b:=dS (by show ("band":Str)∉[("scheme":Str)];decide+kernel)
theorem Px:bV "many" (.int many) (Pp p b)=Oa p b many:=dS (by show ("many":Str)∉[("scheme":Str),"band"];decide+kernel)
theorem Py:bV "wide" (.int wide) (Oa p b many)=Ob p b many wide:=dS (by show ("wide":Str)∉[("scheme":Str),"band","many"];decide+kernel)
theorem Pz:bV "homes" (.ref h) (Ob p b many wide)=Oc p b many wide h:=dS (by show ("homes":Str)∉[("scheme":Str),"band","many","wide"];decide+kernel)
theorem PB:bV "lines" (.ref l) (Oc p b many wide h)=JQ p b many wide h l:=dS (by show ("lines":Str)∉[("scheme":Str),"band","many","wide","homes"];decide+kernel)
theorem PD:bV "opening" (.str o) (JQ p b many wide h l)=Pq p b many wide h l o:=dS (by show ("opening":Str)∉[("scheme":Str),"band","many","wide","homes","lines"];decide+kernel)
theorem oU:(Ob p b many wide).lookup ("scheme":Str)=ρ (.ref p):=cw (fs:=[]) ∅
theorem BM:(JQ p b many wide h l).lookup ("band":Str)=ρ (.ref b):=cw (fs:=O9 p) (by show ("band":Str)∉[("scheme":Str)];decide+kernel)
theorem BO:(JQ p b many wide h l).lookup ("wide":Str)=ρ (.int wide):=cw (fs:=Oa p b many) (by show ("wide":Str)∉[("scheme":Str),"band","many"];decide+kernel)
theorem zW:(JQ p b many wide h l).lookup ("lines":Str)=ρ (.ref l):=cw (fs:=Oc p b many wide h) (by show ("lines":Str)∉[("scheme":Str),"band","many","wide","homes"];decide+kernel)
theorem yP:(JQ p b many wide h l).lookup ("behind":Str)=τ:=cI (by show ("behind":Str)∉[("scheme":Str),"band","many","wide","homes","lines"];decide+kernel)
end
section
variable{ls:List Str}
noncomputable def cE(f:Str->Int)(ls:List Str):List (Str×Int):=ls.map λp=>(p,f p)
theorem qQ(f:Str->Int)(ls:List Str):(cE f ls).map (·.1)=ls:=by
 delta cE;rw[Ì];exact List.map_id _
theorem jH(f:Str->Int)(ls:List Str):Mx (cE f ls) ls f:=λp a=>xH a
theorem Lh{f h:Str->Int}:RK (bG (cE f ls)) (bG (cE h ls))=true↔∀p∈ls,f p=h p:=by
 delta RK;rw[j6,j6];have e:(cE f ls).9=(cE h ls).9:=by delta cE;rw[Á,Á]
 rw[e,beq_self_eq_true,wgo];delta hitsD;rw[í];constructor
 .intro q p a;have:=q ((Ã p:Key),.int (f p)) (Å.mpr {(p,f p),Å.mpr ⟨p,a,rfl⟩,rfl});have this:(match bD (bG (cE h ls)) (Ã p:Key) with |some y=>qz (.int (f p)) y |none=>false)=true:=this;rw[dR,jH h ls p a]at this;have this:qz (.int (f p)) (.int (h p))=true:=this;unfold qz at this;simpa using this
 .intro q d b
  let{z,c,rfl}:=Å.mp b
  let{p,a,rfl}:=Å.mp c
  show (match bD (bG (cE h ls)) (Ã p:Key) with |some y=>qz (.int (f p)) y |none=>false)=true;rw[dR,jH h ls p a];show qz (.int (f p)) (.int (h p))=true;rw[q p a];unfold qz;simp
end
theorem BP(f:Str->Int)(ls:List Str):(bG (cE f ls)).map (·.2)=(ls.map f).map V.int:=by
 delta bG cE;rw[Ì,Ì,Ì];rfl
section
variable{κ:Type}[DecidableEq κ]
noncomputable def bump:List (κ×Int)->κ->Int->List (κ×Int)
 |[],k,v=>[(k,v)]
 |(j,u)::m,k,v=>if j=k then(j,u+v)::m else(j,u)::bump m k v
end
section
variable{E:Str->List Str}
noncomputable def PF(E:Str->List Str)(a:List (Str×Int))(p:Str×Int):List (Str×Int):=(E p.1).foldl (λa q=>bump a q p.2) a
noncomputable def nj(E:Str->List Str)(m:List (Str×Int)):List (Str×Int):=m.foldl (PF E) []
end
end _B
open _B
namespace K61
section
variable{w:World}
noncomputable def top(i:Nat):Stmt:=ô.main.body.getD i (.Pass ⟨0,0,0,0⟩)
theorem cB{X:Cx}{f}:(X.kT f).K=X.K:=rfl
theorem Jc{t u:TS}{D:Ends}{σ:St}{H:Hp}(h:∀R:St->Hp->Prop,(∀σ H,u D σ H->R σ H)->t (D.M9 R) σ H):Bu t u D σ H:=h _ λ_ _ x=>x
theorem aZ{x p y q e}:(ŗ [.Name x p,.Name y q] e).9=2:=rfl
theorem b0{x p y q z r e}:(ŗ [.Name x p,.Name y q,.Name z r] e).9=3:=rfl
structure Ei(K:À)(C:Addr):Prop where
 cl:wY K C
 bN:bA K C "writer"
 JR:bA K C "pairs"
structure GX(K:À)(C:Addr):Prop where
 cl:wY K C
 iB:bA K C "homes"
 mL:bA K C "weights"
 fw:bA K C "lines"
structure JS(K:À)(C:Addr):Prop where
 cl:wY K C
 mL:bA K C "weights"
 zX:bA K C "splits"
 GY:bA K C "kept"
 GZ:bA K C "last"
structure JT(K:À)(C:Addr):Prop where
 cl:wY K C
 eW:bA K C "band"
 bN:bA K C "writer"
theorem BQ:di ["band","many","wide"] ["band","many","wide"] (ax (top 50)):={rfl,rfl,rfl,∅,rfl,∅,∅}
theorem uM:di ["band","many","wide"] ["band","many","wide"] (ax (top 51)):={rfl,rfl,rfl,∅,rfl,∅,∅}
theorem h9:di ["band","many","wide","weights","sheet","splits","kept","part"] ["band","many","wide"] (ax (top 83)):={rfl,rfl,rfl,∅,rfl,∅,∅}
theorem cX:di ["self","band","many","wide","sheet","kept","found"] ["self","band","many","wide"] (ax (inClass (top 89) 0)):={rfl,rfl,rfl,∅,rfl,∅,∅}
theorem kh:di ["self","data","found"] ["self","data"] (ax (inClass (top 89) 8)):={rfl,rfl,rfl,∅,rfl,∅,∅}
theorem gT:di ["band","length","number","table","row","place","rest","taken","counts","sign","rows"] ["band","length","number"] (ax (top 42)):={rfl,rfl,rfl,∅,rfl,∅,∅}
theorem at_getD{os:List Str}{i:Nat}(h:i<os.9):yq (os.map V.str) (i:Int)=ρ (.str (os.getD i "")):=b5 (by rw[Ê,È h,ï,È h];rfl)
theorem mem_getD{os:List Str}{i:Nat}(h:i<os.9):os.getD i ""∈os:=by
 rw[ï,È h];exact ă h
theorem hA{a b:Str}(h:¬a=b):V.bl (decide (V.str a=V.str b))=V.bl false:=congrArg V.bl (decide_eq_false λz=>h (V.str.inj z))
theorem UN{f a b:Str}:jy (.str f) [.str a,.str b]=decide (f=a\/f=b):=by
 show jy (.str f) (đ V.str [a,b])=_;rw[fm];exact decide_eq_decide.mpr (by simp)
theorem JU{os:List Str}:decide (os.9=1)=decide (V.int ((os.map V.str).9:Int)=V.int 1):=decide_eq_decide.mpr (by
 rw[Á]
 exact{λh=>by rw[h];rfl,λh=>by have:=V.int.inj h;omega})
theorem Ej{os:List Str}:decide (os.9=2)=decide (V.int ((os.map V.str).9:Int)=V.int 2):=decide_eq_decide.mpr (by
 rw[Á]
 exact{λh=>by rw[h];rfl,λh=>by have:=V.int.inj h;omega})
noncomputable abbrev UO(v:V):List (Str×V):=[("band",v)]
noncomputable abbrev fd2(v w:V):List (Str×V):=[("band",v),("writer",w)]
theorem PH(v:V):bV "band" v []=UO v:=rfl
theorem PL(v w:V):bV "writer" w (UO v)=fd2 v w:=dS (by show ("writer":Str)∉[("band":Str)];decide+kernel)
theorem PN(v u w:V):bV "band" v (fd2 u w)=fd2 v w:=if_pos rfl
theorem Li(v u w:V):bV "writer" w (fd2 v u)=fd2 v w:=by
 show (if ("band":Str)="writer" then(("band":Str),w)::[("writer",u)] else("band",v)::bV "writer" w [("writer",u)])=_;rw[if_neg ∅];rfl
theorem oV(v w:V):(fd2 v w).lookup ("band":Str)=ρ v:=cw (fs:=[]) (by simp)
noncomputable abbrev SP:Str:={#[32]}
theorem BR(v w:V):(fd2 v w).lookup ("writer":Str)=ρ w:=cw (fs:=[(("band":Str),v)]) (by show ("writer":Str)∉[("band":Str)];decide+kernel)
noncomputable abbrev eD(C dx:Addr)(v w:V):HO:=.ins C dx (fd2 v w)
theorem oW:di ["self","many","wide","refusal","length","rows"] ["self","many","wide"] (ax (inClass (top 102) 3)):={rfl,rfl,rfl,∅,rfl,∅,∅}
theorem Dp{f:Str}(h:f="write"\/f="read"\/f="touched"):¬f="band"/\¬f="rate"/\jy (.str f) [.str "count",.str "row",.str "number"]=false:=by
 rcases h with rfl |rfl |rfl
 .exact{∅,∅,∅}
 .exact{∅,∅,∅}
 .exact{∅,∅,∅}
noncomputable abbrev B6:List Str:=["NoForm","NoBand","NoWriter","NoLength","NoNumber","NoRate","NoRow","NoData"]
noncomputable abbrev R9:List Str:=["Barred","NoPlace","NoSigns","NoSplit","NoWord","Open","Scarce","TooMany"]
noncomputable def fR(nm:Str)(l:List Str):List Bool:=l.map λn=>decide (nm=n)
theorem JV:∀i:Fin 8,((fR (B6.getD i.1 "") B6).filter id).9=1/\(fR (B6.getD i.1 "") R9).any id=false/\(fR (B6.getD i.1 "") B6)[i.1]?=ρ true/\∀j:Fin 8,j.1<i.1->(fR (B6.getD i.1 "") B6)[j.1]?≠ρ true:=∅
theorem dE:di ["_law_desk","_law_row","_law_caught_here","_law_found","_law_e"] ["_law_desk","_law_row"] (ax (top 110)):={rfl,rfl,rfl,∅,rfl,∅,∅}
noncomputable def Sw:List (List String):=[[""],["",""],["band"],["Band","ab"],["","band","ab"],["count"],["count",""],["count","1",""],
 ["count","","1"],["count","01"],["count","-1"],["count","a"],["count","201"],["count","1","1"],["count","1111111111111111111111111111111111111111111111111111111111111"],["row","1"],
 ["row","1",""],["row","","1"],["row","201","0"],["row","1","00"],["row","1","0","0"],["row","1","1111111111111111111111111111111111111111111111111111111111111"],["number"],["number","a","b"],
 ["number","","a"],["rate","2"],["rate","2",""],["rate","2","1","1"],["rate","02","1"],["rate","two","1"],["write",""],["write","0",""],
 ["write","","0"],["write","00"],["write","0","a"],["read"],["read","a","b"],["touched","1"],["touched","1","+1"],["touched","1","1","1"],
 ["count","1_0"],["write","1_0"],["write","1111111111111111111111111111111111111111111111111111111111111"],["rate","1111111111111111111111111111111111111111111111111111111111111","1"],["rate","2","1111111111111111111111111111111111111111111111111111111111111"],["touched","1111111111111111111111111111111111111111111111111111111111111","1"],["touched","1","1111111111111111111111111111111111111111111111111111111111111"],["count\t1"]]
noncomputable def lB:List (List Str):=Sw.map λps=>ps.map æ
theorem Dq:lB.9=48:=rfl
inductive MC(vs:List V)(H:Hp)(Q:VK)(d8:XK):Prop
 |mk (n) (_:vs=[.int n]) (_:∀ps H',ps∈lB->a7 H H'->Q (.str (Ó SP ps)) H')
theorem yQ:MulOk ("1":Str) 61:=GW (z:="1") (n:=61) ⋯ ∅
noncomputable def PQ:List (List String):=[["count","0"],["row","0","0"],["number",""],["rate","9","9"],["write"],["write","0"],["read",""],["touched","0","0"],["count","200"],["row","0","1"],["row","1","999999999999999999999999999999999999999999999999999999999999"],["rate","999999999999999999999999999999999999999999999999999999999999","1"],["rate","2","999999999999999999999999999999999999999999999999999999999999"],["rate","9","1"],["rate","2","7"],["write","999999999999999999999999999999999999999999999999999999999999"]]
noncomputable def cx:List (List Str):=PQ.map λps=>ps.map æ
noncomputable abbrev jI:Str:="999999999999999999999999999999999999999999999999999999999999"
noncomputable def fK:List Nat:=[0,1,2,3,4,4,5,6,7,8,8,3,3,3,3,9]
theorem MD:∀j:Fin 16,fK.getD j.1 0∉[0,1,2,3,7,8]->((cx.getD j.1 []).headD ""="write"\/(cx.getD j.1 []).headD ""="read"\/(cx.getD j.1 []).headD ""="touched")/\fK.getD j.1 0∈[4,5,6,9]:=∅
noncomputable def cT(j:Nat):Str:=Ó SP (cx.getD j [])
noncomputable def xO:List (Key×V):=[(Ã "count 0",.str "1"),(Ã "row 0 0",.str ""),(Ã "number ",.str "0")]
noncomputable def PR:Nat->Option V
 |0=>ρ (.str "1")
 |1=>ρ (.str "")
 |2=>ρ (.str "0")
 |_=>τ
theorem ME:∀j:Fin 16,jy (.str ((cx.getD j.1 []).headD "")) [.str "write",.str "read",.str "touched"]=decide (fK.getD j.1 0∈[4,5,6,9])/\decide (cT j.1=("write ":Str)++jI)=decide (fK.getD j.1 0=9)/\(decide (cT j.1="read ") ||decide (cT j.1="touched 0 0"))=decide (fK.getD j.1 0=5\/fK.getD j.1 0=6)/\(cT j.1).9<=100/\fK.getD j.1 0<=9:=∅
theorem MF:∀j:Fin 16,bD (gX [] xO) (Ã (cT j.1))=PR (fK.getD j.1 0):=∅
theorem Hc:MulOk ("9":Str) 60:=GW (z:="9") (n:=60) ⋯ ∅
theorem PU:(æ " ")=SP:=∅
noncomputable abbrev Ek(a:Addr)(g:Str)(lw:Addr)(bw:List Str)(st:Int)(x:Addr)(v6 v7 v8:Option V):St:=[ρ (.ref a),ρ (.str g),ρ (.ref lw),ρ (.str (Ó SP ("band" :: g::bw))),ρ (.int st),ρ (.ref x),v6,v7,v8]
end
section
variable{P:É}{K:À}
inductive MG(K:À)(vs:List V)(H:Hp)(Q:VK)(d8:XK):Prop
 |mk (l) (_:vs=[.ref l]) (_:H l=ρ (.lst [])) (_:Q (.str "none") H)
set_option genInjectivity true in
inductive Hd
 |ans (P:Str->Prop)
 |err (ix:Nat)
 |dat
noncomputable def He(st:Int):Nat->Hd
 |0=>.ans λt=>t="1"
 |1=>.ans λt=>t=""
 |2=>.ans λt=>t="0"
 |3=>.err 5
 |4=>if st=1 then .err 2 else .ans λ_=>True
 |5=>if st=1 then .err 2 else .ans λt=>t="none"
 |6=>if st=1 then .err 2 else .err 4
 |7=>.ans λ_=>True
 |8=>.err 4
 |_=>if st=1 then .err 2 else .dat
end
theorem cC{CX P w K mg base N q g f cd A o s H E}:(sU CX P w K mg base N q g f cd A o s H E).K=K:=rfl
end K61
namespace _B
open PySem.Spec PyProof.Rows
noncomputable abbrev ch(x:Str):List Nat:=x.cps.toList
theorem aR(x:Str):(ch x).9=x.9:=by simp[ch,ı]
theorem eE(h:ch x=ch y):x=y:=by
 obtain⟨a⟩:=x;obtain⟨b⟩:=y;have:a=b:=wef.mp h;rw[this]
theorem aV(a b:Str):ch (a++b)=ch a++ch b:=by
 show (a++b).cps.toList=_;rw[Str.cps_append,Array.toList_append]
theorem jJ(h:z.9=0):ch z=[]:=by
 have:=aR z;rw[h]at this;exact we1.mp this
theorem oX(x:Str)(l u:Option Int):á x l u=StrLaws.sliceText x l u:=rfl
theorem zY(x:Str)(j:Nat):ch (á x τ (ρ (j:Int)))=(ch x).take j:=by
 by_cases h:j<=x.9
 .grind [oX,wgd,ı]
 .have hn:Α τ (ρ (j:Int)) 1 x.9=Α τ (ρ ((x.9:Nat):Int)) 1 x.9:=by
   grind [Α]
  have e:á x τ (ρ (j:Int))=á x τ (ρ ((x.9:Nat):Int)):=by
   grind [á]
  rw[e,oX,wgd {(),by simp[ı]}];have a:(ch x).9<=j:=by rw[aR];lia
  rw[Η a];have b:x.cps.toList.take x.cps.size=x.cps.toList:=Η (by simp);simp[ı,b]
theorem oq(x:Str)(i:Nat):ch (á x (ρ (i:Int)) τ)=(ch x).drop i:=by
 by_cases h:i<=x.9
 .rw[oX,wfO {(),by simp[ı]at h ⊢;lia}];show ((x.cps.toList.drop (i:Int).toNat).take ((x.cps.toList.9:Int)-(i:Int)).toNat).toArray.toList=(ch x).drop i;rw[List.toList_toArray,ć,Η];rw[whh]
  lia
 .have hn:Α (ρ (i:Int)) τ 1 x.9=Α (ρ ((x.9:Nat):Int)) τ 1 x.9:=by
   have a:¬((i:Int)<0):=();have b:¬(((x.9:Nat):Int)<0):=();have c:max (0:Int) (min (i:Int) (x.9:Int))=max 0 (min ((x.9:Nat):Int) (x.9:Int)):=();simp[Α,a,b,c]
  have e:á x (ρ (i:Int)) τ=á x (ρ ((x.9:Nat):Int)) τ:=by
   unfold á;rw[hn]
  rw[e,oX,wfO {(),by simp[ı]}];have d:(ch x).9<=i:=by rw[aR];lia
  rw[wfP d];simp[ı]
noncomputable def nr(c:Nat)(l:List Nat):List Nat:=l.filter λk=>decide (k≠c)
theorem ot(c:Nat)(l:List Nat)(h:c∉l):nr c l=l:=by
 unfold nr;refine ċ.mpr λa ha=>decide_eq_true λe=>h (e ▸ ha)
theorem uN(c:Nat)(g:z.9=0):∀parts:List Str,(∀p∈parts,c∉ch p)->nr c (ch (Ó {#[c]} parts))=ch (Ó z parts)
 |[],_=>rfl
 |[p],h=>ot c _ (h p (Ï.mpr rfl))
 |p::q::r,h=>by
  have d:=uN c g (q::r) λa ha=>h a (Ø _ ha);show nr c (ch (p++{#[c]}++Ó {#[c]} (q::r)))=ch (p++z++Ó z (q::r));rw[aV,aV,aV,aV,<-d,jJ g,û];unfold nr;rw[Ğ,Ğ];have b:=ot c _ (h p (Ù ..));unfold nr at b;rw[b];simp
theorem yR(g:z.9=0)(x:Str)(c:Nat):ch (Λ x {#[c]} z)=nr c (ch x):=by
 rw[StrLaws.replace_one,<-uN c g _ (wgN x c),wgO]
theorem El(g:z.9=0):∀ts:List Str,ch (ż z ts)=(ts.map ch).flatten:=by
 intro ts;unfold ż Builtin.Str.glued
 have b:z.cps=#[]:=by
  have:=jJ g;exact wef.mp this
 have key:∀(l:List Str) (a:Array Nat),(l.foldl (λa p=>a++z.cps++p.cps) a).toList=a.toList++(l.map ch).flatten:=by
  intro l
  induction l with
  |nil=>intro a;simp
  |cons p l c=>
   intro a;rw[wdA,c,b];simp
 cases ts with
 |nil=>rfl
 |cons p l=>
  show ((List.drop 1 (p::l)).foldl (λa q=>a++z.cps++q.cps) p.cps).toList=_;rw[wf0,weL,key];rfl
noncomputable def iC:Str:="abcdefghijklmnopqrstuvwxyz0123456789"
structure eI(x:Str):Prop where
 lo:2<=x.9
 hi:x.9<=4
 nd:(ch x).Nodup
 sub:∀c∈ch x,c∈ch iC
structure jK(i:Nat)(yA found:Str):Prop where
 pl:yA.9+i=36
 fl:found.9=i
 pn:(ch yA).Nodup
 fn:(ch found).Nodup
 ps:∀c∈ch yA,c∈ch iC
 fs:∀c∈ch found,c∈ch iC
 ap:∀c∈ch found,c∉ch yA
theorem BU:(ch iC).Nodup:=∅
theorem Hf:iC.9=36:=∅
theorem jK.zero(he:e.9=0):jK 0 iC e:=
 {Hf,he,BU,(by rw[jJ he];exact whE),(λ_ h=>h),(λc h=>by rw[jJ he]at h;exact absurd h (by simp)),(λc h=>by rw[jJ he]at h;exact absurd h (by simp))}
theorem qR:∀{l:List Nat},l.Nodup->c∈l->(nr c l).9+1=l.9:=by
 intro l
 induction l with
 |nil=>intro _ h;cases h
 |cons a r b=>
  intro nd h
  let{n1,d}:=ι.mp nd
  unfold nr at b ⊢
  by_cases e:a=c
  .subst e;have:r.filter (λk=>decide (k≠a))=r:=ot a r n1;rw[whi,if_neg (by simp),this];rfl
  .have hc:c∈r:=(Þ.mp h).resolve_left (λz=>e z.symm);rw[whi,if_pos (by simp[e]),å,å,b d hc]
theorem jK.step(d:jK i g found)(j:z.9=0)(hc:c∈ch g):jK (i+1) (Λ g {#[c]} z) (found++{#[c]}):=by
 have e:=yR j g c;have l1:=qR d.pn hc;have o:(Λ g {#[c]} z).9=(nr c (ch g)).9:=by rw[<-aR,e]
 have p:=aR g;refine{by have:=d.pl;lia,?_,?_,?_,λk hk=>?_,λk hk=>?_,λk hk=>?_}
 .rw[<-aR,aV,Ò,aR,d.fl];rfl
 .rw[e];exact d.pn.filter _
 .rw[aV];refine wf6.mpr {d.fn,by simp[ch],λa ha b f=>?_};have:b=c:=by simpa [ch] using f
  subst this;rintro rfl;exact d.ap a ha hc
 .rw[e]at hk;exact d.ps k (é.mp hk).1
 .rw[aV]at hk;rcases ñ.mp hk with h |h
  .exact d.fs k h
  .have:k=c:=by simpa [ch] using h
   subst this;exact d.ps k hc
 .rw[e];intro l
  let{m,n}:=é.mp l
  rw[aV]at hk;rcases ñ.mp hk with h |h
  .exact d.ap k h m
  .have:k=c:=by simpa [ch] using h
   subst this;simp at n
theorem jK.signs(d:jK i g found)(j:2<=i)(l:i<=4):eI found:={by rw[d.fl];exact j,by rw[d.fl];exact l,d.fn,d.fs}
structure fh(sg w:Str):Prop where
 lo:1<=w.9
 hi:w.9<=5
 sub:∀c∈ch w,c∈ch sg
theorem Hg(ha:fh g a)(j:fh g b):fh g (á (á a (ρ 1) τ++b) τ (ρ 5)):=by
 have e:ch (á (á a (ρ 1) τ++b) τ (ρ 5))=((ch a).drop 1++ch b).take 5:=by
  have i:=zY (á a (ρ 1) τ++b) 5;have k:=oq a 1;have d:ch (á (á a (ρ 1) τ++b) τ (ρ 5))=(ch (á a (ρ 1) τ++b)).take 5:=i;have f:ch (á a (ρ 1) τ)=(ch a).drop 1:=k;rw[d,aV,f]
 have l:(á (á a (ρ 1) τ++b) τ (ρ 5)).9=(((ch a).drop 1++ch b).take 5).9:=by rw[<-aR,e]
 have m:=aR b;have:=j.lo;refine{?_,?_,λc hc=>?_}
 .rw[l,â,Ò];lia
 .rw[l,â];lia
 .rw[e]at hc;rcases ñ.mp (wcO hc) with h |h
  .exact ha.sub c (wge h)
  .exact j.sub c h
theorem Em(j:z.9=0)(p:1<=ts.9)(r:ts.9<=5)(h:∀t∈ts,∃c,t={#[c]}/\c∈ch g):fh g (ż z ts):=by
 have e:=El j ts
 have hl:∀(l:List Str),(∀t∈l,∃c,t={#[c]}/\c∈ch g)->((l.map ch).flatten).9=l.9/\∀c∈(l.map ch).flatten,c∈ch g:=by
  intro l
  induction l with
  |nil=>intro _;exact{rfl,λc h=>by cases h}
  |cons t l b=>
   intro a
   let{c,rfl,hc}:=a t (Ù ..)
   let{d,f}:=b λt h=>a t (Ø _ h)
   refine{by rw[Í,Ž,Ò,d,å];exact wfj 1 _,λk hk=>?_};rw[Í,Ž]at hk;rcases ñ.mp hk with h |h
   .have:k=c:=by simpa [ch] using h
    subst this;exact hc
   .exact f k h
 let{l1,i}:=hl ts h
 have m:(ż z ts).9=ts.9:=by rw[<-aR,e,l1]
 exact{(),(),λc hc=>i c (e ▸ hc)}
noncomputable def FN(y x:Str):Bool:=!(we2 x y 0 x.length 1).isEmpty
theorem JW(x:Str)(c:Nat):FN {#[c]} x=decide (c∈ch x):=StrLaws.found_one x c
noncomputable def bears(ws:List Str)(r:Str):Bool:=ws.any λw=>FN w r
noncomputable def j7(w:Str)(n:Nat):Str:=á w τ (ρ (n:Int))
theorem En(w:Str)(n:Nat):(j7 w n).9<=w.9:=ν _ _ _
noncomputable def yS(ks:List Str)(b:Str):List Str:=if b∈ks then ks else ks++[b]
noncomputable def qS(ws:List Str)(ks:List Str)(b:Str):List Str:=if bears ws b=true then ks else yS ks b
theorem Hh(ws g:List Str)(b:Str):(qS ws g b).9<=g.9+1:=by
 unfold qS yS;split
 .lia
 .split
  .lia
  .simp
noncomputable def upTo(ws:List Str)(w:Str)(ks:List Str)(n:Nat):List Str:=((ð n).map λi=>j7 w (1+i)).foldl (qS ws) ks
theorem fS(ws:List Str)(w:Str)(g:List Str)(n:Nat):upTo ws w g (n+1)=qS ws (upTo ws w g n) (j7 w (1+n)):=by
 delta upTo;rw[wes,Û,we4];rfl
theorem uO(ws:List Str)(w:Str)(g:List Str):∀n,(upTo ws w g n).9<=g.9+n
 |0=>Ç _
 |n+1=>by
  rw[fS];have:=uO ws w g n;have:=Hh ws (upTo ws w g n) (j7 w (1+n))
  lia
noncomputable def addW(ws:List Str)(ks:List Str)(w:Str):List Str:=upTo ws w ks (w.9-1)
noncomputable def d9(ws:List Str)(e:Str)(us:List Str):List Str:=us.foldl (addW ws) [e]
theorem BV(ws:List Str)(e:Str)(us:List Str)(w:Str):d9 ws e (us++[w])=addW ws (d9 ws e us) w:=by
 delta d9;rw[we4];rfl
theorem mM(h:∀w∈us,w.9<=5):(d9 ws e us).9<=1+4*us.9:=by
 have key:∀(us a:List Str),(∀w∈us,w.9<=5)->(us.foldl (addW ws) a).9<=a.9+4*us.9:=by
  intro us
  induction us with
  |nil=>intro a _;exact Ç _
  |cons w us b=>
   intro a h;have c:=b (addW ws a w) λv d=>h v (Ø _ d);have f:=h w (Ù ..);have g:=uO ws w a (w.9-1);rw[wdA,å];unfold addW at c;unfold addW;omega
 exact key us [e] h
theorem BW(h:g.Nodup):(yS g b).Nodup:=by
 unfold yS;split
 .exact h
 .rename_i d;refine wf6.mpr {h,by simp,λa ha c hc=>?_};have:c=b:=by simpa using hc
  subst this;rintro rfl;exact d ha
theorem BX(h:g.Nodup):(qS ws g b).Nodup:=by
 unfold qS;split
 .exact h
 .exact BW h
theorem uP(h:g.Nodup):∀n,(upTo ws w g n).Nodup
 |0=>h
 |n+1=>by rw[fS];exact BX (uP h n)
theorem rL(us:List Str):(d9 ws e us).Nodup:=by
 have key:∀(us a:List Str),a.Nodup->(us.foldl (addW ws) a).Nodup:=by
  intro us
  induction us with
  |nil=>intro a h;exact h
  |cons w us b=>intro a h;exact b _ (uP h _)
 exact key us [e] (by simp)
theorem Hi(h:k∈g):k∈qS ws g b:=by
 unfold qS yS;split
 .exact h
 .split
  .exact h
  .exact ņ _ h
theorem mem_upTo(h:k∈g):∀n,k∈upTo ws w g n
 |0=>h
 |n+1=>by rw[fS];exact Hi (mem_upTo h n)
theorem cp(us:List Str):e∈d9 ws e us:=by
 have key:∀(us a:List Str),e∈a->e∈us.foldl (addW ws) a:=by
  intro us
  induction us with
  |nil=>intro a h;exact h
  |cons w us b=>intro a h;exact b _ (mem_upTo h _)
 exact key us [e] (by simp)
end _B
namespace _S
theorem MH:ì "all"=ρ (.builtin "all"):=∅
theorem MI:ì "any"=ρ (.builtin "any"):=∅
theorem JX:ì "sorted"=ρ (.builtin "sorted"):=∅
theorem gu:ì "isinstance"=ρ (.builtin "isinstance"):=∅
theorem zZ:ì "str"=ρ (.type "str"):=∅
theorem ki:ì "list"=ρ (.type "list"):=∅
theorem Sy:ì "set"=ρ (.type "set"):=∅
inductive JY(vs:List V)(H:Hp)(Q:VK)(d8:XK):Prop
 |mk (a b) (_:vs=[.str a,.str b]) (_:a.9<=1000) (_:∀H',a7 H H'->Q (.bl ((ch a).all λc=>decide (c∈ch b))) H')
inductive PV(vs:List V)(H:Hp)(Q:VK)(d8:XK):Prop
 |mk (x) (_:vs=[.str x]) (_:eI x) (_:∀H',a7 H H'->Q (.bl true) H')
inductive PX(vs:List V)(H:Hp)(Q:VK)(d8:XK):Prop
 |mk (t g) (_:vs=[.str t,.str g]) (_:fh g t) (_:∀H',a7 H H'->Q (.bl true) H')
noncomputable def PY(ls:List V):V->V:=λv=>.bl (jy v ls)
noncomputable def BZ(g:Str)(b d q:Addr):List (Str×V):=[("signs",.str g),("barred",.ref b),("moves",.ref d),("lasting",.ref q)]
noncomputable def Ra(g:Str):List (Str×V):=[("signs",.str g)]
noncomputable def Rb(g:Str)(b:Addr):List (Str×V):=[("signs",.str g),("barred",.ref b)]
noncomputable def MJ(g:Str)(b d:Addr):List (Str×V):=[("signs",.str g),("barred",.ref b),("moves",.ref d)]
theorem MK(g:Str):bV "signs" (.str g) []=Ra g:=rfl
theorem put2(g:Str)(b:Addr):bV "barred" (.ref b) (Ra g)=Rb g b:=by
 show (if ("signs":Str)="barred" then(("signs":Str),V.ref b)::[] else(("signs":Str),V.str g)::bV "barred" (.ref b) [])=_;rw[if_neg ∅];rfl
theorem put3(g:Str)(b d:Addr):bV "moves" (.ref d) (Rb g b)=MJ g b d:=by
 show (if ("signs":Str)="moves" then(("signs":Str),V.ref d)::[(("barred":Str),V.ref b)] else(("signs":Str),V.str g)::(if ("barred":Str)="moves" then(("barred":Str),V.ref d)::[] else(("barred":Str),V.ref b)::bV "moves" (.ref d) []))=_;rw[if_neg ∅,if_neg ∅];rfl
theorem Eo(g:Str)(b d q:Addr):bV "lasting" (.ref q) (MJ g b d)=BZ g b d q:=by
 show (if ("signs":Str)="lasting" then(("signs":Str),V.ref q)::[(("barred":Str),V.ref b),(("moves":Str),V.ref d)] else(("signs":Str),V.str g)::(if ("barred":Str)="lasting" then(("barred":Str),V.ref q)::[(("moves":Str),V.ref d)] else(("barred":Str),V.ref b)::(if ("moves":Str)="lasting" then(("moves":Str),V.ref q)::[] else(("moves":Str),V.ref d)::bV "lasting" (.ref q) [])))=_;rw[if_neg ∅,if_neg ∅,if_neg ∅];rfl
theorem lC(g:Str)(b d:Addr):(MJ g b d).lookup ("moves":Str)=ρ (.ref d):=by
 rw[<-put3,aC,if_pos rfl]
theorem ou(g:Str)(b d q:Addr):(BZ g b d q).lookup ("moves":Str)=ρ (.ref d):=by
 rw[<-Eo,aC,if_neg ∅];exact lC g b d
noncomputable def iD(ns:List Int)(p:Int):Int:=ns.getD p.toNat 0
inductive ML(vs:List V)(H:Hp)(Q:VK)(d8:XK):Prop
 |mk (c t m) (_:vs=[.int c,.int t,.int m]) (_:0<=t) (_:t<=100000) (_:0<m) (_:∀d,0<=d->d<m->Q (.int d) H)
inductive JZ(vs:List V)(H:Hp)(Q:VK)(d8:XK):Prop
 |mk (c) (_:vs=[.int c]) (_:∀(x:Str) (H':Hp),eI x->a7 H H'->Q (.str x) H')
inductive MM(vs:List V)(H:Hp)(Q:VK)(d8:XK):Prop
 |mk (c g) (_:vs=[.int c,.str g]) (_:1<=g.9) (_:g.9<=10) (_:∀(x:Str) (H':Hp),fh g x->a7 H H'->Q (.str x) H')
theorem PZ:∀d:Int,0<=d->d<8->∃n:Int,yq ([.int 1,.int 2,.int 3,.int 3,.int 4,.int 4,.int 5,.int 5]:List V) d=ρ (.int n)/\1<=n/\n<=5:=by
 intro d a b;have:d=0\/d=1\/d=2\/d=3\/d=4\/d=5\/d=6\/d=7:=();rcases this with rfl |rfl |rfl |rfl |rfl |rfl |rfl |rfl
 .exact⟨1,rfl,⋯,⋯⟩
 .exact⟨2,rfl,⋯,⋯⟩
 .exact⟨3,rfl,⋯,⋯⟩
 .exact⟨3,rfl,⋯,⋯⟩
 .exact⟨4,rfl,⋯,⋯⟩
 .exact⟨4,rfl,⋯,⋯⟩
 .exact⟨5,rfl,⋯,⋯⟩
 .exact⟨5,rfl,⋯,⋯⟩
theorem xP(g:Str)(b d q:Addr):(BZ g b d q).lookup ("lasting":Str)=ρ (.ref q):=by
 rw[<-Eo,aC,if_pos rfl]
theorem Ep(g:Str)(b d q:Addr){m:Str}(j:¬m="signs")(l:¬m="barred")(p:¬m="moves")(r:¬m="lasting"):(BZ g b d q).lookup m=τ:=by
 rw[<-Eo,aC,if_neg r,<-put3,aC,if_neg p,<-put2,aC,if_neg l,<-MK,aC,if_neg j];rfl
structure Raw(K:À)(nm qual:Str)(st:Stmt)(f:Addr):Prop where
 ex:∃(oc:Value) (od:Option Addr) (kV doc pm:Value) (an:Option Addr) (gG ct:Value) (FY:Array (Option Value)),
  K.lookup f=ρ {oc,od,.func (Į nm qual (cV st) (ck st) (ax st) .none kV doc pm an gG ct),FY}/\wdV K gG qual=true
 kp:š K (.ref f)=true
theorem C0{K:À}{nm g:Str}{st:Stmt}{f:Addr}{t:Value}{od C:Option Addr}{p:Array (Option Value)}{kV r pm j ct:Value}(l:K.lookup f=ρ {t,od,.func (Į nm g (cV st) (ck st) (ax st) .none kV r pm C j ct),p})
 (c:wdV K j g=true) (k:š K (.ref f)=true):Raw K nm g st f:={⟨t,od,kV,r,pm,C,j,ct,p,l,c⟩,k}
theorem Raw.fn(R:Raw K nm g st f)
 (h:∀(kV j pm:Value) (r:Option Addr) (p ct:Value) (us:List Value),us.9=ps.9->bindArgs (Į nm g (cV st) (ck st) (ax st) .none kV j pm r p ct) {us,[]}=pure (ps.zip us)) :
 ∃fd,zo K nm g st f fd/\Binds K fd ps []:=by
 let{{b,d,kV,j,pm,r,p,ct,a,l,c},k}:=R
 have F:=G8 (st:=st) l c k;exact{_,F,F.binds h}
theorem Raw.at_{mg:Str->Option Value}(X:K.In l)(G:l.Ns è mg)(a:PySem.W.nsIn K è nm=ρ (ρ (.ref f)))(R:Raw K nm nm st f)
 (h:∀(kV g pm:Value) (p:Option Addr) (j ct:Value) (us:List Value),us.9=ps.9->bindArgs (Į nm nm (cV st) (ck st) (ax st) .none kV g pm p j ct) {us,[]}=pure (ps.zip us)) :
 ∃fd,FnAt K mg nm st ps f fd:=by
 let{fd,F,b}:=R.fn h
 exact{fd,F,b,PySem.W.mg_of X G a}
theorem gj{ss:List Str}{i:Nat}{y:V}(h:(ss.map V.str)[i]?=ρ y):∃p,ss[i]?=ρ p/\y=.str p/\i<ss.9/\p∈ss/\ss.take (i+1)=ss.take i++[p]:=by
 rw[Ê]at h
 cases e:ss[i]? with
 |none=>rw[e]at h;cases h
 |some z=>
  rw[e]at h;exact{z,rfl,(Î h).symm,(Ô.mp e).1,ê e,by rw[Ē,e];rfl}
theorem Er(h:(cD g)[i]?=ρ y):∃c,(ch g)[i]?=ρ c/\y=.str {#[c]}/\i<(ch g).9/\c∈ch g/\(ch g).take (i+1)=(ch g).take i++[c]:=by
 unfold cD at h;rw[Ê]at h
 cases e:(ch g)[i]? with
 |none=>rw[show g.cps.toList[i]?=τ from e]at h;cases h
 |some z=>
  rw[show g.cps.toList[i]?=ρ z from e]at h;exact{z,rfl,(Î h).symm,(Ô.mp e).1,ê e,by rw[Ē,e];rfl}
theorem C3(g:Str):(cD g).9=g.9:=by unfold cD;rw[Á];exact aR g
inductive Dr(K:À)(vs:List V)(H:Hp)(Q:VK)(d8:XK):Prop
 |mk (a:Addr) (ns:List Int) (_:vs=[.ref a]) (_:aL K H a (ns.map V.int)) (_:ns.9<=63) (_:∀H',Q (.bl true) H')
noncomputable def one(c:Nat):Str:={#[c]}
theorem dU(nx:g x=τ)(j:g l=τ):a7 g (upd (upd g l p) x o2):=λb o e=>by rw[a9 (ae e nx),a9 (ae e j)];exact e
theorem WC:ì "ValueError"=ρ (.type "ValueError"):=∅
theorem wu:ì "int"=ρ (.type "int"):=∅
theorem Q0:ì "dict"=ρ (.type "dict"):=∅
theorem Q1:ì "bool"=ρ (.type "bool"):=∅
theorem MN:ì "sum"=ρ (.builtin "sum"):=∅
theorem Q2:ì "min"=ρ (.builtin "min"):=∅
theorem Lj:ì "max"=ρ (.builtin "max"):=∅
theorem K0:ì "range"=ρ (.type "range"):=∅
set_option genInjectivity true in
inductive Thing(H:Hp):V->Prop where
 |flat {v:V} (h:du v=true):Thing H v
 |lst {a:Addr} {xs:List V} (h:H a=ρ (.lst xs)) (f:xs.all du=true):Thing H (.ref a)
 |tup {a:Addr} {xs:List V} (h:H a=ρ (.tup xs)) (f:xs.all du=true):Thing H (.ref a)
 |dic {a:Addr} (h:H a=ρ (.dK [])):Thing H (.ref a)
theorem jL(he:H e=τ)(hd:(upd H e g) d=τ):d≠e/\H d=τ/\del (upd (upd (upd H e g) d o2) e o3) e=upd H d o2:=by
 have a:d≠e:=λz=>by rw[z,a6]at hd;cases hd
 refine{a,by rw[a9 a]at hd;exact hd,?_};rw[yu,Be a,D4 he]
theorem ow(g:Str)(b d q:Addr):(BZ g b d q).lookup ("signs":Str)=ρ (.str g):=by
 rw[<-Eo,aC,if_neg ∅,<-put3,aC,if_neg ∅,<-put2,aC,if_neg ∅,<-MK,aC,if_pos rfl]
theorem none_of(s:a7 H H')(h:H' d=τ):H d=τ:=by
 cases q:H d with
 |none=>rfl
 |some o=>rw[s _ _ q]at h;cases h
theorem A0(g:Str)(b d q:Addr):(BZ g b d q).lookup ("barred":Str)=ρ (.ref b):=by
 rw[<-Eo,aC,if_neg ∅,<-put3,aC,if_neg ∅,<-put2,aC,if_pos rfl]
structure lD(m:Nat)(many wide:Int):Prop where
 a:2<=many
 b:many<=8
 c:1<=wide
 d:wide<=6
 e:(m:Int)^wide.toNat<=64
inductive Hj(K:À)(vs:List V)(H:Hp)(Q:VK)(d8:XK):Prop
 |mk (l d es m f) (_:vs=[.ref l,.ref d]) (_:aL K H l (es.map V.str)) (_:es.9<=1000) (_:Rd H d (.dK (bG m))) (_:Mx m es f) (_:∀H',a7 H H'->Q (.int ((es.map f).sum)) H')
inductive Hk(vs:List V)(H:Hp)(Q:VK)(d8:XK):Prop
 |mk (v) (_:vs=[v]) (_:Thing H v) (_:Q (.bl (yJ v)) H)
theorem bz{H:Hp}{a:Addr}{o:HO}(h:H a=τ):a7 H (upd H a o)/\(upd H a o) a=ρ o:={a7.upd h,a6}
structure Hl(bw:List Str)(M:Int):Prop where
 u:∀w∈bw,(w.9:Int)<=M
 a:M=0/\bw=[]\/∃w∈bw,(w.9:Int)=M
structure oY(bw:List Str)(n:Nat)(b:Nat):Prop where
 le:b<=1000
 is:∃M:Int,Hl bw M/\(b:Int)=((if 0>M-1 then 0 else M-1)+(n:Int)-1)/(n:Int)
def Sz(v:V):Prop:=v=.non\/∃i:Int,v=.int i/\i.natAbs.log2<1920
def SA(H:Hp)(many:Int)(v:V):Prop:=Thing H v/\(yJ v=false\/∃i:Int,v=.int i/\(i<0\/many<=i))
def Ln(CN:Addr)(v:V)(H:Hp)(E:XK):Prop:=∀(d:Addr) (H':Hp),a7 H H'->H d=τ->H' d=ρ (.xd [("number",v)])->E (.ref CN) (ρ d) H'
inductive Hm(K:À)(CN:Addr)(vs:List V)(H:Hp)(Q:VK)(E:XK):Prop
 |mk (v many) (_:vs=[v,.int many]) (_:((∃(a:Addr) (ts:List Nat),v=.ref a/\H a=ρ (.lst ((nI ts).map V.int))/\(∀t∈ts,(t:Int)<many)/\∀H',a7 H H'->Q .non H')\/(∃(a:Addr) (xs:List V) (i:Nat) (y:V),v=.ref a/\H a=ρ (.lst xs)/\xs[i]?=ρ y/\SA H many y/\(∀j z,j<i->xs[j]?=ρ z->∃t:Nat,z=.int (t:Int)/\(t:Int)<many)/\i<=100000/\Ln CN (.int (i:Nat)) H E)\/(∃t,eA K H v t/\Œ K t (.type "list")=ρ false/\Ln CN .non H E)))
section
variable{w:World}{K:À}
inductive K1(K:À)(vs:List V)(H:Hp)(Q:VK)(d8:XK):Prop
 |mk (r a ws) (_:vs=[.str r,.ref a]) (_:aL K H a (ws.map V.str)) (_:ws.9<=1000) (_:∀H',a7 H H'->Q (.bl (bears ws r)) H')
inductive K2(K:À)(vs:List V)(H:Hp)(Q:VK)(d8:XK):Prop
 |mk (a:Addr) (g:Str) (ws:List Str) (_:vs=[.ref a,.str g]) (_:aL K H a (ws.map V.str)) (_:ws.9<=6) (_:(∀w∈ws,fh g w)) (_:∀H',a7 H H'->Q .non H')
inductive Hn(K:À)(vs:List V)(H:Hp)(Q:VK)(d8:XK):Prop
 |mk (a ws) (_:vs=[.ref a]) (_:aL K H a (ws.map V.str)) (_:ws.9<=6) (_:(∀w∈ws,w.9<=5)) (_:∀(l:Addr) (ss:List Str) (H':Hp),a7 H H'->H l=τ->H' l=ρ (.lst (ss.map V.str))->ss.Perm (d9 ws "" ws)->wfw ss=true->Q (.ref l) H')
inductive MO(K:À)(vs:List V)(H:Hp)(Q:VK)(d8:XK):Prop
 |mk (r a ps) (_:vs=[.str r,.ref a]) (_:aL K H a (ps.map V.str)) (_:("":Str)∈ps) (_:r.9<=1000) (_:∀H',a7 H H'->Q (.str (lend ps r)) H')
inductive K3(K:À)(vs:List V)(H:Hp)(Q:VK)(d8:XK):Prop
 |mk (a b es ls) (_:vs=[.ref a,.ref b]) (_:aL K H a es) (_:aL K H b ls) (_:es.all du=true) (_:ls.all du=true) (_:es.9<=1000) (_:∀H',a7 H H'->Q (.bl (es.any λe=>jy e ls)) H')
inductive MP(K:À)(vs:List V)(H:Hp)(Q:VK)(d8:XK):Prop
 |mk (d mv es) (_:vs=[.ref d]) (_:H d=ρ (.dK (cn mv))) (_:mv.9<=1000) (_:(∀m∈mv,H m.2=ρ (.dK (es m.1)))) (_:(∀k,((es k).map (·.2)).all du=true)) (_:(∀k,(es k).9<=1000)) (_:∀(l:Addr) (ls:List Str) (H':Hp),a7 H H'->H l=τ->H' l=ρ (.lst (ls.map V.str))->M4 (mv.map (·.1)) es ls->Q (.ref l) H')
theorem Es(hw:∀w∈ws,w.9<=5):∀k∈d9 ws "" ws,k.9<=5:=by
 have h1:∀(w:Str),w.9<=5->∀(n:Nat) (ks:List Str),(∀k∈ks,k.9<=5)->∀k∈upTo ws w ks n,k.9<=5:=by
  intro w Jd n
  induction n with
  |zero=>intro ks h;exact h
  |succ n ih=>
   intro ks h k hk;rw[fS]at hk;unfold qS yS at hk;split at hk
   .exact ih ks h k hk
   .split at hk
    .exact ih ks h k hk
    .rcases ñ.mp hk with z |z
     .exact ih ks h k z
     .have:k=j7 w (1+n):=by simpa using z
      rw[this];exact Õ (En _ _) Jd
 have h2:∀(us ks:List Str),(∀w∈us,w.9<=5)->(∀k∈ks,k.9<=5)->∀k∈us.foldl (addW ws) ks,k.9<=5:=by
  intro us
  induction us with
  |nil=>intro ks _ h;exact h
  |cons w us ih=>intro ks hu h;exact ih _ (λv hv=>hu v (Ø _ hv)) (h1 w (hu w (Ù ..)) _ ks h)
 exact h2 ws [""] hw (λk hk=>by have:k="":=by simpa using hk
                                subst this
                                decide+kernel)
inductive MQ(K:À)(vs:List V)(H:Hp)(Q:VK)(d8:XK):Prop
 |mk (a ns p) (_:vs=[.ref a,.int p]) (_:aL K H a (ns.map V.int)) (_:0<=p) (_:Q (.int (iD ns p)) H)
inductive K4(K:À)(vs:List V)(H:Hp)(Q:VK)(d8:XK):Prop
 |mk (a:Addr) (ns:List Int) (p:Int) (g:Str) (m:Int) (_:vs=[.ref a,.int p,.str g,.int m]) (_:aL K H a (ns.map V.int)) (_:0<=p) (_:0<=m) (_:m<=100) (_:1<=g.9) (_:g.9<=10) (_:∀(l:Addr) (ws:List Str) (H':Hp),a7 H H'->H l=τ->H' l=ρ (.lst (ws.map V.str))->(ws.9:Int)<=m->(∀w∈ws,fh g w)->Q (.ref l) H')
end
end _S
open _S
namespace _B
theorem qU(r:Str):gC r r.9="":=by
 refine eE ?_;show ch (á r (ρ (r.9:Int)) τ)=[];rw[oq];exact wfP (weu (aR r))
theorem xQ(x y:Str)(i:Nat):wh2 x y i=true↔((ch x).drop i).take y.9=ch y:=by
 unfold wh2;rw[beq_iff_eq];constructor
 .intro h;have:=congrArg Array.toList h;rw[wgf,wfe,wd0]at this;exact this
 .intro h;refine wef.mp ?_;rw[wgf,wfe,wd0];exact h
theorem yT(y x:Str):FN y x=true↔ch y <:+: ch x:=by
 delta FN;rw[StrLaws.found_iff];constructor
 .grind [xQ,whj,List.drop_suffix]
 .rintro⟨a,b,e⟩;refine{a.9,?_,(xQ x y _).mpr ?_}
  .rw[<-aR x,<-e,Ò,Ò,aR];lia
  .rw[<-e,ā,List.drop_left,<-aR y,List.take_left]
noncomputable def wl(ws:List Str):List (List Nat):=ws.map ch
theorem tO(w:Str)(n:Nat):ch (j7 w n)=(ch w).take n:=zY w n
theorem yU(w:Str)(n:Nat):ch (gC w n)=(ch w).drop n:=oq w n
theorem yV:k∈qS ws g b↔k∈g\/(k=b/\bears ws b=false):=by
 unfold qS yS
 by_cases a:bears ws b=true
 .rw[if_pos a];simp[a]
 .rw[if_neg a];have c:bears ws b=false:=by simpa using a
  by_cases d:b∈g
  .rw[if_pos d];constructor
   .exact .inl
   .rintro(h |⟨rfl,_⟩)
    .exact h
    .exact d
  .rw[if_neg d];simp[c]
theorem oZ:∀n,k∈upTo ws w g n↔k∈g\/∃i,i<n/\k=j7 w (1+i)/\bears ws k=false
 |0=>by
  show k∈g↔_;simp
 |n+1=>by
  rw[fS,yV,oZ n];constructor
  .grind
  .grind
theorem wx(us:List Str):k∈d9 ws e us↔k=e\/∃w∈us,∃i,i<w.9-1/\k=j7 w (1+i)/\bears ws k=false:=by
 have key:∀(us b:List Str),k∈us.foldl (addW ws) b↔k∈b\/∃w∈us,∃i,i<w.9-1/\k=j7 w (1+i)/\bears ws k=false:=by
  intro us
  induction us with
  |nil=>intro b;simp
  |cons w us d=>
   intro b;rw[wdA,d];unfold addW;rw[oZ];constructor
   .rintro((h |⟨i,h⟩) |⟨c,a,h⟩)
    .exact .inl h
    .exact .inr {w,Ù ..,i,h}
    .exact .inr {c,Ø _ a,h}
   .rintro(h |⟨c,a,h⟩)
    .exact .inl (.inl h)
    .rcases Þ.mp a with rfl |a
     .exact .inl (.inr h)
     .exact .inr ⟨c,a,h⟩
 delta d9;rw[key];simp
noncomputable def Q3(ss:List Str)(l:List Nat):Bool:=decide (l∈ss.map ch)
theorem jM:Q3 ss (ch k)=true↔k∈ss:=by
 delta Q3;rw[decide_eq_true_iff];constructor
 .intro h
  let{c,a,b}:=Å.mp h
  rw[<-eE b];exact a
 .intro h;exact Å.mpr ⟨k,h,rfl⟩
theorem take_zero(r:Str):j7 r 0="":=eE (by rw[tO];rfl)
theorem len_app(a b:Str):(a++b).9=a.9+b.9:=by rw[<-aR,aV,Ò,aR,aR]
noncomputable def gv(g:Str)(ws ss:List Str)(q:Str×Str):List (Str×Str):=(ch g).filterMap λc=>if bears ws (q.2++{#[c]})=true then τ else ρ (q.1++{#[c]},lend ss (q.2++{#[c]}))
noncomputable def fx(g:Str)(ws ss:List Str)(qs:List (Str×Str)):List (Str×Str):=qs.flatMap (gv g ws ss)
noncomputable def lE(g:Str)(ws ss:List Str)(p:Str):Nat->List (Str×Str)
 |0=>[("",p)]
 |n+1=>fx g ws ss (lE g ws ss p n)
noncomputable def bo(g:Str)(ws ss ls:List Str)(n:Nat)(p:Str):List (Str×Str):=(lE g ws ss p n).filter λq=>decide (q.2∈ls)
theorem C4(g:Str)(ws ss:List Str)(q:Str×Str):(gv g ws ss q).9<=g.9:=by
 unfold gv;have:=wcU (λc=>if bears ws (q.2++{#[c]})=true then τ else ρ (q.1++({#[c]}:Str),lend ss (q.2++({#[c]}:Str)))) (ch g);rw[aR]at this;exact this
theorem rM(g:Str)(ws ss:List Str)(j:List (Str×Str)):(fx g ws ss j).9<=j.9*g.9:=zR _ _ _ λq _=>C4 g ws ss q
theorem p0(g:Str)(ws ss:List Str)(p:Str):∀n,(lE g ws ss p n).9<=g.length^n
 |0=>Ç 1
 |n+1=>Õ (rM g ws ss _) (by rw[wgP];exact wgg _ (p0 g ws ss p n))
theorem cY(h:r∈bo g ws ss ls n p):r.2∈ls:=of_decide_eq_true (é.mp h).2
theorem jN(g:Str)(ws ss ls:List Str)(n:Nat)(p:Str):(bo g ws ss ls n p).9<=g.length^n:=Õ (ě _ _) (p0 g ws ss p n)
noncomputable def fL(g:Str)(ws ss ls:List Str)(n:Nat)(f:Str->Int)(p:Str):Int:=((bo g ws ss ls n p).map λq=>f q.2).sum
theorem yW(r:Str):r++("":Str)=r:=eE (by rw[aV,jJ (z:="") rfl,û])
theorem Ds(r:Str):("":Str)++r=r:=eE (by rw[aV,jJ (z:="") rfl,List.nil_append])
theorem mN(a b c:Str):a++b++c=a++(b++c):=eE (by rw[aV,aV,aV,aV,ā])
noncomputable def eF(g:Str)(ws ss ls:List Str)(n:Nat)(hs:List Str)(p:Str):List (Str×Nat):=((bo g ws ss ls n p).filter λq=>decide (q.2∈hs)).map λq=>(q.1,hs.idxOf q.2)
noncomputable def cJ(g:Str)(ws ss ls:List Str)(n:Nat)(hs:List Str):List (List (Str×Nat)):=hs.map (eF g ws ss ls n hs)
theorem C5(g:Str)(ws ss ls:List Str)(n:Nat)(j:List Str)(p:Str):(eF g ws ss ls n j p).9<=g.length^n:=by
 unfold eF;rw[Á];exact Õ (ě _ _) (jN g ws ss ls n p)
theorem uQ{a b:Str}{m n:Nat}(g:a.9<=m)(j:b.9<=n):(a++b).9<=m+n:=by
 rw[len_app];exact Nat.add_le_add g j
theorem gU{wl:List (List (Str×Nat))}{d:Nat}(h:d<wl.9):wl[d]?=ρ (wl.getD d []):=by
 rw[ï,È h];rfl
theorem jO(r:Str):bears [] r=false:=rfl
theorem xR:[("":Str)].Perm (d9 [] "" []):=List.Perm.refl _
def Q4(ss hk:List Str)(wl:List (List (Str×Nat)))(p w:Str)(as:List Str)(i:Nat):Prop:=∃d e,d<wl.9/\hk.getD d ""=lend ss p/\(wl.getD d [])[i]?=ρ (w,e)/\Pt wl e as
structure Wr where
 g:Str
 bw:List Str
 ss:List Str
 ls:List Str
 hk:List Str
 many:Int
 n:Nat
 b:Nat
 c:Nat
 wl:List (List (Str×Nat))
structure gN(H:Hp)(a:Addr)(wl:List (List (Str×Nat))):Prop where
 ex:∃kvs:List (Key×V),H a=ρ (.dK kvs)/\∀w:Str,(bD kvs (Ã w:Key)=τ/\∀(i e:Nat),(w,e)∉wl.getD i [])\/∃(l:Addr) (rs:List Addr) (ps:List (Nat×Nat)),bD kvs (Ã w:Key)=ρ (.ref l)/\H l=ρ (.lst (rs.map V.ref))/\bq H rs (ps.map nq)/\ps.9<=1000/\∀i e:Nat,(i,e)∈ps↔(w,e)∈wl.getD i []
noncomputable def cZ(wl:List (List (Str×Nat)))(k:Nat):List wt:=(ð k).flatMap λd=>(wl.getD d []).map λq=>(d,q.1,q.2)
theorem uR(wl:List (List (Str×Nat)))(k:Nat):cZ wl (k+1)=cZ wl k++(wl.getD k []).map λq=>(k,q.1,q.2):=by
 delta cZ;rw[wes,wgu];simp
open Classical in
noncomputable def SD(R:Wr)(bs:List Str)(w:Str)(us:List Str):V:=if bears R.bw (cat bs)=true then .non else if h:∃i,Q4 R.ss R.hk R.wl (cat bs) w us i then .int ((whk h:Nat):Int) else .non
noncomputable def MR(R:Wr)(all:List Str)(k:Nat):List Str:=(all.take (k+(R.b+1+R.c))).drop k
noncomputable def WD(R:Wr)(all:List Str)(k:Nat):V:=SD R ((MR R all k).take R.b) ((MR R all k).getD R.b "") ((MR R all k).drop (R.b+1))
noncomputable def dF(g:Str):List (Str×Nat):=eF g [] [""] [""] 2 [""] ""
section
variable{g:Str}{ws ss ls:List Str}
def Je(g:Str)(ws ss ls:List Str)(many:Int)(n:Nat)(f:Str->Int):Prop:=∀p∈ls,many*f p<=fL g ws ss ls n f p
noncomputable def lF(g:Str)(ws ss ls:List Str)(many:Int)(n:Nat)(f:Str->Int)(p:Str):Int:=if fL g ws ss ls n f p/many<f p then fL g ws ss ls n f p/many else f p
theorem Ho{n:Nat}{f:Str->Int}(h:∀p∈ls,0<=f p)(p:Str):0<=fL g ws ss ls n f p:=uC λq a=>h _ (cY a)
theorem C6{f h:Str->Int}(e:∀p∈ls,f p<=h p)(p:Str):fL g ws ss ls n f p<=fL g ws ss ls n h p:=yI λq a=>e _ (cY a)
theorem Hq(many:Int)(n:Nat)(f:Str->Int)(p:Str):lF g ws ss ls many n f p<=f p:=by
 unfold lF;split<;>lia
theorem Hr{f:Str->Int}(j:2<=many)(h:∀p∈ls,0<=f p):∀p∈ls,0<=lF g ws ss ls many n f p:=λp a=>by
 have b:=whw (Ho (g:=g) (ws:=ws) (ss:=ss) (n:=n) h p) (show 0<=many by lia);have c:=h p a;unfold lF;split<;>lia
theorem Et{f h:Str->Int}(l:2<=many)(j:Je g ws ss ls many n f)(e:∀p∈ls,f p<=h p):∀p∈ls,f p<=lF g ws ss ls many n h p:=λp a=>by
 have b:=j p a;have c:=C6 (g:=g) (ws:=ws) (ss:=ss) (n:=n) e p;have d:f p<=fL g ws ss ls n h p/many:=(web 1.0).mpr (by rw[Int.mul_comm];omega);have i:=e p a;unfold lF;split<;>omega
theorem K5{f:Str->Int}(j:2<=many)(e:∀p∈ls,lF g ws ss ls many n f p=f p):Je g ws ss ls many n f:=λp a=>by
 have h:=e p a;unfold lF at h
 have b:f p<=fL g ws ss ls n f p/many:=by
  grind
 have:=(web (show 0<many by lia)).mp b;rw[Int.mul_comm]at this;exact this
theorem MS{f:Str->Int}(j:2<=many)(r:∀p∈ls,0<=f p)(e:¬∀p∈ls,lF g ws ss ls many n f p=f p):(ls.map λp=>(lF g ws ss ls many n f p).toNat).sum<(ls.map λp=>(f p).toNat).sum:=by
 have b:∀p∈ls,lF g ws ss ls many n f p<=f p:=λp _=>Hq many n f p;have c:=Hr (g:=g) (ws:=ws) (ss:=ss) (n:=n) j r;generalize lF g ws ss ls many n f=h at e b c
 have key:∀l:List Str,(∀p∈l,h p<=f p/\0<=h p)->(l.map λp=>(h p).toNat).sum<=(l.map λp=>(f p).toNat).sum/\((∃p∈l,h p≠f p)->(l.map λp=>(h p).toNat).sum<(l.map λp=>(f p).toNat).sum):=by
  intro l
  induction l with
  |nil=>intro _;exact{Ç _,λ⟨p,a,_⟩=>nomatch a}
  |cons x l i=>
   intro hl
   let{m,k}:=i λp a=>hl p (Ø _ a)
   let{o,s}:=hl x (Ù ..)
   rw[Í,Í,ÿ,ÿ];refine{(),λ⟨p,a,d⟩=>?_};rcases Þ.mp a with z |z
   .rw[z]at d
    lia
   .have:=k ⟨p,z,d⟩
    lia
 refine(key ls λp a=>{b p a,c p a}).2 ?_;apply wdC;intro q;exact e λp a=>wdC λz=>q ⟨p,a,z⟩
noncomputable def Jf(g:Str):Nat->List Str
 |0=>[""]
 |n+1=>(ch g).flatMap λc=>(Jf g n).map λr=>({#[c]}:Str)++r
noncomputable def Lp(g:Str):Nat->List Str
 |0=>[""]
 |n+1=>(Lp g n).flatMap λr=>(ch g).map λc=>r++({#[c]}:Str)
theorem tP:∀n,Lp g n=Jf g n
 |0=>rfl
 |1=>by
  show ([""]:List Str).flatMap (λr=>(ch g).map λc=>r++({#[c]}:Str))=(ch g).flatMap λc=>([""]:List Str).map λr=>({#[c]}:Str)++r;rw[List.flatMap_singleton]
  have:∀a:List Nat,(a.map λc=>("":Str)++({#[c]}:Str))=a.flatMap λc=>([""]:List Str).map λr=>({#[c]}:Str)++r:=by
   intro a
   induction a with
   |nil=>rfl
   |cons c a b=>
    rw[Í,Υ,b];show (("":Str)++({#[c]}:Str))::_=[({#[c]}:Str)++("":Str)]++_;rw[Ds,yW];rfl
  exact this _
 |n+2=>by
  show (Lp g (n+1)).flatMap (λr=>(ch g).map λc=>r++({#[c]}:Str))=(ch g).flatMap λc=>(Jf g (n+1)).map λr=>({#[c]}:Str)++r;rw[tP (n+1)];show ((ch g).flatMap λc=>(Jf g n).map λr=>({#[c]}:Str)++r).flatMap (λr=>(ch g).map λc=>r++({#[c]}:Str))=_;rw[List.flatMap_assoc];congr 1;funext c;rw[<-tP (n+1)];show _=((Lp g n).flatMap λr=>(ch g).map λc=>r++({#[c]}:Str)).map λr=>({#[c]}:Str)++r;rw[tP n,List.map_flatMap,List.flatMap_map];congr 1;funext r;rw[Ì];refine ļ λd _=>?_;exact mN _ _ _
noncomputable def MT(g:Str)(ws:List Str)(t:Str)(n:Nat):List Str:=(Jf g n).filter λr=>!bears ws (t++r)
theorem Hs(h:bears ws t=false):MT g ws t 0=[("":Str)]:=by
 show ([("":Str)]).filter (λr=>!bears ws (t++r))=[("":Str)];rw[Ċ (by rw[yW,h];rfl),whv]
theorem Ht(t:Str)(n:Nat):MT g ws t (n+1)=(ch g).flatMap λc=>(MT g ws (t++{#[c]}) n).map λr=>({#[c]}:Str)++r:=by
 show ((ch g).flatMap λc=>(Jf g n).map λr=>({#[c]}:Str)++r).filter (λr=>!bears ws (t++r))=_;rw[List.filter_flatMap];congr 1;funext c;show ((Jf g n).map λr=>({#[c]}:Str)++r).filter (λr=>!bears ws (t++r))=((Jf g n).filter λr=>!bears ws (t++{#[c]}++r)).map λr=>({#[c]}:Str)++r;rw[Ŭ];congr 1;refine wf7 λr _=>?_;show (!bears ws (t++(({#[c]}:Str)++r)))=!bears ws (t++{#[c]}++r);rw[mN]
end
section
variable{ws ss:List Str}{p:Str}
theorem yX(g:Str):∀n,(Lp g n).9=g.length^n
 |0=>rfl
 |n+1=>by
  show ((Lp g n).flatMap λr=>(ch g).map λc=>r++({#[c]}:Str)).length=_
  have:∀l:List Str,(l.flatMap λr=>(ch g).map λc=>r++({#[c]}:Str)).length=l.9*g.9:=by
   intro l
   induction l with
   |nil=>simp
   |cons r l a=>rw[Υ,Ò,a,Á,aR,å,wgE,wfj]
  rw[this,yX g n,wgP]
noncomputable def j8(ws ss:List Str)(p:Str)(r:Str):Option (Str×Str):=if bears ws (p++r)=true then τ else ρ (r,lend ss (p++r))
end
end _B
namespace _L
open PySem.Spec PyProof.Rows
section
variable{X:Cx}
noncomputable def Rc(r:Str):V->V:=λv=>match v with
 |.str y=>.bl (_B.FN y r)
 |_=>.non
theorem Hu(r:Str)(ws:List Str):(ws.map V.str).map (Rc r)=(ws.map λw=>_B.FN w r).map V.bl:=by
 rw[Ì,Ì];rfl
theorem Eu(a b:Str):(cD a).map (Rc b)=((_B.ch a).map λc=>decide (c∈_B.ch b)).map V.bl:=by
 unfold cD;rw[Ì,Ì];refine ļ λc _=>?_;show V.bl (_B.FN {#[c]} b)=V.bl (decide (c∈_B.ch b));rw[_B.JW]
theorem Ew(g:List Str)(b:Str):putK (ke g) (Ã b:Key) (.bl true)=ke (_B.yS g b):=by
 unfold putK _B.yS
 by_cases h:b∈g
 .have a:((ke g).any λc=>decide (c.1=(Ã b:Key)))=true:=by
   refine ķ.mpr {(Ã b,.bl true),?_,decide_eq_true rfl};exact Å.mpr ⟨b,h,rfl⟩
  rw[if_pos a,if_pos h];delta ke;rw[Ì];refine ļ λk _=>?_;show (if (Ã k:Key)=Ã b then((Ã k:Key),V.bl true) else((Ã k:Key),V.bl true))=_;split<;>rfl
 .have a:¬((ke g).any λc=>decide (c.1=(Ã b:Key)))=true:=by
   intro z
   let{p,d,e}:=ķ.mp z
   let{k,hk,rfl}:=Å.mp d
   have:(Ã k:Key)=Ã b:=of_decide_eq_true e;have:k=b:=Đ this;subst this;exact h hk
  rw[if_neg a,if_neg h];delta ke;rw[Û];rfl
theorem pd(h:(_B.ch x).Nodup):∀i,i<=x.cps.size->cL (eR x) i=(ð i).map (eR x)
 |0,_=>rfl
 |i+1,hi=>by
  have c:=pd h i 1.0;rw[ir,c,wes,Û];delta rF;rw[if_neg]
  .rfl
  .intro z
   let{y,d,e}:=ķ.mp z
   let{j,f,rfl}:=Å.mp d
   have l:j<i:=Ŗ.mp f;have a:eR x j=eR x i:=eq_of_beq e;unfold eR at a
   have b:x.cps.getD j 0=x.cps.getD i 0:=by
    injection a with m
    have:=congrArg Array.toList m;simpa using this
   have g:∀k,(hk:k<x.cps.size)->x.cps.getD k 0=(_B.ch x)[k]'(by simpa using hk):=λk hk=>by
    simp[Array.getD,hk]
   rw[g j 1.0,g i 1.0]at b;have:=(Ρ h).mp b;omega
theorem A1(h:(_B.ch x).Nodup):(cL (eR x) x.cps.size).9=x.9:=by
 rw[pd h _ (Ç _),Á,ŉ];rfl
noncomputable def tQ(ws ps:List Str)(p:Str)(c:Nat):V:=if bears ws (p++{#[c]})=true then .non else .str (lend ps (p++{#[c]}))
noncomputable def rowOf(g:Str)(ws ps:List Str)(p:Str):List (Key×V):=(ch g).map λc=>((Ã ({#[c]}:Str):Key),tQ ws ps p c)
theorem Ex(g:Str)(ws ps:List Str)(p:Str):(rowOf g ws ps p).9=g.9:=by delta rowOf;rw[Á,aR]
theorem C7(g:Str)(ws ps:List Str)(p:Str):((rowOf g ws ps p).map (·.2)).all du=true:=by
 delta rowOf;rw[Ì];refine í.mpr λv a=>?_
 let{c,1}:=Å.mp a
 show du (tQ ws ps p c)=true;unfold tQ;split<;>rfl
theorem K6(h:c∈ch g):bD (rowOf g ws ps p) (Ã ({#[c]}:Str):Key)=ρ (tQ ws ps p c):=
 G3 (tQ ws ps p) (λc=>({#[c]}:Str)) (λa b e=>by
  grind) h
theorem qV{z:Str}{g:TG}{t:TS}{D:Ends}{σ:St}{H:Hp}(Pv:Nat->St->Hp->Prop)(I:Pv 0 σ H)
 (J:∀i c σ H T,(_B.ch z)[i]?=ρ c->Pv i σ H->H T=τ->g (.ref T) σ (upd H T (.tup [.int (i:Nat),.str {#[c]}])) λj r=>t (D.lp (Pv (i+1))) j r) (hd:∀σ H,Pv z.length σ H->D.nx σ H) :
 ∃W:Nat->Nat->St->Hp->Prop,(∃m,W 0 m σ H)/\∀i m σ H,W i m σ H ->
  ((G4 z).stop i H/\D.nx σ H)\/((G4 z).go i H/\∃N:St->Hp->Prop,(∀l H',N l H'->∃C,C<m/\W (i+1) C l H')/\∀x H',(G4 z).we i H x H'->g x σ H' λj r=>t (D.lp N) j r):=by
 refine{λi m σ H=>m=z.9-i/\i<=z.9/\Pv i σ H,{z.9,by simp,à _,I},?_};rintro i m σ H ⟨rfl,hi,p⟩
 by_cases a:i<z.9
 .refine .inr {a,Pv (i+1),λl H' b=>{z.9-(i+1),(),rfl,a,b},λx H' y=>?_}
  let{T,d,f,h}:=y
  subst f h
  have hc:(_B.ch z)[i]?=ρ (z.cps.getD i 0):=by
   have:i<z.cps.size:=a;rw[Ź];simp[this]
  exact J i _ σ _ T hc p d
 .have e:i=z.9:=();subst e;exact .inl {Ç _,hd σ H p}
theorem al{i:Nat}{x:Str}{e:Expr}{j:TE}{g:Pos}(he:PE X e j)(l:X.N.Nodup:=by assumption)(hi:X.N[i]?=ρ x:=by rfl)(p:Loc X.env.scope x:=by first |exact ó rfl |exact ŷ rfl)(r:Ě e (ρ (.Name x g)) pos.line X.5=pure false:=by rfl)
 (t:X.fn x=true\/X.env.scope.names.lookup x=ρ .local:=by first |exact .inl rfl |exact .inr rfl |assumption):PS X (.Assign [.Name x g] e pos) (E1 j (cA i)):=
 eT l hi p he r t
theorem ay{i:Nat}{x:Str}(g:X.N.Nodup:=by assumption)(hi:X.N[i]?=ρ x:=by rfl)(j:Loc X.env.scope x:=by first |exact ó rfl |exact ŷ rfl)(l:X.fn x=true\/X.env.scope.names.lookup x=ρ .local:=by first |exact .inl rfl |exact .inr rfl |assumption):PG X (.Name x pos) (cA i):=
 iw g hi j l
theorem Hv{κ:Type}:∀{kvs:List (κ×V)} {vs:List (κ×Value)},KV kvs vs->∀{i:Nat} {p:κ×V},kvs[i]?=ρ p->∃q,vs[i]?=ρ q/\p.1=q.1/\RelV p.2 q.2
 |_,_,.nil,i,p,h=>by simp at h
 |_,_,.cons r t,i,p,h=>by
  cases i with
  |zero=>exact{1,by have:=Î h;subst this;exact r}
  |succ i=>exact Hv t h
noncomputable def d1(g:Str)(ws ss:List Str)(p:Str):List Str:=(ch g).filterMap λc=>if bears ws (p++{#[c]})=true then τ else ρ (lend ss (p++{#[c]}))
theorem A2(ws ss:List Str)(p:Str)(g:List Nat):((g.map (tQ ws ss p)).filter Bf)=(g.filterMap λc=>if bears ws (p++{#[c]})=true then τ else ρ (lend ss (p++{#[c]}))).map V.str:=by
 induction g with
 |nil=>rfl
 |cons c g a=>
  grind [tQ,lend,Bf]
theorem C8(g:Str)(ws ss:List Str)(p:Str):(d1 g ws ss p).9<=g.9:=by
 delta d1;have:=wcU (λc=>if bears ws (p++{#[c]})=true then τ else ρ (lend ss (p++({#[c]}:Str)))) (ch g);rw[aR]at this;exact this
noncomputable def dW(g:Str)(ws ss:List Str):Nat->Str->Int
 |0,_=>1
 |n+1,p=>((d1 g ws ss p).map (dW g ws ss n)).sum
noncomputable abbrev MU(g:Str)(ws ss:List Str)(n:Nat):List (Key×V):=qF (λp=>.int (dW g ws ss n p)) ss
noncomputable def UP(ws ss:List Str)(p:Str):V->V:=λv=>match v with
 |.str z=>tQ ws ss p (z.cps.getD 0 0)
 |_=>.non
theorem Ey(g:Str)(ws ss:List Str)(p:Str):(cD g).map (UP ws ss p)=(ch g).map (tQ ws ss p):=by
 unfold cD;rw[Ì];rfl
theorem Ez(g:Str)(ws ss:List Str)(p:Str)(j:List Str):iu (rowOf g ws ss p) j=(((ch g).map λc=>p++({#[c]}:Str)).filter λr=>!bears ws r).any λr=>decide (lend ss r∈j):=by
 unfold iu rowOf;rw[Ì,Γ]
 induction ch g with
 |nil=>rfl
 |cons c d a=>
  rw[Ŏ,a,Í];show ((jy (tQ ws ss p c) (j.map V.str)) ||_)=_;unfold tQ
  cases h:bears ws (p++⟨#[c]⟩) with
  |true=>
   rw[į (by rw[h];exact Ý),if_pos rfl]
   have:jy .non (j.map V.str)=false:=by
    unfold jy;rw[Γ];exact wf3.mpr λk _ b=>by simp[qz]at b
   rw[this,Ű]
  |false=>
   rw[Ċ (by rw[h];rfl),Ŏ,if_neg Ý,fm]
theorem cF.len{K:À}{H:Hp}:∀{g:List kS} {xs:List V},cF K H g xs->xs.9=g.9
 |[],xs,h=>by
  have e:xs=[]:=h;subst e;rfl
 |d::g,_,h=>by
  let{v,a,rfl,_,hl}:=h
  rw[å,å,cF.len hl]
theorem cF.get{K:À}{H:Hp}:∀{g:List kS} {xs:List V},cF K H g xs->∀(i:Nat) (x:V),xs[i]?=ρ x->∃d,g[i]?=ρ d/\bQ K H d x
 |[],_,h,i,x,e=>by
  rw[show _=[] from h]at e;simp at e
 |d::g,_,h,i,x,e=>by
  let{v,b,rfl,a,hl}:=h
  cases i with
  |zero=>cases e;exact⟨d,rfl,a⟩
  |succ i=>exact cF.get hl i x e
theorem cF.at{K:À}{H:Hp}{g:List kS}{xs:List V}(h:cF K H g xs){i:Nat}{d:kS}(e:g[i]?=ρ d):∃x,xs[i]?=ρ x/\bQ K H d x:=by
 have hi:i<g.9:=(Ô.mp e).1;have a:xs[i]?=ρ (xs[i]'(by rw[h.len];exact hi)):=È _
 let{c,b,r}:=h.get i _ a
 rw[e]at b;cases b;exact{_,a,r}
theorem fT(s:a7 g H):a7 (aH H H') (aH g H'):=λa o e=>by
 unfold aH at e ⊢
 cases h:H a with
 |none=>rw[h]at e;rw[none_of s h];exact e
 |some z=>rw[h]at e;cases e
theorem oy(s:a7 H' g):a7 (aH H H') (aH H g):=λa o e=>by
 unfold aH at e ⊢
 cases h:H a with
 |none=>rw[h]at e;exact s _ _ e
 |some z=>rw[h]at e;cases e
theorem cb(hl:H l=ρ o)(kp:∀b o,g b=ρ o->b≠l->j b=ρ o):a7 (aH H g) (aH H j):=λa c e=>by
 unfold aH at e ⊢
 cases h:H a with
 |none=>
  rw[h]at e;exact kp _ _ e λz=>by rw[z,hl]at h;cases h
 |some z=>rw[h]at e;cases e
theorem eN(kp:∀b o,H b=ρ o->b≠x->H' b=ρ o):a7 (fj H x) H':=λd o e=>by
 unfold fj at e
 by_cases hd:d=x
 .rw[if_pos hd]at e;cases e
 .rw[if_neg hd]at e;exact kp _ _ e hd
theorem MV(g:H x=ρ (.ins C j fs))(h:Rd H d o)(l:∀z,o≠.ins C j z)(p:∀a b,HO.frz a b≠.ins C j fs):Rd (fj H x) d o:=by
 rcases h with e |⟨z,e⟩
 .exact .inl (fk e λq=>by rw[q,g]at e;exact l fs (Î e).symm)
 .exact .inr {z,fk e λq=>by rw[q,g]at e;exact p _ _ (Î e).symm}
mutual
theorem bQ.off{K:À}{H:Hp}{x C j:Addr}{fs:List (Str×V)}(g:H x=ρ (.ins C j fs)):∀(d:kS) (v:V),bQ K H d v->bQ K (fj H x) d v
 |.at _,_,h=>h
 |.tup c,_,h=>by
  let{a,b,e,f,hl}:=h
  exact{a,b,e,fk f (λz=>by grind),cF.off g c b hl}
 |.lst c,_,h=>by
  let{a,b,e,f,hl}:=h
  exact{a,b,e,MV g f (λ_ z=>by cases z) (λ_ _ z=>by cases z),cF.off g c b hl}
theorem cF.off{K:À}{H:Hp}{x C l:Addr}{fs:List (Str×V)}(j:H x=ρ (.ins C l fs)):∀(g:List kS) (xs:List V),cF K H g xs->cF K (fj H x) g xs
 |[],_,h=>h
 |d::g,_,h=>by
  let{v,a,e,b,hl}:=h
  exact{v,a,e,bQ.off j d v b,cF.off j g a hl}
end
structure qW(lo:Nat)(H:Hp)(h:Heap)(e C:Addr)(od:Option Addr)(fl:Value):Prop where
 ge:lo<=e
 nt:H e=τ
 ob:∃vs sl T oT ts,h.get? e=ρ {.ref C,od,.fields vs,sl}/\1<vs.size/\vs[1]?=ρ (.ref T)/\lo<=T/\H T=τ/\T≠e/\h.get? T=ρ oT/\oT.data=.fields ts/\ts[3]?=ρ fl
theorem qW.low{lo j:Nat}{H:Hp}{h:Heap}{e C:Addr}{od:Option Addr}{fl:Value}(F:qW lo H h e C od fl)(hl:j<=lo):qW j H h e C od fl:=by
 let{g,n,a,b,T,c,d,f,i,k,l,m}:=F
 exact{Õ hl g,n,a,b,T,c,d,f,i,k,Õ hl l,m}
end
section
variable{X:Cx}{e:Expr}{te:TE}{pos p:Pos}
theorem A3(g:X.mg "len"=τ)(h:PE X e te)(j:Gl X "len":=by rfl)(he:starEach [e] X.5=(false,eval e X.5)::starEach [] X.5:=by rfl)(hpl:(backTo pos (starEach [] X.5)).any (·.1)=false:=by rfl) :
 PE X (.Call (.Name "len" p) [e] [] pos) (Pg (λxs H Q=>∃z,xs=[.str z]/\z.9<=sizeLine/\Q (.int z.9) H) (tV te wg)):=aF yC j g Κ (a5 h jB he) (he:=he) (hpl:=hpl)
theorem A4(g:X.mg "len"=τ)(h:PE X e te)(j:Gl X "len":=by rfl)(he:starEach [e] X.5=(false,eval e X.5)::starEach [] X.5:=by rfl)(hpl:(backTo pos (starEach [] X.5)).any (·.1)=false:=by rfl) :
 PE X (.Call (.Name "len" p) [e] [] pos) (Pg (λxs H Q=>∃p ys,xs=[.ref p]/\(aL X.K H p ys\/gF X.K H p ys)/\Q (.int ys.9) H) (tV te wg)):=aF oQ j g Κ (a5 h jB he) (he:=he) (hpl:=hpl)
end
section
variable{X:Cx}{x:Str}{pos:Pos}{e:Expr}{te:Jt}{i:Nat}{pos':Pos}
theorem K7(g:X.N.Nodup)(hi:X.N[i]?=ρ x)(j:Loc X.env.scope x)(he:QY X e te)(l:Ě e (ρ (.Name x pos')) pos.line X.5=pure false:=by rfl)(r:X.fn x=true\/X.env.scope.names.lookup x=ρ .local:=by first |exact .inl rfl |exact .inr rfl |assumption) :
 RZ X (.Assign [.Name x pos'] e pos) (Sq te i):=by
 refine{?_};intro a s σ H D E I h;refine Ŵ (ß (he a s σ H _ (E σ) I h) (λv s1 ⟨y,b,c,d,f⟩=>?_) λm s1 z=>⟨σ,z⟩) l;exact gZ c g hi j d (λs2 k=>{_,b,k,f}) r
end
section
variable{P:É}{w:World}{K:À}{mg:Str->Option Value}{base:Heap}{N:List Str}{qual:Str}{f:Addr}{A:Around}{outer:List Env}{s:Shared}{H:Hp}{E:XK}
theorem zo.K8{x qual:Str}{st:Stmt}{f:Addr}{fd:î}{N ps:List Str}{k:Nat}{sp:Sp}(F:zo K x qual st f fd)(S:di N ps (ax st))(len:∀vs H Q E,sp vs H Q E->vs.9=ps.9)
 (j:∀(g:Value) (A:Around) (outer:List Env) (s:Shared) (H:Hp) (vs:List V) (Q:VK) (E:XK),cO k (A.deeper (envOfC qual (ax st) s.heap.objs.size f g))->sp vs H Q E ->
   ∃t,yz (sU (qH P w) P w K mg base N qual (ax st) f g A outer s H E) (ck st) t/\t (Ends.fn Q) (start N vs) H):aI P w K mg base (qH P w) (k+1) f fd ps sp:=by
 let{h,i,kV,c,pm,l,g,ct,d,rfl,lk,a}:=F.ex
 exact Le lk a S len λA outer s H vs Q E e b=>j g A outer s H vs Q E e b
end
section
variable{X:Cx}{k:Nat}{f C:Addr}{fd:î}{ps:List Str}{sp:Sp}{x:Str}{p pos:Pos}{e:Expr}{es:List Expr}{t:TA}
theorem Hw(M:Mk X.K C f)(F:aI X.prog X.w X.K X.mg X.base (qH X.prog X.w) k f fd ps sp)(J:cO (k+1) X.A)(T:Gl X x)(U:X.mg x=ρ (.ref C))(hb:Binds X.K fd ps [])
 (ha:PA X.Ja (e::es) t) (j:(x==("__debug__":Str))=false:=by decide) (he:starEach (e::es) X.5=(false,eval e X.5)::starEach es X.5:=by rfl) (hpl:(backTo pos (starEach es X.5)).any (·.1)=false:=by rfl) :
 QY X (.Call (.Name x p) (e::es) [] pos) (M8 C sp t):=by
 refine{?_};intro c s σ H Q E I h;refine ĸ (ft I T U ?_ j);refine Ť (h₀:=X.base) I.ok.mod.Jm M.kp (Gd (bU (ha pos c s σ H _ (I.kT _) h) λb s1 n=>?_)) he hpl
 let{o,L,d,r,q}:=n.eS
 refine{d.fJ,?_};have l:=q (s1.8+1) s1.heap.objs.size (d.b7.fresh (Ĩ _)) (d.b7.fresh (Ç _)) (Ñ (Ł _));have i:=Inv.made (C:=C) d;have m:Vals (V.ref (s1.8+1)::o) (Ä (s1.8+1)::b):=.cons rfl r
 have hl:(Ä (s1.8+1)::b++[]).9=ps.9:=by
  have e:=m.9;rw[F.len _ _ _ _ l]at e;rw[û];exact e.symm
 have g:=hb _ (Ä (s1.8+1)::b) i.fJ hl;rw[û]at g
 refine ē (zK (f:=f) d.fJ M.makes M.init (beq_iff_eq.mp M.fn) (Ĵ (F.run _ X.stack _ _ {Ä (s1.8+1)::b,[]} (Ä (s1.8+1)::b) _ _ E (J.make C b [])
  (i.Go.make C b []) g m l) λr N a=>?_))
 cases r with
 |error e=>exact{_,_,i,a}
 |ok fl=>
  cases fl with
  |ret u=>
   let{v,y,z,B,D,G}:=i.after a
   subst D;exact{B,{V.ref (s1.8+1),y,z,rfl,G}}
  |next=>exact ã a
  |brk=>exact ã a
  |cont=>exact ã a
end
end _L
namespace _B
noncomputable def Dt(q:Str×Nat):kS:=.tup [.at (.str q.1),.at (.int (q.2:Int))]
noncomputable def ee(qs:List (Str×Nat)):kS:=.lst (qs.map Dt)
noncomputable def lG(dq:List (List (Str×Nat))):kS:=.lst (dq.map ee)
noncomputable def uS(hs:List Str):kS:=.lst (hs.map λh=>.at (.str h))
noncomputable def pe(ws:List Int):kS:=.lst (ws.map λw=>.at (.int w))
theorem Hx(h:bQ K H (uS g) v):∃a,v=.ref a/\aL K H a (g.map V.str):=by
 let{a,b,rfl,f,hl}:=h
 refine{a,rfl,?_}
 have:b=g.map V.str:=by
  refine wh3 λi=>?_
  cases e:b[i]? with
  |none=>
   have:=hl.len;rw[Á]at this;rw[wdj (by rw[Á];have:=wff.mp e;lia)]
  |some x=>
   let{d,hd,r}:=hl.get i x e
   rw[Ê]at hd ⊢
   cases c:g[i]? with
   |none=>rw[c]at hd;cases hd
   |some z=>
    rw[c]at hd;cases hd;rw[r.1];rfl
 rw[<-this];exact .inl f
theorem pf(h:bQ K H (pe ws) v):∃a,v=.ref a/\aL K H a (ws.map V.int):=by
 let{a,b,rfl,f,hl}:=h
 refine{a,rfl,?_}
 have:b=ws.map V.int:=by
  refine wh3 λi=>?_
  cases e:b[i]? with
  |none=>
   have:=hl.len;rw[Á]at this;rw[wdj (by rw[Á];have:=wff.mp e;lia)]
  |some x=>
   let{d,hd,r}:=hl.get i x e
   rw[Ê]at hd ⊢
   cases c:ws[i]? with
   |none=>rw[c]at hd;cases hd
   |some z=>
    rw[c]at hd;cases hd;rw[r.1];rfl
 rw[<-this];exact .inl f
theorem uT(h:H a=ρ (.lst (g.map V.str))):bQ K H (uS g) (.ref a):=
 {a,1,.inl h,cF.qE _ _ (by simp) λi d y hd b=>by
   rw[Ê]at hd b
   cases e:g[i]? with
   |none=>rw[e]at hd;cases hd
   |some z=>rw[e]at hd b;cases hd;cases b;exact⟨rfl,rfl⟩}
theorem lH(h:H a=ρ (.lst (ws.map V.int))):bQ K H (pe ws) (.ref a):=
 {a,1,.inl h,cF.qE _ _ (by simp) λi d y hd b=>by
   rw[Ê]at hd b
   cases e:ws[i]? with
   |none=>rw[e]at hd;cases hd
   |some z=>rw[e]at hd b;cases hd;cases b;exact⟨rfl,rfl⟩}
theorem jP(h:bQ K H (ee g) v):∃a xs,v=.ref a/\aL K H a xs/\xs.9=(g.map iz).9/\∀(i:Nat) (q:V×V),(g.map iz)[i]?=ρ q->∃r,xs[i]?=ρ (.ref r)/\H r=ρ (.tup [q.1,q.2]):=by
 let{a,xs,rfl,j,hl}:=h
 refine{a,xs,rfl,.inl j,by rw[hl.len,Á,Á],λi q b=>?_};rw[Ê]at b
 cases e:g[i]? with
 |none=>rw[e]at b;cases b
 |some z=>
  rw[e]at b;cases b
  let{x,k,r}:=hl.at (i:=i) (d:=Dt z) (by rw[Ê,e];rfl)
  let{l,p,rfl,f,m}:=r
  let{v1,s,rfl,{rfl,_},n}:=m
  let{t,c,rfl,{rfl,_},o}:=n
  rw[show c=[] from o]at f;exact⟨l,k,f⟩
theorem lI(g:H r=τ)(q:Str×Nat):bQ K (aH H (upd H r (.tup [.str q.1,.int (q.2:Int)]))) (Dt q) (.ref r):=
 {r,1,cG g a6,.str q.1,[.int (q.2:Int)],rfl,⟨rfl,rfl⟩,.int (q.2:Int),[],rfl,⟨rfl,rfl⟩,rfl}
structure dX(K:À)(C:Addr)(H:Hp)(x:Addr)(hs:List Str)(ws:List Int)(dq:List (List (Str×Nat))):Prop where
 ex:∃dx a b c,H x=ρ (.ins C dx (BG a b c))/\bQ K H (uS hs) (.ref a)/\bQ K H (pe ws) (.ref b)/\bQ K H (lG dq) (.ref c)
theorem qY{g:List Str}{k:Str}(h:k∈g):g[g.idxOf k]?=ρ k/\∀j:Nat,j<g.idxOf k->g[j]?≠ρ k:=by
 have hl:g.idxOf k<g.9:=wfp.mpr h;refine{by rw[È hl,wgQ hl],λj c e=>?_};have a:j<g.9:=1.0;rw[È a]at e;have b:g[j]=k:=Î e
 have:g.idxOf k<=j:=by
  rw[<-b];exact rK a
 omega
theorem Du{α:Type}{K:À}{H:Hp}(f:α->V):∀(g:List α) (xs:List V),cF K H (g.map λz=>kS.at (f z)) xs->xs=g.map f
 |[],xs,h=>h
 |z::g,_,h=>by
  let{v,a,rfl,{rfl,_},hl}:=h
  rw[Du f g a hl];rfl
theorem yY(h:bQ K H (uS g) (.ref a)):Rd H a (.lst (g.map V.str)):=by
 let{d,b,e,c,hl}:=h
 cases e;rwa[Du V.str g b hl]at c
theorem j9(h:bQ K H (ee j) v):∃a rs,v=.ref a/\aL K H a (rs.map V.ref)/\bq H rs ((j.map iz).map nc):=by
 let{a,d,rfl,m,b,k}:=jP h
 have ex:d=(d.map λv=>match v with |.ref r=>r |_=>0).map V.ref:=by
  rw[Ì];refine(΢ d).symm.trans (ļ λv n=>?_)
  let{i,hi,rfl}:=Μ n
  let{r,l,_}:=k i _ (È (by rw[<-b];exact hi))
  rw[È hi]at l;rw[Î l];rfl
 refine{a,1,by rw[<-ex];exact m,by rw[Á,Á,b],λi r p f c=>?_};rw[Ê]at f c
 cases e:(j.map iz)[i]? with
 |none=>rw[e]at c;cases c
 |some q=>
  rw[e]at c;cases c
  let{s,g,o}:=k i q e
  rw[g]at f;cases f;exact o
theorem Hy{f:Str->Int}(hn:∀p∈ls,0<=f p)(p:Str):yK ((av ls f).map f) (eF g ws ss ls n (av ls f) p)=fL g ws ss ls n f p:=by
 delta fL;rw[jG (λq:Str×Str=>f q.2) (bo g ws ss ls n p) λq a=>hn _ (cY a)];unfold yK eF;rw[Ì]
 have e:(bo g ws ss ls n p).filter (λq=>decide (q.2∈av ls f))=(bo g ws ss ls n p).filter λq=>decide (0<f q.2):=wf7 λq a=>by
  delta av;exact decide_eq_decide.mpr (by rw[é];exact{λz=>of_decide_eq_true z.2,λz=>{cY a,decide_eq_true z}})
 rw[e];refine congrArg whl (ļ λq a=>?_)
 have b:q.2∈av ls f:=by
  delta av;have:=é.mp a;exact é.mpr {cY this.1,this.2}
 show ((av ls f).map f).getD ((av ls f).idxOf q.2) 0=f q.2;rw[ï,Ê,(qY b).1];rfl
theorem GL.first{f:Str->Int}(hn:∀p∈ls,0<=f p)(j:Je g ws ss ls many n f):GL many (av ls f) ((av ls f).map f) (cJ g ws ss ls n (av ls f)):=by
 have a:∀p∈av ls f,p∈ls/\0<f p:=λp b=>{(é.mp b).1,of_decide_eq_true (é.mp b).2};refine{Á _,Á _,λw hw=>?_,λl hl q c=>?_,λi l hl=>?_}
 .let{p,b,rfl}:=Å.mp hw
  have:=(a p b).2
  lia
 .let{p,b,rfl}:=Å.mp hl
  let{z,d,rfl}:=Å.mp c
  exact List.idxOf_lt_length_of_mem (of_decide_eq_true (é.mp d).2)
 .unfold cJ at hl;rw[Ê]at hl
  cases e:(av ls f)[i]? with
  |none=>rw[e]at hl;cases hl
  |some p=>
   rw[e]at hl;cases hl;rw[Hy hn,ï,Ê,e];exact j p (a p (ê e)).1
theorem xS(h:∀d∈S,d∈T):∀g:List (Str×Nat),(cM S g).9<=(cM T g).9
 |[]=>Ç _
 |q::g=>by
  have a:=xS h g;unfold cM at a ⊢
  by_cases b:q.2∈S
  .rw[Ċ (by exact decide_eq_true b),Ċ (by exact decide_eq_true (h _ b))];exact Nat.succ_le_succ a
  .rw[į (by simpa using b)]
   by_cases c:q.2∈T
   .rw[Ċ (by exact decide_eq_true c)];exact wh4 a
   .rw[į (by simpa using c)];exact a
theorem HA:∀{a b:List Nat},nI a=nI b->a=b
 |[],[],_=>rfl
 |[],_::_,h=>nomatch h
 |_::_,[],h=>nomatch h
 |x::a,y::b,h=>by
  unfold nI at h;rw[Í,Í]at h;injection h with d c
  rw[HA (a:=a) (b:=b) c,show x=y by lia]
theorem xT(a b:List Nat):tZ ((nI a).map V.int) ((nI b).map V.int)=decide (a=b):=by
 rw[xJ];exact decide_eq_decide.mpr {HA,λe=>by rw[e]}
noncomputable def EA(s:O8):kS:=.tup [.at (.int (s.1:Int)),pe (nI s.2.1),.at (.int s.2.2)]
structure qZ(K:À)(C CS:Addr)(H:Hp)(x:Addr)(m:List (Str×Int))(A5:List O8)(ks:List Nat)(hs:List Str)(ws:List Int)(dq:List (List (Str×Nat))):Prop where
 ex:∃dx a b c d,H x=ρ (.ins C dx (uJ a b c d))/\H a=ρ (.dK (bG m))/\bQ K H (.lst (A5.map EA)) (.ref b)/\bQ K H (pe (nI ks)) (.ref c)/\dX K CS H d hs ws dq
theorem lJ(s:a7 H H'):a7 (fj H b) (fj H' b):=λc o e=>by
 unfold fj at e ⊢
 by_cases h:c=b
 .rw[if_pos h]at e;cases e
 .rw[if_neg h]at e ⊢;exact s _ _ e
theorem lK:a7 (fj H b) H:=eN λ_ _ e _=>e
theorem Dv(h:H b=ρ o):a7 (aH H H') (fj H' b):=λc d e=>by
 have a:=dP _ _ _ _ e;refine fk a λz=>?_;unfold aH at e;rw[z,h]at e;cases e
theorem K9(g:H t=ρ (.tup [.int (d:Int),.ref l,.int w]))(j:H l=ρ (.lst ((nI ns).map V.int))):bQ K H (EA (d,ns,w)) (.ref t):=
 {t,1,g,_,1,⟨rfl,rfl⟩,_,1,lH j,_,1,⟨rfl,rfl⟩,rfl}
def Q6(g:Str)(bw ss:List Str)(many:Int)(n:Nat):Prop:=∀j:Nat,1<=j->(j:Int)<=24->¬dW g bw ss (j*n) "" < many^j
theorem Ka(h:k∈g):(nI g)[g.idxOf k]?=ρ (k:Int)/\∀j:Nat,j<g.idxOf k->(nI g)[j]?≠ρ (k:Int):=by
 have hl:g.idxOf k<g.9:=wfp.mpr h;unfold nI;refine{by rw[Ê,È hl,wgQ hl];rfl,λj c e=>?_};have a:j<g.9:=1.0;rw[Ê,È a]at e;have b:g[j]=k:=by have:((g[j]:Nat):Int)=k:=Î e;omega
 have:=uK a;rw[b]at this;omega
noncomputable def ph(p b:Addr)(many wide:Int)(h l:Addr)(o:Str)(i:Int):List (Str×V):=[("scheme",.ref p),("band",.ref b),("many",.int many),("wide",.int wide),("homes",.ref h),("lines",.ref l),("opening",.str o),("first",.int i)]
theorem EB{many:Int}(m1:1<=many){ts:List Nat}(h:∀t∈ts,(t:Int)<many)(b c:Nat):∀t∈GV b c ts,(t:Int)<many:=λt a=>by
 unfold GV at a;rcases ñ.mp a with z |z
 .rw[(wdR.mp z).2];omega
 .rcases ñ.mp z with z |z
  .exact h t z
  .rw[(wdR.mp z).2];omega
theorem oY.one(h:oY bw n b)(h':oY bw n g):b=g:=by
 let{_,M,{u,a},e}:=h
 let{_,N,{v,c},f}:=h'
 have:M=N:=by
  rcases a with⟨a1,a2⟩ |⟨w,hw,a⟩<;>rcases c with⟨c1,i⟩ |⟨j,d,c⟩
  .lia
  .rw[a2]at d;cases d
  .rw[i]at hw;cases hw
  .have:=u j d;have:=v w hw;lia
 rw[this]at e
 lia
theorem bq.app{H:Hp}{rs:List Addr}{g:List (List V)}(h:bq H rs g)(j:H r=ρ (.tup xs)):bq H (rs++[r]) (g++[xs]):=by
 refine{by rw[Ò,Ò,h.1];rfl,λi q c a b=>?_}
 by_cases z:i<rs.9
 .rw[ģ z]at a;rw[ģ (by rw[<-h.1];exact z)]at b;exact h.2 i q c a b
 .rw[ĉ 1.0]at a;rw[ĉ (by rw[<-h.1];omega)]at b
  have e:i-rs.9=0:=by
   have:=(Ô.mp a).1;rw[wcD]at this;omega
  rw[<-h.1]at b;rw[e]at a b;cases a;cases b;exact j
theorem EC{wl:List (List (Str×Nat))}{i e:Nat}{w:Str}:(i,w,e)∈cZ wl wl.length↔(w,e)∈wl.getD i []:=by
 delta cZ;constructor
 .intro h
  let{d,_,h}:=wds.mp h
  let{q,a,b}:=Å.mp h
  let{rfl,c}:=Ŧ b
  let{rfl,rfl}:=Ŧ c
  exact a
 .intro h;refine wds.mpr {i,Ŗ.mpr ?_,Å.mpr {(w,e),h,rfl}};refine wdC λz=>?_;rw[ï,wdj 1.0]at h;cases h
theorem r9(g:Str):∀q∈dF g,q.2=0:=λq a=>by
 unfold dF eF at a
 let{z,b,rfl}:=Å.mp a
 have c:=of_decide_eq_true (é.mp b).2;show [("":Str)].idxOf z.2=0;rw[Ï.mp c];rfl
theorem A6(g:Str):∀n,∀q∈lE g [] [""] "" n,q.1.9=n
 |0,q,a=>by rw[Ï.mp a];rfl
 |n+1,q,a=>by
  let{z,b,h}:=wds.mp (show q∈(lE g [] [""] "" n).flatMap (gv g [] [""]) from a)
  unfold gv at h
  let{c,_,e}:=wdE.mp h
  rw[if_neg (by rw[jO];decide)]at e;cases e;show (z.1++({#[c]}:Str)).length=n+1;rw[len_app,A6 g n z b];rfl
theorem C9(g:Str):∀q∈dF g,q.1.9=2:=λq a=>by
 unfold dF eF bo at a
 let{z,b,rfl}:=Å.mp a
 exact A6 g 2 z (é.mp (é.mp b).1).1
section
variable(p b h l:Addr)(many wide i:Int)(o:Str)
theorem Q7:bV "first" (.int i) (Pq p b many wide h l o)=ph p b many wide h l o i:=dS (by show ("first":Str)∉[("scheme":Str),"band","many","wide","homes","lines","opening"];decide+kernel)
theorem yZ:(ph p b many wide h l o i).lookup ("scheme":Str)=ρ (.ref p):=cw (fs:=[]) ∅
theorem uU:(ph p b many wide h l o i).lookup ("band":Str)=ρ (.ref b):=cw (fs:=O9 p) (by show ("band":Str)∉[("scheme":Str)];decide+kernel)
theorem uV:(ph p b many wide h l o i).lookup ("many":Str)=ρ (.int many):=cw (fs:=Pp p b) (by show ("many":Str)∉[("scheme":Str),"band"];decide+kernel)
theorem jQ:(ph p b many wide h l o i).lookup ("wide":Str)=ρ (.int wide):=cw (fs:=Oa p b many) (by show ("wide":Str)∉[("scheme":Str),"band","many"];decide+kernel)
theorem A7:(ph p b many wide h l o i).lookup ("homes":Str)=ρ (.ref h):=cw (fs:=Ob p b many wide) (by show ("homes":Str)∉[("scheme":Str),"band","many","wide"];decide+kernel)
theorem rN:(ph p b many wide h l o i).lookup ("lines":Str)=ρ (.ref l):=cw (fs:=Oc p b many wide h) (by show ("lines":Str)∉[("scheme":Str),"band","many","wide","homes"];decide+kernel)
theorem nu:(ph p b many wide h l o i).lookup ("opening":Str)=ρ (.str o):=cw (fs:=JQ p b many wide h l) (by show ("opening":Str)∉[("scheme":Str),"band","many","wide","homes","lines"];decide+kernel)
theorem A8:(ph p b many wide h l o i).lookup ("first":Str)=ρ (.int i):=cw (fs:=Pq p b many wide h l o) (by show ("first":Str)∉[("scheme":Str),"band","many","wide","homes","lines","opening"];decide+kernel)
theorem dG(hn:n∉[("scheme":Str),"band","many","wide","homes","lines","opening","first"]):(ph p b many wide h l o i).lookup n=τ:=cI hn
end
section
variable{g:Str}{ws ss:List Str}
theorem MX(n:Nat):∀p,0<=dW g ws ss n p:=by
 induction n with
 |zero=>intro p;show (0:Int)<=1;decide
 |succ n a=>intro p;exact uC λe _=>a e
theorem HB(n:Nat)(p:Str):dW g ws ss (n+1) p=((ch g).map λc=>if bears ws (p++{#[c]})=true then 0 else dW g ws ss n (lend ss (p++{#[c]}))).sum:=by
 show ((d1 g ws ss p).map (dW g ws ss n)).sum=_;delta d1;rw[nk];congr 1;refine ļ λc _=>?_;cases bears ws (p++⟨#[c]⟩)<;>rfl
end
end _B
namespace _S
structure aE(C:Addr)(H:Hp)(x:Addr)(g:Str)(ws ss ls:List Str):Prop where
 ex:∃(dx b d q:Addr) (mv:List (Str×Addr)),H x=ρ (.ins C dx (BZ g b d q))/\H b=ρ (.lst (ws.map V.str))/\H d=ρ (.dK (cn mv))/\mv.map (·.1)=ss/\(∀m∈mv,H m.2=ρ (.dK (rowOf g ws ss m.1)))/\H q=ρ (.lst (ls.map V.str))
 pm:ss.Perm (d9 ws "" ws)
 so:wfw ss=true
 lv:M4 ss (rowOf g ws ss) ls
theorem aE.same(B:aE C H x g ws ss ls)(s:a7 H H'):aE C H' x g ws ss ls:=by
 let{{a,b,d,q,c,e,f,h,i,j,k},p,o,l}:=B
 exact{{a,b,d,q,c,s _ _ e,s _ _ f,s _ _ h,i,λm n=>s _ _ (j m n),s _ _ k},p,o,l}
inductive HC(C:Addr)(vs:List V)(H:Hp)(Q:VK)(d8:XK):Prop
 |mk (x g ws ss ls) (_:vs=[.ref x]) (_:aE C H x g ws ss ls) (_:∀(l:Addr) (H':Hp),a7 H H'->H l=τ->H' l=ρ (.lst (ss.map V.str))->Q (.ref l) H')
theorem aE.nd(B:aE C H x g ws ss ls):ss.Nodup:=B.pm.nodup_iff.mpr (rL ws)
inductive Kb(C:Addr)(vs:List V)(H:Hp)(Q:VK)(d8:XK):Prop
 |mk (x g ws ss ls) (_:vs=[.ref x]) (_:aE C H x g ws ss ls) (_:∀(l:Addr) (H':Hp),a7 H H'->H l=τ->H' l=ρ (.lst (ls.map V.str))->Q (.ref l) H')
inductive SE(C:Addr)(vs:List V)(H:Hp)(Q:VK)(d8:XK):Prop
 |mk (x p g ws ss ls) (_:vs=[.ref x,.str p]) (_:aE C H x g ws ss ls) (_:p∈ss) (_:Q .non H)
inductive Q8(C:Addr)(vs:List V)(H:Hp)(Q:VK)(d8:XK):Prop
 |mk (x p c g ws ss ls) (_:vs=[.ref x,.str p,.str ⟨#[c]⟩]) (_:aE C H x g ws ss ls) (_:p∈ss) (_:c∈ch g) (_:Q (tQ ws ss p c) H)
theorem Thing.same(t:Thing H v)(s:a7 H H'):Thing H' v:=by
 cases t with
 |flat h=>exact .flat h
 |lst h f=>exact .lst (s _ _ h) f
 |tup h f=>exact .tup (s _ _ h) f
 |dic h=>exact .dic (s _ _ h)
inductive Ca(C:Addr)(vs:List V)(H:Hp)(Q:VK)(d8:XK):Prop
 |mk (x p g ws ss ls) (_:vs=[.ref x,.str p]) (_:aE C H x g ws ss ls) (_:p∈ss) (_:g.9<=10) (_:∀(l:Addr) (H':Hp),a7 H H'->H l=τ->H' l=ρ (.lst ((d1 g ws ss p).map V.str))->Q (.ref l) H')
inductive ED(C:Addr)(vs:List V)(H:Hp)(Q:VK)(d8:XK):Prop
 |mk (x g ws ss ls) (_:vs=[.ref x]) (_:aE C H x g ws ss ls) (_:g.9<=10) (_:ss.9<=900) (_:∀(d:Addr) (ev:List (Str×Addr)) (H':Hp),a7 H H'->H d=τ->H' d=ρ (.dK (cn ev))->ev.map (·.1)=ss->(∀m∈ev,H' m.2=ρ (.lst ((d1 g ws ss m.1).map V.str)))->(∀m∈ev,H m.2=τ)->Q (.ref d) H')
inductive Kc(C:Addr)(vs:List V)(H:Hp)(Q:VK)(d8:XK):Prop
 |mk (x n g ws ss ls) (_:vs=[.ref x,.int n]) (_:aE C H x g ws ss ls) (_:g.9<=10) (_:ss.9<=900) (_:0<=n) (_:n<=100000) (_:∀(l:Addr) (ts:List Addr) (H':Hp),a7 H H'->H l=τ->H' l=ρ (.lst (ts.map V.ref))->ts.9=n.toNat+1->(∀i t,ts[i]?=ρ t->H' t=ρ (.dK (MU g ws ss i)))->Q (.ref l) H')
inductive Kd(C:Addr)(vs:List V)(H:Hp)(Q:VK)(d8:XK):Prop
 |mk (x n g ws ss ls) (_:vs=[.ref x,.int n]) (_:aE C H x g ws ss ls) (_:g.9<=10) (_:ss.9<=900) (_:0<=n) (_:n<=100000) (_:∀H',a7 H H'->Q (.int (dW g ws ss n.toNat "")) H')
inductive EE(C:Addr)(vs:List V)(H:Hp)(Q:VK)(d8:XK):Prop
 |mk (x n g ws ss ls) (_:vs=[.ref x,.int n]) (_:aE C H x g ws ss ls) (_:g.9<=10) (_:0<=n) (_:n<=10) (_:Q (.int ((g.9:Int)^n.toNat)) H)
inductive uW(C:Addr)(vs:List V)(H:Hp)(Q:VK)(d8:XK):Prop
 |mk (x many wide g ws ss ls) (_:vs=[.ref x,.int many,.int wide]) (_:aE C H x g ws ss ls) (_:g.9<=10) (_:lD g.length many wide) (_:Q (.bl true) H)
inductive SG(C:Addr)(vs:List V)(H:Hp)(Q:VK)(d8:XK):Prop
 |mk (x p g ws ss ls) (_:vs=[.ref x,.str p]) (_:aE C H x g ws ss ls) (_:p∈ls) (_:Q .non H)
inductive HD(C:Addr)(vs:List V)(H:Hp)(Q:VK)(d8:XK):Prop
 |mk (x l rs qs g ws ss ls) (_:vs=[.ref x,.ref l]) (_:aE C H x g ws ss ls) (_:cS H l rs qs) (_:(∀q∈qs,q.2∈ss/\q.1.9<=100)) (_:qs.9<=100) (_:g.9<=10) (_:∀(l':Addr) (Rf:List Addr) (H':Hp),a7 H H'->H l'=τ->cS H' l' Rf (fx g ws ss qs)->Q (.ref l') H')
inductive HE(C:Addr)(vs:List V)(H:Hp)(Q:VK)(d8:XK):Prop
 |mk (x:Addr) (p:Str) (n:Nat) (g:Str) (ws ss ls:List Str) (_:vs=[.ref x,.str p,.int (n:Int)]) (_:aE C H x g ws ss ls) (_:p∈ls) (_:g.length^n<=100) (_:n<=10) (_:2<=g.9) (_:g.9<=10) (_:∀(l':Addr) (Rf:List Addr) (H':Hp),a7 H H'->H l'=τ->cS H' l' Rf (bo g ws ss ls n p)->Q (.ref l') H')
inductive A9(C:Addr)(vs:List V)(H:Hp)(Q:VK)(d8:XK):Prop
 |mk (x:Addr) (n:Nat) (g:Str) (ws ss ls:List Str) (_:vs=[.ref x,.int (n:Int)]) (_:aE C H x g ws ss ls) (_:g.length^n<=100) (_:n<=10) (_:2<=g.9) (_:g.9<=10) (_:ss.9<=900) (_:∀(d:Addr) (ev:List (Str×Addr)) (H':Hp),a7 H H'->H d=τ->H' d=ρ (.dK (cn ev))->ev.map (·.1)=ls->(∀m∈ev,H' m.2=ρ (.lst (((bo g ws ss ls n m.1).map (·.2)).map V.str)))->(∀m∈ev,H m.2=τ)->Q (.ref d) H')
inductive HF(C:Addr)(vs:List V)(H:Hp)(Q:VK)(d8:XK):Prop
 |mk (x p n g ws ss ls) (_:vs=[.ref x,.str p,.int n]) (_:aE C H x g ws ss ls) (_:p∈ss) (_:g.9<=10) (_:ss.9<=900) (_:0<=n) (_:n<=100000) (_:∀H',a7 H H'->Q (.int (dW g ws ss n.toNat p)) H')
inductive EF(vs:List V)(H:Hp)(Q:VK)(d8:XK):Prop
 |mk (de dw many n o ev f g ws ss ls) (_:vs=[.ref de,.int many,.ref dw]) (_:H de=ρ (.frz o (.dK (cn ev)))) (_:ev.map (·.1)=ls) (_:(∀m∈ev,H m.2=ρ (.lst (((bo g ws ss ls n m.1).map (·.2)).map V.str)))) (_:g.length^n<=100) (_:ls.Nodup) (_:ls.9<=900) (_:2<=many) (_:many<=8) (_:Rd H dw (.dK (bG (cE f ls)))) (_:∀(d:Addr) (H':Hp),a7 H H'->H d=τ->H' d=ρ (.dK (bG (cE (lF g ws ss ls many n f) ls)))->Q (.ref d) H')
structure lL(g:Str)(ws ss ls:List Str)(many:Int)(n:Nat)(most:Int)(f:Str->Int):Prop where
 nn:∀p∈ls,0<=f p
 le:∀p∈ls,f p<=most
 fit:Je g ws ss ls many n f
 top:∀h:Str->Int,(∀p∈ls,h p<=most)->Je g ws ss ls many n h->∀p∈ls,h p<=f p
inductive Ke(C:Addr)(vs:List V)(H:Hp)(Q:VK)(d8:XK):Prop
 |mk (x:Addr) (many:Int) (n:Nat) (most:Int) (g:Str) (ws ss ls:List Str) (_:vs=[.ref x,.int many,.int (n:Int),.int most]) (_:aE C H x g ws ss ls) (_:2<=g.9) (_:g.9<=10) (_:ss.9<=900) (_:lD g.length many n) (_:0<=most) (_:∀(d:Addr) (f:Str->Int) (H':Hp),a7 H H'->H d=τ->H' d=ρ (.dK (bG (cE f ls)))->lL g ws ss ls many n most f->Q (.ref d) H')
set_option genInjectivity true in
inductive SH(g:Str)(ws ss:List Str)(many:Int)(n:Nat)(most:Int):V->Prop where
 |some (k:Nat) (a:1<=k) (b:(k:Int)<=most) (c:dW g ws ss (k*n) "" < many^k) (d:∀j:Nat,1<=j->j<k->¬dW g ws ss (j*n) "" < many^j):SH g ws ss many n most (.int (k:Nat))
 |none (a:∀j:Nat,1<=j->(j:Int)<=most->¬dW g ws ss (j*n) "" < many^j):SH g ws ss many n most .non
inductive EG(C:Addr)(vs:List V)(H:Hp)(Q:VK)(d8:XK):Prop
 |mk (x many wide most g ws ss ls) (_:vs=[.ref x,.int many,.int wide,.int most]) (_:aE C H x g ws ss ls) (_:g.9<=10) (_:ss.9<=900) (_:lD g.length many wide) (_:0<=most) (_:most<=100) (_:∀v H',a7 H H'->SH g ws ss many wide.toNat most v->Q v H')
inductive HG(K:À)(vs:List V)(H:Hp)(Q:VK)(d8:XK):Prop
 |mk (v qs) (_:vs=[v]) (_:bQ K H (ee qs) v) (_:qs.9<=10000) (_:∀y H',a7 H H'->bQ K (aH H H') (ee qs) y->Q y H')
inductive HH(K:À)(C:Addr)(vs:List V)(H:Hp)(Q:VK)(d8:XK):Prop
 |mk (x dx u v w hs ws dq) (_:vs=[.ref x,u,v,w]) (_:H x=ρ (.ins C dx [])) (_:bQ K H (uS hs) u) (_:bQ K H (pe ws) v) (_:bQ K H (lG dq) w) (_:hs.9<=10000) (_:ws.9<=10000) (_:dq.9<=10000) (_:(∀l∈dq,l.9<=10000)) (_:∀a b c H',H' x=ρ (.ins C dx (BG a b c))->bQ K (aH H H') (uS hs) (.ref a)->bQ K (aH H H') (pe ws) (.ref b)->bQ K (aH H H') (lG dq) (.ref c)->(∀b o,H b=ρ o->b≠x->H' b=ρ o)->Q .non H')
inductive Kf(K:À)(C CS:Addr)(vs:List V)(H:Hp)(Q:VK)(d8:XK):Prop
 |mk (x d:Addr) (many:Int) (n:Nat) (m:List (Str×Int)) (f:Str->Int) (g:Str) (ws ss ls:List Str) (_:vs=[.ref x,.int many,.int (n:Int),.ref d]) (_:aE C H x g ws ss ls) (_:2<=g.9) (_:g.9<=10) (_:ss.9<=900) (_:lD g.length many n) (_:Rd H d (.dK (bG m))) (_:Mx m ls f) (_:∀(y:Addr) (H':Hp),a7 H H'->dX K CS (aH H H') y (av ls f) ((av ls f).map f) (cJ g ws ss ls n (av ls f))->Q (.ref y) H')
inductive MY(K:À)(vs:List V)(H:Hp)(Q:VK)(d8:XK):Prop
 |mk (v a ds qs) (_:vs=[v,.ref a]) (_:bQ K H (ee qs) v) (_:aL K H a ((nI ds).map V.int)) (_:qs.9<=10000) (_:∀y H',a7 H H'->bQ K (aH H H') (ee (cM ds qs)) y->Q y H')
inductive HI(C:Addr)(vs:List V)(H:Hp)(Q:VK)(d8:XK):Prop
 |mk (x d:Addr) (many:Int) (n:Nat) (f:Str->Int) (g:Str) (ws ss ls:List Str) (_:vs=[.ref x,.int many,.int (n:Int),.ref d]) (_:aE C H x g ws ss ls) (_:(∀w∈ws,1<=w.9)) (_:(ch g).Nodup) (_:2<=g.9) (_:g.9<=10) (_:ss.9<=900) (_:lD g.length many n) (_:H d=ρ (.dK (bG (cE f ls)))) (_:(∀p∈ls,0<=f p)) (_:Je g ws ss ls many n f) (_:0<(ls.map f).sum) (_:∀(dl:Addr) (f':Str->Int) (H':Hp),(∀c o,H c=ρ o->c≠d->H' c=ρ o)->H dl=τ->H' dl=ρ (.dK (bG (cE f' ls)))->(∀p∈ls,0<=f' p)->Je g ws ss ls many n f'->0<(ls.map f').sum->(∀p∈ls,f' p<=f p)->(ls.map f').sum<=(ls.map f).sum->Q (.ref dl) H')
inductive HJ(K:À)(C:Addr)(vs:List V)(H:Hp)(Q:VK)(d8:XK):Prop
 |mk (x hs ws dq) (_:vs=[.ref x]) (_:dX K C H x hs ws dq) (_:hs.9<=10000) (_:ws.9<=10000) (_:dq.9<=10000) (_:(∀l∈dq,l.9<=10000)) (_:∀y H',a7 H H'->dX K C (aH H H') y hs ws dq->Q (.ref y) H')
inductive Kg(K:À)(C CS:Addr)(vs:List V)(H:Hp)(Q:VK)(d8:XK):Prop
 |mk (x dx d z:Addr) (u v:V) (m:List (Str×Int)) (A5:List O8) (ks:List Nat) (hs:List Str) (ws:List Int) (dq:List (List (Str×Nat))) (_:vs=[.ref x,.ref d,u,v,.ref z]) (_:H x=ρ (.ins C dx [])) (_:Rd H d (.dK (bG m))) (_:bQ K H (.lst (A5.map EA)) u) (_:bQ K H (pe (nI ks)) v) (_:dX K CS H z hs ws dq) (_:hs.9<=10000) (_:ws.9<=10000) (_:dq.9<=10000) (_:(∀l∈dq,l.9<=10000)) (_:A5.length<=10000) (_:∀a b c y H',H' x=ρ (.ins C dx (uJ a b c y))->H a=τ->H' a=ρ (.dK (bG m))->bQ K (aH H H') (.lst (A5.map EA)) (.ref b)->bQ K (aH H H') (pe (nI ks)) (.ref c)->dX K CS (aH H H') y hs ws dq->(∀b o,H b=ρ o->b≠x->H' b=ρ o)->Q .non H')
inductive EH(K:À)(C CS:Addr)(vs:List V)(H:Hp)(Q:VK)(d8:XK):Prop
 |mk (x m A5 ks hs ws dq) (_:vs=[.ref x]) (_:qZ K C CS H x m A5 ks hs ws dq) (_:hs.9<=10000) (_:ws.9<=10000) (_:dq.9<=10000) (_:(∀l∈dq,l.9<=10000)) (_:∀y H',a7 H H'->dX K CS (aH H H') y hs ws dq->Q (.ref y) H')
inductive Kh(K:À)(vs:List V)(H:Hp)(Q:VK)(d8:XK):Prop
 |mk (v b many ks qs) (_:vs=[v,.ref b,.int many]) (_:bQ K H (ee qs) v) (_:aL K H b ((nI ks).map V.int)) (_:ks.9<=1000) (_:qs.9<=10000) (_:0<=many) (_:∀y H',a7 H H'->bQ K (aH H H') (ee (oS ks many.toNat qs)) y->Q y H')
inductive Ki(C:Addr)(vs:List V)(H:Hp)(Q:VK)(d8:XK):Prop
 |mk (x g bw ss ls) (_:vs=[.ref x]) (_:aE C H x g bw ss ls) (_:bw.9<=1000) (_:(∀w∈bw,w.9<=1000)) (_:∀(M:Int) (H':Hp),a7 H H'->Hl bw M->Q (.int M) H')
inductive HK(C:Addr)(vs:List V)(H:Hp)(Q:VK)(d8:XK):Prop
 |mk (x:Addr) (n:Nat) (g:Str) (bw ss ls:List Str) (_:vs=[.ref x,.int (n:Int)]) (_:aE C H x g bw ss ls) (_:1<=n) (_:n<=10) (_:(∀w∈bw,w.9<=900)) (_:bw.9<=1000) (_:∀(b:Nat) (H':Hp),a7 H H'->oY bw n b->Q (.int (b:Int)) H')
structure EI(C:Addr)(x:Addr)(v u:V)(H:Hp):Prop where
 ex:∃(g:Str) (ws ss ls:List Str),aE C H x g ws ss ls/\1<=g.9/\g.9<=10/\Thing H v/\Thing H u/\Pn g.length v u=false
def SJ(C CR:Addr)(x:Addr)(v u:V)(H:Hp)(E:XK):Prop:=EI C x v u H/\∀H',a7 H H'->E (.ref CR) τ H'
def EJ(C:Addr):Sp:=λvs H Q E=>uW C vs H Q E\/∃(x:Addr) (v u:V),vs=[.ref x,v,u]/\EI C x v u H/\Q (.bl false) H
def HL(C CR:Addr):Sp:=λvs H Q E=>uW C vs H Q E\/∃(x:Addr) (v u:V),vs=[.ref x,v,u]/\SJ C CR x v u H E
inductive HM(C CB:Addr)(vs:List V)(H:Hp)(Q:VK)(d8:XK):Prop
 |mk (x xb dx:Addr) (fs:List (Str×V)) (n:Nat) (g:Str) (bw ss ls:List Str) (_:vs=[.ref x]) (_:H x=ρ (.ins C dx fs)) (_:fs.lookup ("band":Str)=ρ (.ref xb)) (_:fs.lookup ("wide":Str)=ρ (.int (n:Int))) (_:aE CB H xb g bw ss ls) (_:1<=n) (_:n<=10) (_:(∀w∈bw,w.9<=900)) (_:bw.9<=1000) (_:∀(b:Nat) (H':Hp),a7 H H'->oY bw n b->Q (.int (b:Int)) H')
section
variable{w:World}{K:À}
inductive Kj(K:À)(vs:List V)(H:Hp)(Q:VK)(d8:XK):Prop
 |mk (p g a b ws ps) (_:vs=[.str p,.str g,.ref a,.ref b]) (_:aL K H a (ws.map V.str)) (_:aL K H b (ps.map V.str)) (_:("":Str)∈ps) (_:p.9<=100) (_:g.9<=10) (_:(ch g).Nodup) (_:ws.9<=1000) (_:∀(d:Addr) (H':Hp),a7 H H'->H d=τ->H' d=ρ (.dK (rowOf g ws ps p))->Q (.ref d) H')
inductive MZ(K:À)(C:Addr)(vs:List V)(H:Hp)(Q:VK)(d8:XK):Prop
 |mk (x dx g a ws) (_:vs=[.ref x,.str g,.ref a]) (_:H x=ρ (.ins C dx [])) (_:aL K H a (ws.map V.str)) (_:eI g) (_:ws.9<=6) (_:(∀w∈ws,fh g w)) (_:∀(ss ls:List Str) (H':Hp),aE C H' x g ws ss ls->(∀b o,H b=ρ o->b≠x->H' b=ρ o)->Q .non H')
end
end _S
namespace K61
section
variable{w:World}{K:À}
structure Txt(mg:Str->Option Value):Prop where
 «ValueError»:mg "ValueError"=τ
 «all»:mg "all"=τ
 «any»:mg "any"=τ
 «bool»:mg "bool"=τ
 «dict»:mg "dict"=τ
 «enum»:mg "enumerate"=τ
 «int»:mg "int"=τ
 «sY»:mg "isinstance"=τ
 «len»:mg "len"=τ
 «list»:mg "list"=τ
 «max»:mg "max"=τ
 «min»:mg "min"=τ
 «range»:mg "range"=τ
 «set»:mg "set"=τ
 «sorted»:mg "sorted"=τ
 «str»:mg "str"=τ
 «sum»:mg "sum"=τ
inductive SK(dq:List (List (Str×Nat)))(rs ys:List Nat)(x rd wl a:Addr)(d z:Nat)(H:Hp)(i:Nat)(σ:St)(H5:Hp):Prop
 |mk (ad v5 v6) (_:σ=[ρ (.ref x),ρ (.int (d:Int)),ρ (.ref rd),ρ (.ref wl),ρ (.ref a),v5,v6]) (_:a7 H H5) (_:H5 rd=ρ (.dK (dB (rs++ad)))) (_:H5 wl=ρ (.lst ((nI (ys++ad)).map V.int))) (_:(rs++ad).Nodup) (_:∀r∈rs++ad,r<dq.9) (_:∀q∈(dq.getD z []).take i,q.2∈rs++ad)
theorem SK.s{wl:Addr}(q:SK g rs ys x rd wl a d z H i σ j):a7 H j:=by
 let{_,_,_,_,h,_}:=q
 exact h
inductive N0(C:Addr)(vs:List V)(H:Hp)(Q:VK)(d8:XK):Prop
 |mk (x:Addr) (many:Int) (n:Nat) (g:Str) (bw ss ls:List Str) (_:vs=[.ref x,.int many,.int (n:Int)]) (_:aE C H x g bw ss ls) (_:g.9<=10) (_:ss.9<=900) (_:lD g.length many n) (_:Q6 g bw ss many n) (_:∀H',a7 H H'->Q .non H')
set_option genInjectivity true in
inductive hF(g:Str):Int->Nat->List Str->List Str->List Str->List O8->List Nat->List Str->List Int->List (List (Str×Nat))->Prop
 |mk (h2:2<=g.9) (h4:g.9<=4):hF g 2 2 [] [""] [""] [] [0] [""] [1] [dF g]
inductive N1(K:À)(C CP CS CR:Addr)(vs:List V)(H:Hp)(Q:VK)(E:XK):Prop
 |ok (x:Addr) (g:Str) (many:Int) (n:Nat) (bw ss ls:List Str) (A5:List O8) (ks:List Nat) (hs:List Str) (ws:List Int) (dq:List (List (Str×Nat))) (_:vs=[.ref x,.int many,.int (n:Int)]) (_:hF g many n bw ss ls A5 ks hs ws dq) (_:aE C H x g bw ss ls) (_:(ch g).Nodup) (_:∀(y:Addr) (f:Str->Int) (H':Hp),a7 H H'->qZ K CP CS (aH H H') y (cE f ls) A5 ks hs ws dq->Q (.ref y) H')
 |no (x:Addr) (v u:V) (_:vs=[.ref x,v,u]) (_:SJ C CR x v u H E)
theorem hF.WG(F:hF g many n bw ss ls j r t ws l)(p:oY bw n b):b=0:=by
 let{d,f}:=F
 let{M,c,e}:=p.is
 rcases c.a with⟨rfl,_⟩ |⟨w,hw,_⟩
 .rw[if_pos ⋯]at e;have:((0:Int)+(2:Nat)-1)/(2:Nat)=0:=⋯;omega
 .cases hw
inductive N2(C:Addr)(vs:List V)(H:Hp)(Q:VK)(d8:XK):Prop
 |mk (x g ws ss ls) (_:vs=[.ref x,.str ""]) (_:aE C H x g ws ss ls) (_:∀H',a7 H H'->Q .non H')
inductive N3(C:Addr)(vs:List V)(H:Hp)(Q:VK)(d8:XK):Prop
 |mk (x g ws ss ls) (_:vs=[.ref x,.str ""]) (_:aE C H x g ws ss ls) (_:∀H',a7 H H'->Q (.str "") H')
inductive N4(C:Addr)(vs:List V)(H:Hp)(Q:VK)(d8:XK):Prop
 |mk (x g ws ss ls) (_:vs=[.ref x,.str ""]) (_:aE C H x g ws ss ls) (_:g.9<=10) (_:ss.9<=900) (_:∀H',a7 H H'->Q (.int 0) H')
inductive N5(C CN:Addr)(vs:List V)(H:Hp)(Q:VK)(E:XK):Prop
 |ok (x:Addr) (g:Str) (ws ss ls:List Str) (_:vs=[.ref x,.int 0,.int 0]) (_:aE C H x g ws ss ls) (_:g.9<=10) (_:ss.9<=900) (_:∀H',a7 H H'->Q (.str "") H')
 |no (x:Addr) (n:Nat) (q:Int) (g:Str) (ws ss ls:List Str) (_:vs=[.ref x,.int (n:Int),.int q]) (_:aE C H x g ws ss ls) (_:g.9<=10) (_:ss.9<=900) (_:n<=1000) (_:dW g ws ss n ""<=q) (_:0<=q) (_:∀H',a7 H H'->E (.ref CN) τ H')
structure Aa(R:Wr):Prop where
 b:R.b=0
 c:R.c=0
noncomputable def iq(w:Str):Bool:=!(decide (w.9<1) ||decide (60<w.9))&&(!(decide ((ch w).headD 0=48) && !decide (w="0"))&&(ch w).all λc=>FN ({#[c]}:Str) "0123456789")
inductive N6(vs:List V)(H:Hp)(Q:VK)(d8:XK):Prop
 |mk (z) (_:vs=[.str z]) (_:z.9<=1000) (_:∀H',a7 H H'->Q (.bl (iq z)) H')
inductive Kk(K:À)(vs:List V)(H:Hp)(Q:VK)(d8:XK):Prop
 |mk (a:Addr) (os:List Str) (_:vs=[.ref a]) (_:aL K H a (os.map V.str)) (_:os.9<=1000) (_:∀w∈os,w.9<=1000) (_:∀H',a7 H H'->Q (.bl (os.all iq)) H')
noncomputable def Ab(w:Str):Bool:=iq w&&(match intText? w with |some n=>decide (n<=200) |none=>false)
noncomputable def xU(w:Str):Bool:=!iq w ||(intText? w).isSome
inductive N7(vs:List V)(H:Hp)(Q:VK)(d8:XK):Prop
 |mk (z) (_:vs=[.str z]) (_:z.9<=600) (_:xU z=true) (_:∀H',a7 H H'->Q (.bl (Ab z)) H')
noncomputable def cq(f:Str)(os:List Str):Bool:=
 if f="band" then decide (0<os.9)
 else if f="write" then os.all iq
 else if f="number"\/f="read" then decide (os.9=1)
 else if f="count" then decide (os.9=1)&&Ab (os.getD 0 "")
 else if f="row" then decide (os.9=2)&&(Ab (os.getD 0 "")&&iq (os.getD 1 ""))
 else if f="rate"\/f="touched" then decide (os.9=2)&&os.all iq
 else false
inductive N8(K:À)(vs:List V)(H:Hp)(Q:VK)(d8:XK):Prop
 |mk (f os a) (_:vs=[.str f,.ref a]) (_:aL K H a (os.map V.str)) (_:os.9<=1000) (_:∀w∈os,w.9<=600) (_:f="band"\/os.all xU=true) (_:∀H',a7 H H'->Q (.bl (cq f os)) H')
noncomputable abbrev uX(g:Str):Wr:=⟨g,[],[""],[""],[""],2,2,0,0,sX [dF g] [0] 2⟩
inductive HN(K:À)(CB CN:Addr)(vs:List V)(H:Hp)(Q:VK)(E:XK):Prop
 |cnt (x a:Addr) (g:Str) (ws ss ls:List Str) (w:Str) (n:Nat) (_:vs=[.ref x,.str "count",.ref a]) (_:aL K H a [.str w]) (_:intText? w=ρ (n:Int)) (_:w.9<=600) (_:n<=200) (_:aE CB H x g ws ss ls) (_:g.9<=4) (_:ss.9<=900) (_:∀H',a7 H H'->Q (.str (æ (toString (dW g ws ss n "")))) H')
 |row (x a:Addr) (g:Str) (ws ss ls:List Str) (w u:Str) (_:vs=[.ref x,.str "row",.ref a]) (_:aL K H a [.str w,.str u]) (_:intText? w=ρ 0) (_:intText? u=ρ 0) (_:w.9<=600) (_:u.9<=600) (_:aE CB H x g ws ss ls) (_:g.9<=4) (_:ss.9<=900) (_:∀H',a7 H H'->Q (.str "") H')
 |rown (x a:Addr) (g:Str) (ws ss ls:List Str) (w u:Str) (n:Nat) (q:Int) (_:vs=[.ref x,.str "row",.ref a]) (_:aL K H a [.str w,.str u]) (_:intText? w=ρ (n:Int)) (_:intText? u=ρ q) (_:w.9<=600) (_:u.9<=600) (_:n<=200) (_:aE CB H x g ws ss ls) (_:g.9<=4) (_:ss.9<=900) (_:dW g ws ss n ""<=q) (_:0<=q) (_:∀H',a7 H H'->E (.ref CN) τ H')
 |num (x a:Addr) (g:Str) (ws ss ls:List Str) (_:vs=[.ref x,.str "number",.ref a]) (_:aL K H a [.str ""]) (_:aE CB H x g ws ss ls) (_:g.9<=4) (_:ss.9<=900) (_:∀H',a7 H H'->Q (.str "0") H')
theorem pj:di ["band","first","others"] ["band","first","others"] (ax (top 100)):={rfl,rfl,rfl,∅,rfl,∅,∅}
theorem Ac{g:Addr}{v:V}{H H':Hp}{E:XK}(h:Ln g v H E)(s:a7 H H'):Ln g v H' E:=λd a s2 f b=>h d a (s.trans s2) (none_of s f) b
theorem n0:di ["writer","first","others"] ["writer","first","others"] (ax (top 101)):={rfl,rfl,rfl,∅,rfl,∅,∅}
noncomputable def EK(ps:List Str):Bool:=ps.all (λp=>!(ch p).contains 32)&&(decide ((Ó SP ps).9<=1000)&&(decide (ps.9<=900)&&((ps.drop 1).all (λw=>decide (w.9<=600))&&(ps.drop 1).all xU)))
theorem N9:lB.all (λps=>EK ps && !cq (ps.headD "") (ps.drop 1))=true:=∅
theorem Dw:∀j:Fin 16,EK (cx.getD j.1 [])=true/\cq ((cx.getD j.1 []).headD "") ((cx.getD j.1 []).drop 1)=true/\¬(cx.getD j.1 []).headD ""="band"/\cx.getD j.1 []≠[]:=∅
theorem Cb{C:Addr}{H:Hp}{j:Addr}{g:Str}{bw ss ls:List Str}(B:aE C H j g bw ss ls)(ul:bw.9<=6)(wd:∀w∈bw,fh g w):ss.9<=900:=by
 have:=mM (ws:=bw) (e:="") (us:=bw) λw hw=>(wd w hw).hi;rw[B.pm.length_eq];omega
theorem Nb:∀j:Fin 16,(decide (á (cT j.1) τ (ρ 4)="row ") && !decide (cT j.1="row 0 0"))=decide (fK.getD j.1 0=8)/\(decide (á (cT j.1) τ (ρ 5)="rate ") && !decide (cT j.1="rate 2 2"))=decide (fK.getD j.1 0=3):=∅
theorem HP:Txt.mul ("9":Str) 60=jI:=∅
theorem Nc:∀j:Fin 16,∀p∈cx.getD j.1 [],32∉ch p:=∅
theorem uY{g:Str}:∀{ws:List Str},(∀w∈ws,fh g w)->(ws.map (·.9)).sum<=ws.9*5
 |[],_=>Ç _
 |w::ws,h=>by
  have:=uY λw hw=>h w (Ø _ hw);have:=(h w Ù).hi;simp only[Í,ÿ,å];omega
inductive Nf(K:À)(vs:List V)(H:Hp)(Q:VK)(d8:XK):Prop
 |mk (a:Addr) (ns:List Int) (p:Int) (_:vs=[.ref a,.int p]) (_:aL K H a (ns.map V.int)) (_:0<=p) (_:∀(t lw:Addr) (g:Str) (ws:List Str) (H':Hp),a7 H H'->H' t=ρ (.tup [.str g,.ref lw,.str (Ó SP ("band" :: g::ws))])->H' lw=ρ (.lst (ws.map V.str))->eI g->ws.9<=6->(∀w∈ws,fh g w)->Q (.ref t) H')
theorem Dx:EK ["rate","2","2"]=true/\cq "rate" ["2","2"]=true/\EK ["write","0"]=true/\cq "write" ["0"]=true:=∅
theorem Ng{ps:List Str}(h:ps∈lB):∃f os,ps=f::os/\EK (f::os)=true/\cq f os=false:=by
 have b:=(by decide+kernel:∀ps∈lB,ps≠[]) ps h;have a:=í.mp N9 ps h
 cases ps with
 |nil=>exact absurd rfl b
 |cons f os=>
  rw[ś,wh5]at a;exact⟨f,os,rfl,a.1,a.2⟩
end
structure Kl(K:À)(C:Addr):Prop where
 cl:wY K C
 tR:bA K C "signs"
 Ad:bA K C "barred"
 mO:bA K C "moves"
 rg:bA K C "lasting"
structure EL(K:À)(C:Addr):Prop where
 cl:wY K C
 pk:bA K C "scheme"
 eW:bA K C "band"
 Cd:bA K C "many"
 uZ:bA K C "wide"
 iB:bA K C "homes"
 fw:bA K C "lines"
 ri:bA K C "opening"
 Dy:bA K C "first"
end K61
namespace _B
theorem Ae{α:Type}[DecidableEq α]:∀{g l:List α},g.Nodup->(∀k∈g,k∈l)->g.9<=l.9
 |[],l,_,_=>à _
 |k::g,l,nd,h=>by
  rw[ι]at nd;have hk:=h k (Ù ..);have:=Ae (l:=l.erase k) nd.2 λj a=>(List.mem_erase_of_ne (λz=>nd.1 (by rw[<-z];exact a))).mpr (h j (Ø _ a));rw[List.length_erase_of_mem hk]at this;have:0<l.9:=List.length_pos_of_mem hk;rw[å]
  lia
theorem pq{n:Nat}{rs:List Nat}(nd:rs.Nodup)(h:∀r∈rs,r<n):rs.9<=n:=by
 have:=Ae nd λr a=>Ŗ.mpr (h r a);rwa[ŉ]at this
structure Dz(g:Str)(ws ss ls:List Str)(many:Int)(n:Nat)(f:Str->Int):Prop where
 gr:∃most:Int,1<=most/\most<=8/\lL g ws ss ls many n most f/\∀(m:Int) (h:Str->Int),1<=m->m<most->lL g ws ss ls many n m h->(ls.map h).sum=0
 ps:0<(ls.map f).sum
 le:(ls.map f).sum<=40
def DA(g:Str)(ws ss ls:List Str)(many:Int)(n:Nat):Prop:=∃most:Int,1<=most/\most<=9/\(∀(m:Int) (h:Str->Int),1<=m->m<most->lL g ws ss ls many n m h->(ls.map h).sum=0)/\(most=9\/∃f,lL g ws ss ls many n most f/\40<(ls.map f).sum)
theorem xV{f h:Str->Int}(a:lL g ws ss ls many n most f)(b:lL g ws ss ls many n most h):∀p∈ls,f p=h p:=λp c=>by
 have d:=a.top h b.le b.fit p c;have e:=b.top f a.le a.fit p c
 lia
theorem ER{f h:Str->Int}(a:lL g ws ss ls many n most f)(b:lL g ws ss ls many n most h):(ls.map f).sum=(ls.map h).sum:=congrArg whl (ļ λp c=>xV a b p c)
noncomputable def xW(wl:List (List (Str×Nat)))(s:Str×Nat)(t:Nat):Str×Nat:=(s.1++((wl.getD s.2 []).getD t ("",0)).1,((wl.getD s.2 []).getD t ("",0)).2)
noncomputable def eJ(wl:List (List (Str×Nat)))(d:Nat)(ts:List Nat):Str×Nat:=ts.foldl (xW wl) ("",d)
theorem EV(wl:List (List (Str×Nat)))(d:Nat)(ts:List Nat)(t:Nat):eJ wl d (ts++[t])=xW wl (eJ wl d ts) t:=by
 delta eJ;rw[we4];rfl
noncomputable def Wr.o(R:Wr):Str×Nat:=eJ R.wl 0 (Ú R.b 0)
theorem gN.put{wl:List (List (Str×Nat))}(h:gN H a wl)(j:H z=ρ (.ins C d f))(o:HO):gN (upd H z o) a wl:=by
 let{g,k,m}:=h
 have n:∀{c u},H c=ρ u->(∀x y q,u≠.ins x y q)->(upd H z o) c=ρ u:=λ{c u} e q=>by rw[a9 (λy=>by rw[y,j]at e;cases e;exact q _ _ _ rfl)];exact e
 refine{g,n k (λ_ _ _ z=>nomatch z),λw=>?_};rcases m w with z |⟨l,p,ps,a,b,c,d⟩
 .exact .inl z
 .exact .inr {l,p,ps,a,n b (λ_ _ _ z=>nomatch z),{c.1,λi r s x y=>n (c.2 i r s x y) (λ_ _ _ z=>nomatch z)},d}
structure dm(H0 H:Hp)(a:Addr)(done:List wt):Prop where
 s:a7 H0 H
 fa:H0 a=τ
 ex:∃kvs:List (Key×V),H a=ρ (.dK kvs)/\kvs.9<=done.9 /\
  (∀w:Str,(bD kvs (Ã w:Key)=τ/\pairsOf done w=[])\/∃(l:Addr) (rs:List Addr),bD kvs (Ã w:Key)=ρ (.ref l)/\H0 l=τ/\H l=ρ (.lst (rs.map V.ref))/\bq H rs ((pairsOf done w).map nq)) /\
  ∀(w v:Str) (l:Addr),bD kvs (Ã w:Key)=ρ (.ref l)->bD kvs (Ã v:Key)=ρ (.ref l)->w=v
theorem dm.add{p H:Hp}{done:List wt}{w:Str}{i e:Nat}{l:Addr}{rs:List Addr}{g:List (Key×V)}(s:a7 p H)(fa:p a=τ)(hk:H a=ρ (.dK g))(hl:g.9<=done.9+1)
 (hw:bD g (Ã w:Key)=ρ (.ref l)) (fl:p l=τ) (t:H l=ρ (.lst (rs.map V.ref))) (C:bq H rs ((pairsOf done w).map nq))
 (I:∀v:Str,v≠w->(bD g (Ã v:Key)=τ/\pairsOf done v=[])\/∃(l:Addr) (rs:List Addr),bD g (Ã v:Key)=ρ (.ref l)/\p l=τ/\H l=ρ (.lst (rs.map V.ref))/\bq H rs ((pairsOf done v).map nq))
 (hi:∀(w v:Str) (l:Addr),bD g (Ã w:Key)=ρ (.ref l)->bD g (Ã v:Key)=ρ (.ref l)->w=v) (j:H r=τ) :
 dm p (upd (upd H r (.tup (nq (i,e)))) l (.lst (rs.map V.ref++[.ref r]))) a (done++[(i,w,e)]):=by
 have k:r≠l:=λz=>by rw[z,t]at j;cases j
 have m:a≠l:=λz=>by rw[z,t]at hk;cases hk
 have n:a≠r:=λz=>by rw[z,j]at hk;cases hk
 have c:∀{q:Addr} {d:List V},H q=ρ (.tup d)->(upd (upd H r (.tup (nq (i,e)))) l (.lst (rs.map V.ref++[.ref r]))) q=ρ (.tup d):=λ{q d} h=>by
  have n1:q≠l:=λz=>by rw[z,t]at h;cases h
  have f:q≠r:=λz=>by rw[z,j]at h;cases h
  rw[a9 n1,a9 f];exact h
 refine{λb o h=>?_,fa,g,by rw[a9 m,a9 n];exact hk,by rw[Ò];exact hl,λv=>?_,hi}
 .have n1:b≠l:=λz=>by rw[z,fl]at h;cases h
  have f:b≠r:=λz=>by have:=s _ _ h;rw[z,j]at this;cases this
  rw[a9 n1,a9 f];exact s _ _ h
 rw[yO]
 by_cases z:v=w
 .subst z;rw[if_pos rfl];refine .inr {l,rs++[r],hw,fl,by rw[a6,Û];rfl,?_};rw[Û];have B:bq (upd (upd H r (.tup (nq (i,e)))) l (.lst (rs.map V.ref++[.ref r]))) rs ((pairsOf done v).map nq):={C.1,λi q d a b=>c (C.2 i q d a b)};exact bq.app B (by rw[a9 k,a6])
 .rw[if_neg z];rcases I v z with y |⟨u,x,a1,a2,a3,A⟩
  .exact .inl y
  .have n1:u≠l:=λy=>z (hi v w l (by rw[<-y];exact a1) hw);have f:u≠r:=λy=>by rw[y,j]at a3;cases a3
   exact .inr {u,x,a1,a2,by rw[a9 n1,a9 f];exact a3,{A.1,λi q d a b=>c (A.2 i q d a b)}}
theorem HQ{g j l:Hp}(s:a7 g j):a7 g (lA g j l):=λc o h=>by
 unfold lA;rw[s _ _ h];exact h
theorem HR{l g j:Hp}:a7 (aH g j) (lA l g j):=λc o h=>by
 unfold aH at h;unfold lA
 cases e:g c with
 |none=>rw[e]at h;exact h
 |some u=>rw[e]at h;cases h
theorem dm.back{g B H:Hp}{done:List wt}(M:dm B H a done)(s:a7 g B):dm g H a done:=by
 let{c,fa,b,d,e,f,h}:=M
 refine{s.trans c,none_of s fa,b,d,e,λw=>?_,h};rcases f w with z |⟨l,i,a1,a2,a3⟩
 .exact .inl z
 .exact .inr {l,i,a1,none_of s a2,a3}
theorem dm.done{g H:Hp}{wl:List (List (Str×Nat))}(h:dm g H a (cZ wl wl.9))(hl:(cZ wl wl.9).9<=1000):gN H a wl:=by
 let{_,_,b,d,m,f,n}:=h
 refine{b,d,λw=>?_};have c:=λi e=>(zV (cZ wl wl.9) w i e).trans EC;rcases f w with⟨z,y⟩ |⟨l,j,a1,a2,a3,k⟩
 .refine .inl {z,λi e q=>?_};have:=(c i e).mpr q;rw[y]at this;cases this
 .refine .inr {l,j,_,a1,a3,k,?_,c};delta pairsOf;rw[Á];exact Õ (ě ..) hl
end _B
namespace _L
open PySem.Spec PyProof.Rows
section
variable{P:É}{w:World}{K:À}{mg:Str->Option Value}{base:Heap}{x qual:Str}{st:Stmt}{f:Addr}{fd:î}{N ps:List Str}{k:Nat}{sp:Sp}
theorem zo.d2(F:zo K x qual st f fd)
 (l:∀(j:Value) (A:Around) (outer:List Env) (s:Shared) (H:Hp) (vs:List V) (Q:VK) (E:XK),N.Nodup->cO k (A.deeper (envOfC qual (ax st) s.heap.objs.size f j))->sp vs H Q E ->
   ∃t,yz (sU cz P w K mg base N qual (ax st) f j A outer s H E).Ja (ck st) t/\t (Ends.fn Q) (start N vs) H)
 (a:(ax st).kind=.function:=by rfl) (b:(ax st).isCoroutine=false:=by rfl) (c:(ax st).isGenerator=false:=by rfl) (nd:N.Nodup:=by decide+kernel) (e:N.take ps.9=ps:=by rfl)
 (g:∀x∈ps,(ax st).names.lookup x=ρ .local\/(ax st).names.lookup x=ρ .cell:=by decide+kernel) (h:∀y∈(ax st).names,y.2≠.free:=by decide+kernel)
 (len:∀vs H Q E,sp vs H Q E->vs.9=ps.9:=by intro _ _ _ _ h;cases h;subst_vars;rfl):aI P w K mg base cz (k+1) f fd ps sp:=
 F.ok ⟨a,b,c,nd,e,g,h⟩ len λj A outer s H vs Q E=>l j A outer s H vs Q E nd
theorem zo.Nh(F:zo K x qual st f fd)
 (l:∀(j:Value) (A:Around) (outer:List Env) (s:Shared) (H:Hp) (vs:List V) (Q:VK) (E:XK),N.Nodup->cO k (A.deeper (envOfC qual (ax st) s.heap.objs.size f j))->sp vs H Q E ->
   ∃t,yz (sU (qH P w) P w K mg base N qual (ax st) f j A outer s H E) (ck st) t/\t (Ends.fn Q) (start N vs) H)
 (a:(ax st).kind=.function:=by rfl) (b:(ax st).isCoroutine=false:=by rfl) (c:(ax st).isGenerator=false:=by rfl) (nd:N.Nodup:=by decide+kernel) (e:N.take ps.9=ps:=by rfl)
 (g:∀x∈ps,(ax st).names.lookup x=ρ .local\/(ax st).names.lookup x=ρ .cell:=by decide+kernel) (h:∀y∈(ax st).names,y.2≠.free:=by decide+kernel)
 (len:∀vs H Q E,sp vs H Q E->vs.9=ps.9:=by intro _ _ _ _ h;cases h;subst_vars;rfl):aI P w K mg base (qH P w) (k+1) f fd ps sp:=
 F.K8 ⟨a,b,c,nd,e,g,h⟩ len λj A outer s H vs Q E=>l j A outer s H vs Q E nd
theorem hH{ss:List Str}(nd:ss.Nodup){i:Nat}{p:Str}(h:ss[i]?=ρ p):p∉ss.take i:=by
 intro b
 let{j,c,a}:=weB.mp b
 rw[wf8]at a;rw[â]at c;have d:=(Ô.mp h).2;have:=(Ρ nd).mp (a.trans d.symm)
 lia
theorem bq.same(t:bq H rs g)(s:a7 H H'):bq H' rs g:=t.keep λr a h=>s _ _ h
theorem Rd.same(h:Rd H a u)(s:a7 H H'):Rd H' a u:=by
 rcases h with h |⟨o,h⟩
 .exact .inl (s _ _ h)
 .exact .inr {o,s _ _ h}
theorem qW.WH{lo:Nat}{H:Hp}{h:Heap}{e C:Addr}{od:Option Addr}(F:qW lo H h e C od .none):DW lo H h e C od:=by
 let{g,n,a,b,T,c,d,f,i,j,k,l,m,o,p,q}:=F
 exact{g,n,a,b,f,i,.inr ⟨T,c,d,j,k,l,m,o,p,q⟩}
def HS(X:Cx)(E:XK):Prop:=∀(pins:List (Addr×Obj)) (σ:St) (H:Hp) (s:Shared) (e C L:Addr) (od:Option Addr),X.env.frame=ρ L->Inv X pins σ H s->qW X.s₀.heap.objs.size H s.heap e C od (rawInt L)->E (.ref C) od H->X.xe (.ref e) s
end
section
variable{X:Cx}{e:Expr}{es:List Expr}{te:TE}{t:TJ}{pos:Pos}
theorem Ni(he:PE X e te)(h:PJ X es t):PJ X (.FormattedValue e (-1) τ pos::es) (Sf te t):={λa s σ H j Q I q=>by
 refine joinParts_cons (FormattedValue_plain (bU (he a s σ H _ I q) λv s1 ⟨y,d,f,g,k⟩=>?_));rcases k with⟨i,rfl,hl,b,c⟩ |⟨rfl,b,c⟩
 .let{l,rfl}:=g
  exact formatField_int_small hl {b,h a _ σ d _ Q (f.tok _) c}
 .cases g
  exact wpAny_formatField_none {b,h a _ σ d _ Q (f.tok _) c}}
theorem dY:d7 X (.type "int") (λxs H Q=>∃(x:Str) (n:Int),xs=[.str x]/\PySem.intText? x=ρ n/\x.9<=640/\Q (.int n) H):=by
 intro a s σ H xs c Q I r h
 let{x,n,rfl,hn,hl,q}:=h
 let{u,rfl,b}:=vals1 r
 let{t,rfl}:=b
 exact PySem.W.KIN.call_text hn hl {.int n,H,I.tok _,{_,rfl},q}
end
section
variable{X:Cx}{H:Hp}{scope:ý}{x x2 x3:Str}{ys:List Str}{ix:List Nat}{cl:List (Str×Addr)}{L:Addr}
theorem HU(hc:X.calm=true)(B:bZ X scope x ys ix)(g:bZ X scope x2 ys ix)(j:x≠x2)(cl L s H ex pn):PG (bB X scope ([x,x2]++ys) cl L s H ex pn) (.Tuple [.Name x p,.Name x2 l] r pt) (FV X.K 2 (kU (cA 0) (kU (cA 1) FU))):=by
 have c:(relabel scope X.5).names.lookup x=ρ .local:=ω B.var;have a:(relabel scope X.5).names.lookup x2=ρ .local:=ω g.var
 have b:(x::x2::ys).Nodup:=by
  have:=B.nd;have:=g.nd
  grind
 exact eV hc (aS (iw b rfl (.inl c) (.inr c)) (aS (iw b rfl (.inl a) (.inr a)) cW))
theorem HV(hc:X.calm=true)(B:bZ X scope x ys ix)(g:bZ X scope x2 ys ix)(j:bZ X scope x3 ys ix)(l:x≠x2/\x≠x3/\x2≠x3)(cl L s H ex pn):PG (bB X scope ([x,x2,x3]++ys) cl L s H ex pn) (.Tuple [.Name x t,.Name x2 p,.Name x3 r] C pt) (FV X.K 3 (kU (cA 0) (kU (cA 1) (kU (cA 2) FU)))):=by
 have d:(relabel scope X.5).names.lookup x=ρ .local:=ω B.var;have b:(relabel scope X.5).names.lookup x2=ρ .local:=ω g.var;have c:(relabel scope X.5).names.lookup x3=ρ .local:=ω j.var
 have a:(x::x2::x3::ys).Nodup:=by
  have:=B.nd;have:=g.nd;have:=j.nd
  grind
 exact eV hc (aS (iw a rfl (.inl d) (.inr d)) (aS (iw a rfl (.inl b) (.inr b)) (aS (iw a rfl (.inl c) (.inr c)) cW)))
end
section
variable{M:ė}{A:Around}{E:Value->Shared->Prop}{s:Shared}{env:Env}{e C:Addr}{od:Option Addr}{lo:Nat}{H:Hp}{fl:Value}
theorem iE{Q:Unit->Shared->Prop}(p:Option Addr)(F:qW lo H s.heap e C od fl)(h:∀h',qW lo H h' e C od (p.elim .none λf=>rawInt f)->(∀b o,s.heap.get? b=ρ o->(b<lo\/H b≠τ\/∀vs,o.data≠.fields vs)->h'.get? b=ρ o)->Q .unit {s with heap:=h'}) :
 wpAny M A (ń (.ref e) p) Q E s:=by
 let{k,l,vs,u,T,x,v,r,m,t,c,i,j,n,a,w}:=F
 have d:3<v.size:=(wcJ.mp w).1;unfold ń;refine Â (Ď r rfl t ?_);rw[if_pos (show (Ä T != ä)=true from by simp)];refine ū n a d (h _ {k,l,vs,u,T,_,_,?_,m,t,c,i,j,ō _ n (wcE (œ a _)),œ a _,by simp[d]} λb o q g=>?_)
 .exact(þ _ _ j).trans r
 .refine(þ _ _ ?_).trans q;rintro rfl;rcases g with g |g |g
  .exact absurd (Ö g c) (ò _)
  .exact g i
  .rw[n]at q;cases q;exact g _ a
theorem HW{α:Type}{Q:α->Shared->Prop}{g:String}(F:qW lo H s.heap e C od fl)(h:∀h',qW lo H h' e C od (env.frame.elim .none λf=>rawInt f)->(∀b o,s.heap.get? b=ρ o->(b<lo\/H b≠τ\/∀vs,o.data≠.fields vs)->h'.get? b=ρ o)->E (.ref e) {s with heap:=h'}) :
 wpAny M A (PySem.passOn g (.ref e) env:Sem α) Q E s:=by
 let{vs,j,T,l,m,c,d,i,_}:=id F.ob
 unfold PySem.passOn;refine Â (Ď c rfl i ?_);rw[if_neg (show ¬((Ä T==ä)=true) from by simp)]
 first
  |exact Â (Ë (Â (iE _ F λh' a k=>wpAny_throw (h h' a k))))
  |exact Â (iE _ F λh' a k=>wpAny_throw (h h' a k))
end
section
variable{X:Cx}{pos:Pos}{o e:Expr}{f:Str}{ta:TE}{te:Jt}{pos':Pos}
theorem Km(ha:PE X.Ja o ta)(he:QY X e te)(g:Ě e (ρ (.Attribute o f pos')) pos.line X.5=pure false):RZ X (.Assign [.Attribute o f pos'] e pos) (Sr X.K ta te f):=by
 refine{?_};intro b s σ H D E I h;refine wcY (ß (he b s σ H _ (E σ) I h) (λu s1 ⟨y,i,j,k,q⟩=>Gd (bU (ha b s1 σ i _ (j.kT _) q) λm s2 p=>?_)) λA s1 z=>⟨σ,z⟩) g
 let{x,B,d,r,a,C,G,fs,ex,t,c,n,l,v}:=p
 have d:=d.eS;subst ex;obtain rfl:m=Ä a:=r;exact uz d t c n l k λJ w=>{σ,_,w,v}
end
section
variable{M:ė}{A:Around}{E:Value->Shared->Prop}{s:Shared}{env:Env}{L e C:Addr}{od:Option Addr}{lo:Nat}{H:Hp}
theorem Nj{Q:Unit->Shared->Prop}(g:env.frame=ρ L)(F:qW lo H s.heap e C od (rawInt L))(h:∀h',DW lo H h' e C od->(∀b o,s.heap.get? b=ρ o->(b<lo\/H b≠τ\/∀vs,o.data≠.fields vs)->h'.get? b=ρ o)->Q .unit {s with heap:=h'}) :
 wpAny M A («leaving» env (.ref e)) Q E s:=by
 let{vs,m,T,n,p,c,d,f,_,_,_,i,a,j}:=id F.ob
 unfold «leaving» Β;simp only[g];refine Â (Â (Ď c rfl f ?_));rw[if_pos (show (Ä T != ä)=true from by simp)];refine Â (Ď i a j ?_);rw[if_pos (show (rawInt L==rawInt L)=true from by simp)];refine Ë (iE τ F λh' l k=>h h' l.WH k)
end
section
variable{P:É}{w:World}{K:À}{mg:Str->Option Value}{base:Heap}{N:List Str}{qual:Str}{scope:ý}{f:Addr}{cd:Value}{A:Around}{outer:List Env}{s:Shared}{H:Hp}{E:XK}
theorem EW:HS (sU (qH P w) P w K mg base N qual scope f cd A outer s H E) E:=by
 intro v σ x s1 e C L D G I F J;show wpAny (model P w) _ («leaving» _ (.ref e)) (λ_ h=>qH P w outer H s E (.ref e) h) (λM h=>qH P w outer H s E M h) s1;refine Nj G F λy O k=>?_;have q:=I.mI;have KU:=I.stack
 have B:∀b∈(envOfC qual scope s.heap.objs.size f cd::outer).filterMap (·.frame),∀o,s1.heap.get? b=ρ o->y.get? b=ρ o:=λb g o a=>by
  let{_,l,j,r}:=KU.mem g
  rw[a]at j;cases j;exact k b o a (.inr (.inr r))
 have p:yy s.heap.objs.size x ((envOfC qual scope s.heap.objs.size f cd::outer).filterMap (·.frame)) s1.heap y:={λb o a d _=>k b o a (d.elim .inl λz=>.inr (.inl z)),λb o a g=>{o.slots,B b g o a}}
 have i:∀b o,s.heap.get? b=ρ o->b∉oI outer->b∉(envOfC qual scope s.heap.objs.size f cd::outer).filterMap (·.frame):=λb o a hn g=>by
  rcases Þ.mp (show b∈s.8::oI outer from g) with z |z
  .exact absurd (Æ a) (by rw[z];exact ò _)
  .exact hn z
 refine{e,C,D,x,rfl,I.os,I.bare,?_,I.b7.past p q,O,J};have u:=I.base;refine{λb o a n c d=>?_,λb o a n c d=>?_,λb o a n d=>u.free b o a n d,λb o a d=>?_,u.nY,u.mY,u.nZ}
 .exact p.keep b o (u.keep b o a n c d) (.inl (Æ a)) (i b o a c)
 .let{R,m}:=u.slot b o a n c d
  let{t,Q}:=p.slot b _ m (show b∈s.8::oI outer from Ø _ c)
  exact⟨t,Q⟩
 .let{l,m}:=u.there b o a d
  by_cases g:b∈(envOfC qual scope s.heap.objs.size f cd::outer).filterMap (·.frame)
  .exact{_,B b g l m}
  .exact{l,p.keep b l m (.inl (Æ a)) g}
end
end _L
namespace _A
section
variable{W:List (List Nat)}{P:List Nat->Bool}{l:List Nat}{c:Nat}
def Good(W:List (List Nat))(l:List Nat):Prop:=∀w∈W,¬w <:+: l
noncomputable def jR(P:List Nat->Bool):List Nat->List Nat
 |[]=>[]
 |a::l=>if P (a::l)=true then a::l else jR P l
theorem ja:∀l,jR P l <:+ l
 |[]=>wfq _
 |a::l=>by
  unfold jR;split
  .exact wfq _
  .exact(ja l).trans (List.suffix_cons a l)
theorem va(g:P []=true):∀l,P (jR P l)=true
 |[]=>g
 |a::l=>by
  unfold jR;split
  .assumption
  .exact va g l
theorem Ce(h:w <:+: l++[c]):w <:+: l\/w <:+ l++[c]:=by
 let{a,b,e}:=h
 rcases wg2 b with f |⟨g,d,f⟩
 .right
  subst f;exact{a,by rw[<-e,û]}
 .left
  rw[wg3]at f;subst f;rw[<-ā]at e;exact{a,g,(whm e rfl).1}
end
section
variable{W:List (List Nat)}{p l u:List Nat}{c:Nat}{P:List Nat->Bool}{q:List Nat}
def Pl(W:List (List Nat))(p:List Nat):Prop:=p=[]\/((∃w∈W,p <+: w/\p.9<w.9)/\Good W p)
theorem HX(g:p <:+ q)(j:q <:+ p):p=q:=g.eq_of_length (Nat.le_antisymm g.length_le j.length_le)
end
section
variable{W:List (List Nat)}{l m:List Nat}
theorem Good.sub(h:Good W l)(g:m <:+: l):Good W m:=λw hw hi=>h w hw (hi.trans g)
end
section
variable{W:List (List Nat)}{u:List Nat}{c:Nat}{P:List Nat->Bool}{l q:List Nat}
theorem Pl.init(h:Pl W (u++[c])):Pl W u:=by
 rcases h with h |⟨⟨w,hw,a,hl⟩,b⟩
 .simp at h
 .by_cases e:u=[]
  .exact .inl e
  .refine .inr {{w,hw,(weS u [c]).trans a,?_},b.sub (weS u [c]).isInfix};rw[Ò]at hl;simp at hl
   lia
theorem jb(g:P q=true):∀{l},q <:+ l->q <:+ jR P l
 |[],h=>h
 |a::l,h=>by
  unfold jR;split
  .exact h
  .rename_i hn;rcases List.suffix_cons_iff.mp h with e |h
   .rw[<-e]at hn;exact absurd g hn
   .exact jb g h
end
section
variable{l q u:List Nat}{c:Nat}
theorem Af:∀{q l:List Nat},q <:+ l++[c]->q=[]\/∃u,q=u++[c]/\u <:+ l:=λ{q l} h=>by
 rcases wg2 q with e |⟨u,d,e⟩
 .exact .inl e
 .right
  rw[wg3]at e
  let{t,a}:=h
  subst e;rw[<-ā]at a;have b:=whm a rfl;have hd:d=c:=by simpa using b.2
  exact{u,by rw[hd],t,b.1}
end
section
variable{W:List (List Nat)}{P:List Nat->Bool}{l:List Nat}{c:Nat}
theorem EX(r:∀x,P x=true↔Pl W x)(j:Good W l)(g:∀w∈W,w≠[]):Good W (jR P l++[c])↔Good W (l++[c]):=by
 have f:=ja (P:=P) l;constructor
 .intro h w hw hi;rcases Ce hi with z |z
  .exact j w hw z
  .rcases Af z with e |⟨u,rfl,d⟩
   .exact g w hw e
   .have a:Pl W u:=by
     by_cases e:u=[]
     .exact .inl e
     .exact .inr {{_,hw,weS u [c],by simp},j.sub d.isInfix}
    have:=jb ((r u).mpr a) d
    let{t,b}:=this
    exact h _ hw (show u++[c] <:+ jR P l++[c] from {t,by rw[<-ā,b]}).isInfix
 .intro h
  let{t,b}:=f
  exact h.sub (show jR P l++[c] <:+ l++[c] from {t,by rw[<-ā,b]}).isInfix
theorem Cg(g:∀x,P x=true↔Pl W x)(j:Good W l):jR P (jR P l++[c])=jR P (l++[c]):=by
 have h:=ja (P:=P) l;have b:P []=true:=(g []).mpr (.inl rfl)
 have d:jR P l++[c] <:+ l++[c]:=by
  let{t,f}:=h
  exact{t,by rw[<-ā,f]}
 refine HX (jb (va b _) ((ja _).trans d)) (jb (va b _) ?_);rcases Af (ja (P:=P) (l++[c])) with e |⟨u,e,i⟩
 .rw[e];exact List.nil_suffix
 .have a:=(g _).mp (va b (l++[c]));rw[e]at a ⊢
  let{t,f}:=jb ((g u).mpr a.init) i
  exact{t,by rw[<-ā,f]}
end
end _A
open _A
namespace _B
theorem df(ws:List Str)(r:Str):bears ws r=false↔Good (wl ws) (ch r):=by simp_all [bears,Good,wl,wf3,yT,ch]
theorem mem_keys:k∈d9 ws "" ws↔Pl (wl ws) (ch k):=by
 rw[wx];constructor
 .rintro(rfl |⟨w,hw,i,hi,e,b⟩)
  .exact .inl rfl
  .right
   refine{{ch w,Å.mpr ⟨w,hw,rfl⟩,?_,?_},(df ws k).mp b}
   .rw[e,tO];exact whj _ _
   .rw[e,tO,â,aR];omega
 .rintro(h |⟨⟨v,c,d,hl⟩,f⟩)
  .exact .inl (eE h)
  .by_cases a:ch k=[]
   .exact .inl (eE a)
   let{w,hw,rfl}:=Å.mp c
   right
   rw[aR,aR]at hl;have g:k.length≠0:=λz=>a (jJ z);refine{w,hw,k.9-1,1.0,eE ?_,(df ws k).mpr f};rw[tO,show 1+(k.9-1)=k.length by omega,<-aR k];exact(List.prefix_iff_eq_take.mp d)
theorem HY(g:ss.Perm (d9 ws "" ws))(l:List Nat):Q3 ss l=true↔Pl (wl ws) l:=by
 have e:ch ⟨l.6⟩=l:=rfl;rw[<-e,jM,g.mem_iff,mem_keys]
theorem xX{P:List Nat->Bool}(g:P []=true):∀{l:List Nat} {n:Nat},P (l.drop n)=true->(∀m,m<n->P (l.drop m)=false)->jR P l=l.drop n
 |[],n,_,_=>by simp[jR]
 |a::l,0,b,_=>by
  unfold jR;rw[wg4]at b;rw[if_pos b];rfl
 |a::l,n+1,b,c=>by
  have:=c 0 ();rw[wg4]at this;unfold jR;rw[this,if_neg (by simp),List.drop_succ_cons];exact xX g (by grind) λm d=>by grind
theorem mP(he:("":Str)∈ss)(r:Str):ch (lend ss r)=jR (Q3 ss) (ch r):=by
 have c:∃n,n<=r.9/\gC r n∈ss/\∀m,m<n->gC r m∉ss:=by
  have f:∃n,gC r n∈ss:={r.9,by rw[qU];exact he}
  have key:∀k,(∃n,n<k/\gC r n∈ss/\∀m,m<n->gC r m∉ss)\/∀m,m<k->gC r m∉ss:=by
   intro k
   induction k with
   |zero=>right;intro m a;lia
   |succ k d=>
    rcases d with⟨n,hn,h⟩ |h
    .exact .inl {n,(),h}
    .by_cases hk:gC r k∈ss
     .exact .inl {k,(),hk,h}
     .right
      intro m a
      by_cases e:m=k
      .rw[e];exact hk
      .exact h m ()
  rcases key (r.9+1) with⟨n,hn,h⟩ |h
  .exact{n,(),h}
  .exact absurd (by rw[qU];exact he) (h r.length ())
 let{n,hn,a,hl}:=c
 unfold lend;rw[zQ a hl hn,yU];refine(xX (jM (k:="").mpr he) ?_ λm b=>?_).symm
 .rw[<-yU];exact jM.mpr a
 .rw[<-yU];have:=hl m b;rw[<-jM]at this;simpa using this
theorem vd(he:("":Str)∈ss)(r:Str):lend ss r∈ss:=by
 rw[<-jM,mP he];exact va (jM (k:="").mpr he) _
theorem EY(hw:∀w∈ws,1<=w.9):bears ws ""=false:=by
 refine(df ws "").mpr λw a hi=>?_
 let{v,b,rfl}:=Å.mp a
 have d:=hw v b;have c:=hi.length_le;rw[aR]at c;have:(ch ("":Str)).length=0:=rfl
 lia
theorem Ch(he:("":Str)∈ss)(h:r∈gv g ws ss q):r.2∈ss/\r.1.9=q.1.9+1:=by
 unfold gv at h
 let{c,_,e}:=wdE.mp h
 split at e
 .cases e
 .cases e;exact{vd he _,len_app _ _}
theorem Ag(he:("":Str)∈ss)(j:p∈ss):∀n,∀r∈lE g ws ss p n,r.2∈ss/\r.1.9=n
 |0,r,h=>by
  rw[Ï.mp h];exact⟨j,rfl⟩
 |n+1,r,h=>by
  let{q,a,b}:=wds.mp h
  have:=Ch he b;have:=(Ag he j n q a).2;exact{‹r.2∈ss/\_›.1,()}
theorem cS.same{H H':Hp}{l:Addr}{rs:List Addr}{g:List (Str×Str)}(r:cS H l rs g)(s:a7 H H'):cS H' l rs g:={s _ _ r.l,r.t.same s}
theorem cS.push{H:Hp}{l:Addr}{rs:List Addr}{g:List (Str×Str)}(R:cS H l rs g){r:Addr}(j:H r=τ)(q:Str×Str):cS (upd (upd H r (.tup (lx q))) l (.lst (rs.map V.ref++[.ref r]))) l (rs++[r]) (g++[q]):=by
 have hl:(upd H r (.tup (lx q))) l=ρ (.lst (rs.map V.ref)):=a7.upd j _ _ R.l;refine{by rw[a6,Û];rfl,?_};rw[Û];refine bq.keep ((R.t.same (a7.upd j)).snoc a6) λa b h=>?_;rw[a9 (λz=>by rw[z,hl]at h;cases h)];exact h
structure Above(dq:List (List (Str×Nat)))(many:Int)(ks:List Nat):Prop where
 sub:ks.Sublist (ð dq.9)
 top:∀S,Dm dq many S->∀d∈S,d∈ks
theorem Above.start(g:List (List (Str×Nat)))(many:Int):Above g many (ð g.9):={wh6 _,λS h d hd=>Ŗ.mpr (h d hd).1}
theorem Above.next(h:Above g many j):Above g many (uE g many j):=by
 refine{wdy.trans h.sub,λS a d hd=>é.mpr {h.top S a d hd,decide_eq_true ?_}};have b:=(a d hd).2;have c:=xS (h.top S a) (g.getD d [])
 lia
theorem Above.stays(h:Above g many j)(e:uE g many j=j):Dm g many j:=λd hd=>by
 refine{Ŗ.mp (h.sub.subset hd),?_};rw[<-e]at hd;exact of_decide_eq_true (é.mp hd).2
structure HZ(dq:List (List (Str×Nat)))(many:Int)(ks:List Nat):Prop where
 ab:Above dq many ks
 st:Dm dq many ks
theorem mQ(r:Str):lend [("":Str)] r="":=Ï.mp (vd (Ï.mpr rfl) r)
theorem EZ{g:Str}{ls:List Str}(j:1<=g.9)(lv:M4 [("":Str)] (rowOf g [] [""]) ls):ls=[("":Str)]:=by
 have d:iu (rowOf g [] [""] "") [""]=true:=by
  rw[Ez]
  obtain⟨c,hc⟩:∃c,c∈ch g:=by
   have:0<(ch g).9:=by rw[aR];omega
   exact{(ch g)[0],ă this}
  refine ķ.mpr {""++{#[c]},é.mpr {Å.mpr ⟨c,hc,rfl⟩,rfl},?_};rw[mQ];exact decide_eq_true (Ï.mpr rfl)
 have e:("":Str)∈ls:=lv.most [""] (λk hk=>by
  obtain rfl:=Ï.mp hk
  exact{Ï.mpr rfl,d}) "" (Ï.mpr rfl)
 have f:=lv.sub;have hl:=f.length_le
 match ls,e,f,hl with
 |[a],e,_,_=>rw[Ï.mp e]
 |a::b::r,_,_,hl=>simp at hl
theorem dm.start{H:Hp}(h:H a=τ):dm H (upd H a (.dK [])) a []:=
 {a7.upd h,h,[],a6,Ç _,λ_=>.inl ⟨rfl,rfl⟩,λ_ _ _ h=>nomatch h}
theorem aE.free{C:Addr}{H:Hp}{x:Addr}{g:Str}{ss ls:List Str}(j:1<=g.9)(B:aE C H x g [] ss ls):ss=[("":Str)]/\ls=[("":Str)]:=by
 have e:ss=[("":Str)]:=List.perm_singleton.mp (show ss.Perm [("":Str)] from B.pm);subst e;exact{rfl,EZ j B.lv}
theorem pw(g:Str):∀n,((lE g [] [""] "" n).9=g.length^n)/\∀q∈lE g [] [""] "" n,q.2=""
 |0=>{rfl,λq a=>by rw[Ï.mp a]}
 |n+1=>by
  let{d,f}:=pw g n
  have e:∀q:Str×Str,gv g [] [""] q=(ch g).map λc=>(q.1++{#[c]},("":Str)):=λq=>by
   unfold gv
   have:(λc:Nat=>if bears [] (q.2++{#[c]})=true then τ else ρ (q.1++{#[c]},lend [""] (q.2++{#[c]})))=λc:Nat=>ρ (q.1++{#[c]},("":Str)):=funext λc=>by
    rw[mQ,if_neg (by rw[jO];decide)]
   rw[this];simp
  refine{?_,λq a=>?_}
  .show ((lE g [] [""] "" n).flatMap (gv g [] [""])).9=_;rw[wgv,ļ (g:=λ_=>g.9) λq _=>by rw[e,Á,aR],List.map_const',List.sum_replicate_nat,d,wgP]
  .let{z,_,b}:=wds.mp (show q∈(lE g [] [""] "" n).flatMap (gv g [] [""]) from a)
   rw[e]at b
   let{c,1}:=Å.mp b
   rfl
theorem mR(g:Str):(dF g).9=g.length^2:=by
 unfold dF eF bo;rw[Á,ċ.mpr λq a=>decide_eq_true (Ï.mpr ((pw g 2).2 q (é.mp a).1)),ċ.mpr λq a=>decide_eq_true (Ï.mpr ((pw g 2).2 q a)),(pw g 2).1]
theorem F0{g:Str}{j:List Nat}(h:2<=g.9)(l:HZ [dF g] 2 j):j=[0]:=by
 have b:Dm [dF g] 2 [0]:=λd hd=>by
  rw[Ï.mp hd];refine{whx,?_};show (2:Int)<=((cM [0] (dF g)).9:Int);unfold cM;rw[ċ.mpr λq c=>decide_eq_true (Ï.mpr (r9 g q c)),mR,ŋ];have:=MA h
  lia
 have e:=l.ab.top [0] b 0 (Ï.mpr rfl);have a:j.Sublist [0]:=l.ab.sub
 cases a with
 |cons _ h=>cases h;cases e
 |cons_cons _ h=>cases h;rfl
section
variable{ws ss:List Str}{r:Str}{c:Nat}
theorem xY(g:ss.Perm (d9 ws "" ws))(j:bears ws r=false):lend ss (lend ss r++{#[c]})=lend ss (r++{#[c]}):=by
 have a:("":Str)∈ss:=g.mem_iff.mpr (cp ws);refine eE ?_;rw[mP a,aV,mP a,mP a,aV];exact Cg (HY g) ((df ws r).mp j)
theorem ve(g:ss.Perm (d9 ws "" ws))(j:bears ws r=false)(hw:∀w∈ws,1<=w.9):bears ws (lend ss r++{#[c]})=bears ws (r++{#[c]}):=by
 have b:("":Str)∈ss:=g.mem_iff.mpr (cp ws)
 have a:∀w∈wl ws,w≠[]:=by
  intro w d z
  let{v,e,rfl}:=Å.mp d
  have:=hw v e;rw[<-aR,z]at this;simp at this
 have:=EX (c:=c) (HY g) ((df ws r).mp j) a;rw[show [c]=ch ({#[c]}:Str) from rfl,<-mP b,<-aV,<-aV,<-df,<-df]at this;cases f:bears ws (lend ss r++⟨#[c]⟩)<;>cases h:bears ws (r++⟨#[c]⟩)<;>simp[f,h]at this ⊢
theorem xZ(h:ch a <:+: ch b)(g:bears ws b=false):bears ws a=false:=(df ws a).mpr (((df ws b).mp g).sub h)
theorem Ci(j:ss.Perm (d9 ws "" ws))(hw:∀w∈ws,1<=w.9)(h:p∈ss):bears ws p=false/\lend ss p=p:=by
 have a:("":Str)∈ss:=j.mem_iff.mpr (cp ws);constructor
 .rcases mem_keys.mp (j.mem_iff.mp h) with z |z
  .have:p="":=eE (by rw[z];exact(jJ rfl).symm);rw[this];exact EY hw
  .exact(df ws p).mpr z.2
 .refine eE ?_;rw[mP a];have b:Q3 ss (ch p)=true:=jM.mpr h;exact HX (ja _) (jb b (wfq _))
end
section
variable{g:Str}{ws ss:List Str}{p:Str}
theorem Kn(h:bears ws t=true)(n:Nat):MT g ws t n=[]:=by
 refine List.filter_eq_nil_iff.mpr λr _=>?_
 have:bears ws (t++r)=true:=by
  cases e:bears ws (t++r) with
  |true=>rfl
  |false=>
   have:=xZ (a:=t) (b:=t++r) (by rw[aV];exact List.infix_append [] _ _ |> λz=>by simpa using z) e;rw[h]at this;cases this
 rw[this];decide
theorem DB(j:ss.Perm (d9 ws "" ws))(hw:∀w∈ws,1<=w.9):∀(n:Nat) (t:Str),bears ws t=false->((MT g ws t n).9:Int)=dW g ws ss n (lend ss t)
 |0,t,h=>by rw[Hs h];rfl
 |n+1,t,h=>by
  rw[Ht,HB,wgv]
  have:∀a:List Nat,(((a.map λc=>((MT g ws (t++{#[c]}) n).map λr=>({#[c]}:Str)++r).9).sum:Nat):Int)=(a.map λc=>if bears ws (lend ss t++{#[c]})=true then 0 else dW g ws ss n (lend ss (lend ss t++{#[c]}))).sum:=by
   intro a
   induction a with
   |nil=>rfl
   |cons c a d=>
    rw[Í,Í,ÿ,ÿ,wez,d,Á];congr 1;rw[ve j h hw,xY j h]
    cases b:bears ws (t++⟨#[c]⟩) with
    |true=>rw[Kn b];rfl
    |false=>exact DB j hw n _ b
  exact this _
theorem Ia(h:bears ws (p++a)=true):j8 ws ss p (a++c)=τ:=by
 delta j8;rw[if_pos]
 cases e:bears ws (p++(a++c)) with
 |true=>rfl
 |false=>
  have:=xZ (a:=p++a) (b:=p++(a++c)) (by rw[<-mN,aV (p++a) c];exact{[],ch c,by simp}) e;rw[h]at this;cases this
theorem y0(l:ss.Perm (d9 ws "" ws))(hw:∀w∈ws,1<=w.9)(h:bears ws (p++r)=false):∀j:List Nat,(j.filterMap λc=>if bears ws (lend ss (p++r)++{#[c]})=true then τ else ρ (r++({#[c]}:Str),lend ss (lend ss (p++r)++({#[c]}:Str))))=(j.map λc=>r++({#[c]}:Str)).filterMap (j8 ws ss p)
 |[]=>rfl
 |c::j=>by
  rw[Í,ĕ,ĕ,y0 l hw h j]
  have e:(if bears ws (lend ss (p++r)++{#[c]})=true then τ else ρ (r++({#[c]}:Str),lend ss (lend ss (p++r)++({#[c]}:Str))))=j8 ws ss p (r++{#[c]}):=by
   delta j8;rw[ve l h hw,xY l h,mN]
  rw[e]
theorem Ah(j:ss.Perm (d9 ws "" ws))(hw:∀w∈ws,1<=w.9):∀L:List Str,fx g ws ss (L.filterMap (j8 ws ss p))=(L.flatMap λr=>(ch g).map λc=>r++({#[c]}:Str)).filterMap (j8 ws ss p)
 |[]=>rfl
 |r::L=>by
  rw[Υ,wg5,<-Ah j hw L,ĕ]
  cases h:bears ws (p++r) with
  |true=>
   have e:j8 ws ss p r=τ:=by delta j8;rw[if_pos h]
   rw[e,ly (l:=(ch g).map λc=>r++({#[c]}:Str)) λa ha=>by let{c,1}:=Å.mp ha;exact Ia h];rfl
  |false=>
   have e:j8 ws ss p r=ρ (r,lend ss (p++r)):=by delta j8;rw[if_neg (by rw[h];exact Ý)]
   rw[e,<-y0 j hw h];exact Υ ..
theorem Ai(l:ss.Perm (d9 ws "" ws))(hw:∀w∈ws,1<=w.9)(j:p∈ss):∀n,lE g ws ss p n=(Lp g n).filterMap (j8 ws ss p)
 |0=>by
  let{a,b}:=Ci l hw j
  show [(("":Str),p)]=[("":Str)].filterMap (j8 ws ss p);have e:j8 ws ss p ""=ρ (("":Str),p):=by delta j8;rw[yW,b,if_neg (by rw[a];exact Ý)]
  rw[ĕ,e];rfl
 |n+1=>by
  show fx g ws ss (lE g ws ss p n)=((Lp g n).flatMap λr=>(ch g).map λc=>r++({#[c]}:Str)).filterMap (j8 ws ss p);rw[Ai l hw j n,Ah l hw]
end
theorem Cj(g:Str)(n:Nat)(f:Str->Int):fL g [] [""] [""] n f ""=(g.9:Int)^n*f "":=by
 unfold fL bo;rw[Ai xR (λ_ h=>nomatch h) (Ï.mpr rfl)]
 have e:∀L:List Str,((L.filterMap (j8 [] [""] "")).filter λq=>decide (q.2∈[("":Str)])).map (λq=>f q.2)=L.map λ_=>f "":=by
  intro L
  induction L with
  |nil=>rfl
  |cons r L a=>
   have b:j8 [] [""] "" r=ρ (r,("":Str)):=by
    delta j8;rw[jO,if_neg Ý,mQ]
   rw[ĕ,b];show (((r,("":Str))::L.filterMap (j8 [] [""] "")).filter λq=>decide (q.2∈[("":Str)])).map (λq=>f q.2)=_;rw[Ċ (by exact decide_eq_true (Ï.mpr rfl)),Í,Í,a]
 rw[e,qP,yX,ŋ]
theorem Ib(g:Str)(m:Nat):dW g [] [""] m ""=(g.9:Int)^m:=by
 have a:=DB (g:=g) (ws:=[]) (ss:=[""]) xR (λ_ h=>nomatch h) m "" (jO _);rw[mQ]at a;rw[<-a];delta MT;have:(Jf g m).filter (λr=>!bears [] (""++r))=Jf g m:=ċ.mpr λr _=>rfl;rw[this,<-tP,yX,ŋ]
theorem F1{g:Str}(h:2<=g.9):Q6 g [] [""] 2 2:=λj _ _=>by
 rw[Ib]
 have a:(2:Int)^j<=(2:Int)^(j*2):=by
  rw[Nat.mul_comm,Int.pow_mul];exact mK ⋯ ⋯ j
 have b:(2:Int)^(j*2)<=(g.9:Int)^(j*2):=mK ⋯ () _
 lia
theorem hM{g:Str}(h:2<=g.9):lL g [] [""] [""] 2 2 1 λ_=>1:=by
 refine{λ_ _=>⋯,λ_ _=>⋯,λp a=>?_,λf b _ p a=>b p a};rw[Ï.mp a,Cj];have:=MA h
 lia
theorem vg{g:Str}(h:2<=g.9):¬DA g [] [""] [""] 2 2:=λ⟨most,m1,d,b,hw⟩=>by
 by_cases e:most=1
 .subst e;rcases hw with hw |⟨f,c,a⟩
  .lia
  .have i:=c.le "" (Ï.mpr rfl);have j:(40:Int)<f "" + 0:=a
   lia
 .exact absurd (b 1 _ ⋯ () (hM h)) ⋯
theorem Ck{g:Str}{f:Str->Int}(h:2<=g.9)(j:Dz g [] [""] [""] 2 2 f):f ""=1:=by
 let{most,m1,m8,a,b}:=j.gr
 by_cases e:most=1
 .subst e;exact xV a (hM h) "" (Ï.mpr rfl)
 .exact absurd (b 1 _ ⋯ () (hM h)) ⋯
end _B
namespace K61
section
variable{w:World}{K:À}
inductive WK(g:Str)(ws ss:List Str)(ev:List (Str×Addr))(o:Obj)(x de lt:Addr)(n:Int)(H:Hp)(i:Nat)(σ:St)(H4:Hp):Prop
 |mk (ts:List Addr) (dc:Addr) (v4 v6 v7:Option V) (_:σ=[ρ (.ref x),ρ (.int n),ρ (.ref de),ρ (.ref dc),v4,ρ (.ref lt),v6,v7]) (_:ts.9=i+1) (_:ts[i]?=ρ dc) (_:H4 lt=ρ (.lst (ts.map V.ref))) (_:∀j t,ts[j]?=ρ t->H4 t=ρ (.dK (MU g ws ss j))) (_:H4 de=ρ (.frz o (.dK (cn ev)))) (_:∀m∈ev,H4 m.2=ρ (.lst ((d1 g ws ss m.1).map V.str))) (_:a7 H H4)
inductive Nk(C:Addr)(vs:List V)(H:Hp)(Q:VK)(d8:XK):Prop
 |mk (x:Addr) (many:Int) (n:Nat) (g:Str) (ws ss ls:List Str) (_:vs=[.ref x,.int many,.int (n:Int)]) (_:aE C H x g ws ss ls) (_:2<=g.9) (_:g.9<=10) (_:ss.9<=900) (_:lD g.length many n) (_:(∀(d:Addr) (f:Str->Int) (H':Hp),a7 H H'->H d=τ->H' d=ρ (.dK (bG (cE f ls)))->Dz g ws ss ls many n f->Q (.ref d) H')) (_:¬DA g ws ss ls many n)
theorem hF.facts(F:hF g many n bw ss ls t r p ws j):(∀w∈bw,1<=w.9/\w.9<=900)/\bw.9<=1000/\p.9<=40/\ws.9=p.9/\j.9=p.9/\(∀l∈j,l.9<=10000)/\r.9<=40/\(∀d∈r,d<j.9)/\2<=many/\many<=8/\1<=n/\n<=6:=by
 let{a,b}:=F
 refine{(λw h=>nomatch h),⋯,⋯,rfl,rfl,λl hl=>?_,⋯,λd hd=>?_,⋯,⋯,⋯,⋯}
 .rw[Ï.mp hl,mR];have:g.9=2\/g.9=3\/g.9=4:=1.0;rcases this with h |h |h<;>rw[h]<;>decide
 .rw[Ï.mp hd];exact whx
inductive Nm(K:À)(C CB CP CS CR:Addr)(vs:List V)(H:Hp)(Q:VK)(E:XK):Prop
 |ok (x dx xb:Addr) (g:Str) (many:Int) (n:Nat) (bw ss ls:List Str) (A5:List O8) (ks:List Nat) (hs:List Str) (ws:List Int) (dq:List (List (Str×Nat))) (_:vs=[.ref x,.ref xb,.int many,.int (n:Int)]) (_:hF g many n bw ss ls A5 ks hs ws dq) (_:H x=ρ (.ins C dx [])) (_:aE CB H xb g bw ss ls) (_:(ch g).Nodup) (_:∀(p a l:Addr) (f:Str->Int) (b:Nat) (H':Hp),(∀c o,H c=ρ o->c≠x->H' c=ρ o)->H' x=ρ (.ins C dx (ph p xb many (n:Int) a l (eJ (sX dq ks many.toNat) 0 (Ú b 0)).1 ((eJ (sX dq ks many.toNat) 0 (Ú b 0)).2:Int)))->qZ K CP CS (aH H H') p (cE f ls) A5 ks hs ws dq->bQ K (aH H H') (uS (ks.map λd=>hs.getD d "")) (.ref a)->bQ K (aH H H') (lG (sX dq ks many.toNat)) (.ref l)->oY bw n b->Q .non H')
 |no (x xb:Addr) (v u:V) (_:vs=[.ref x,.ref xb,v,u]) (_:SJ CB CR xb v u H E)
inductive Nn(C:Addr)(vs:List V)(H:Hp)(Q:VK)(d8:XK):Prop
 |mk (x dx) (_:vs=[.ref x]) (_:H x=ρ (.ins C dx [])) (_:∀H',(∀c o,H c=ρ o->c≠x->H' c=ρ o)->H' x=ρ (eD C dx .non .non)->Q .non H')
inductive Np(K:À)(C CB:Addr)(vs:List V)(H:Hp)(Q:VK)(d8:XK):Prop
 |mk (x dx a v w g ws) (_:vs=[.ref x,.str g,.ref a]) (_:H x=ρ (eD C dx v w)) (_:aL K H a (ws.map V.str)) (_:eI g) (_:ws.9<=6) (_:∀w∈ws,fh g w) (_:∀(xb:Addr) (ss ls:List Str) (H':Hp),(∀c o,H c=ρ o->c≠x->H' c=ρ o)->H' x=ρ (eD C dx (.ref xb) .non)->aE CB (fj H' x) xb g ws ss ls->Q (.str "ok") H')
theorem DC{g:Str}(j:eI g):32∉ch g:=λh=>(by decide+kernel:32∉ch iC) (j.sub _ h)
theorem Ko{g w:Str}(j:eI g)(h:fh g w):32∉ch w:=λz=>DC j (h.sub _ z)
end
end K61
namespace _B
open PyProof.Rows PySem.NumText
theorem Ic{a b:List Nat}{c:Nat}{u v:List Nat}(ha:c∉a)(g:c∉b)(h:a++c::u=b++c::v):a=b/\u=v:=by
 induction a generalizing b with
 |nil=>
  cases b with
  |nil=>exact{rfl,(ŵ h).2}
  |cons y b=>exact absurd (Þ.mpr (.inl (ŵ h).1)) g
 |cons x a d=>
  cases b with
  |nil=>exact absurd (Þ.mpr (.inl (ŵ h).1.symm)) ha
  |cons y b=>
   let{rfl,f}:=ŵ h
   let{rfl,e}:=d (λz=>ha (Ø _ z)) (λz=>g (Ø _ z)) f
   exact⟨rfl,e⟩
theorem lM(c:Nat)(x y:Str)(r:List Str):ch (Ó {#[c]} (x::y::r))=ch x++c::ch (Ó {#[c]} (y::r)):=by
 show ch (x++({#[c]}:Str)++Ó {#[c]} (y::r))=_;rw[aV,aV,ā];rfl
theorem Aj(c:Nat):∀{a b:List Str},a≠[]->b≠[]->(∀p∈a,c∉ch p)->(∀p∈b,c∉ch p)->Ó {#[c]} a=Ó {#[c]} b->a=b
 |[],_,h,_,_,_,_=>absurd rfl h
 |_,[],_,h,_,_,_=>absurd rfl h
 |[x],[y],_,_,_,_,h=>by
  have:x=y:=h;rw[this]
 |[x],y::z::r,_,_,ha,_,h=>by
  have e:ch x=_:=congrArg ch (show x=Ó {#[c]} (y::z::r) from h);rw[lM]at e;exact absurd (by rw[e];simp) (ha x (Ï.mpr rfl))
 |x::z::r,[y],_,_,_,d,h=>by
  have e:_=ch y:=congrArg ch (show Ó {#[c]} (x::z::r)=y from h);rw[lM]at e;exact absurd (by rw[<-e];simp) (d y (Ï.mpr rfl))
 |x::j::r,y::k::l,_,_,ha,d,h=>by
  have e:=congrArg ch h;rw[lM,lM]at e
  let{g,i}:=Ic (ha x (Ù ..)) (d y (Ù ..)) e
  rw[eE g,Aj c (by simp) (by simp) (λp f=>ha p (Ø _ f)) (λp f=>d p (Ø _ f)) (eE i)]
theorem Ie(x y:Str):θ x y≠[]:=by
 unfold θ;split
 .simp
 .split
  .simp
  .intro h;have:=congrArg Ĳ h;rw[wfg]at this;cases this
theorem vh(c:Nat){ps:List Str}(h:ps≠[])(g:∀p∈ps,c∉ch p):θ (Ó {#[c]} ps) {#[c]}=ps:=Aj c (Ie _ _) h (wgN _ c) g (wgO _ _)
end _B
namespace _L
open PySem.Spec PyProof.Rows Builtin Builtin.ObjectAttr
section
variable{K:À}{x C CB:Addr}{nm:Str}{od:Option Addr}
def ExcAt(x C:Addr)(od:Option Addr)(h:Heap):Prop:=(∃vs sl,h.get? x=ρ {.ref C,od,.fields vs,sl})/\∀d,od=ρ d->∃o,h.get? d=ρ o
theorem ExcAt.inst(e:ExcAt x C od h):∃ox o,InstAt h x ox C o:=by
 let{{c,f,a},hd}:=e
 cases od with
 |none=>exact{_,τ,a,rfl,rfl,trivial}
 |some d=>
  let{o,b}:=hd d rfl
  exact{_,ρ o,a,rfl,rfl,b}
structure pz(K:À)(C:Addr):Prop where
 ha:findIn K (.ref C) "__class__"=ρ (ρ (.builtin "object.__class__"))
 hn:wgT K (.builtin "object.__class__") "__get__"=ρ (ρ (.builtin "getset_descriptor.__get__"))
 sW:takesIn K (.builtin "object.__class__")=ρ true
theorem Ig:kitOne K (.ref C) (.ref C)=ρ true:=by
 unfold kitOne;rw[if_pos (by simp)]
end
end _L
namespace _L
open PySem.Spec PyProof.Rows PySem.Calls
section
variable{t:TA}
theorem rO:∀ns:List Int,preSum (λi=>ns.getD i 0) ns.9=ns.sum
 |[]=>rfl
 |n::ns=>by
  show preSum (λi=>(n::ns).getD i 0) (ns.9+1)=n+ns.sum;rw[PySem.W.kdu_shift,<-rO ns];rfl
theorem gk{h h':Heap}{p:Addr}{g:Array Value}(e:h.IsList p g)(hk:∀b o,h.get? b=ρ o->h'.get? b=ρ o):h'.IsList p g:=let ⟨o,a,r⟩:=e;{o,hk _ _ a,r}
def Q9(K:À)(t:TA):TE:=λσ H Q=>t σ H λvs H1=>∃(a:Addr) (ps:List Addr),vs=[.ref a]/\aL K H1 a (ps.map V.ref)/\ps≠[]/\(∀q∈ps,∃ys,aL K H1 q ys)/\∀q∈ps,Q (.ref q) H1
end
section
variable{prog:É}{w:World}{A:Around}{s:Shared}{l I S:Addr}{vs:List Value}{R:ġ->Shared->Prop}
theorem z6(kf:Nat->Int)(hh:A.handled=τ)(hl:s.heap.IsList l vs.6)(hI:I=s.8)(Nq:S≠I)(WL:s.8<=S)
 (turn:∀(i:Nat) (v:Value),vs[i]?=ρ v->∃p items,v=.ref p/\s.heap.IsList p items/\(items.size:Int)=kf i/\(items.size:Int)<2^63)
 (hR:∀(v:Value) (h':Heap) (Cm:Nat),v∈vs->(∀b o,s.heap.get? b=ρ o->h'.get? b=ρ o)->R (.ok (.ret v)) {s with heap:=h',toks:=Cm}) :
 ∀(r j i:Nat) (h:Heap) (tk:Nat) (vb:Value) (tb:Tok) (c:Nat),vs.9-(j+1)=r->j+1<=vs.9->(∀b o,s.heap.get? b=ρ o->h.get? b=ρ o) ->
  h.get? S=ρ (seqObj "list" #[vb,.int (kf i) tb] c)->h.IsListIter I l (j+1)->vs[i]?=ρ vb ->
  codeAny (model prog w) A (.builtin "min.loop" {[.ref I,.builtin "len",.ref S],[]}) R {s with heap:=h,toks:=tk}:=by
 have Ak:(toString "min"++toString ".loop":String)="min.loop":=⋯;have F4:l<s.8:=let ⟨o,ho,_⟩:=hl;Æ ho
 have Qa:l≠I:=by rw[hI];exact Ñ F4
 have W:=wfd (prog:=prog) (w:=w) (A:=A.in1) hh I l Qa vs.6;have hsz:vs.toArray.size=vs.9:=ö ..
 have old:∀{b:Addr} {o:Obj},s.heap.get? b=ρ o->b≠S/\b≠I:=λ{b o} e=>by
  have hb:b<s.8:=Æ e;exact{Ñ (Ö hb WL),by rw[hI];exact Ñ hb}
 intro r
 induction r with
 |zero=>
  intro j i h tk vb tb c hr hj mono nS hit SM;have WM:j+1=vs.9:=1.0;refine Ķ wec ?_;rw[Ŋ ţ _];show wpAny _ A.in1 (Ū (.ref S) >>= _) _ _ _;refine Â (ů nS rfl ?_);show wpAny _ A.in1 (tryCatch (pyNext (.ref I)) _ >>= _) _ _ _;refine Â (ħ (W.done _ _ _ {by rw[hsz,<-WM];exact hit,gk hl mono} λh' Cm JG=>?_));have WN:=JG S _ (by simpa using Nq) nS;have s1:=weG h' S (ŭ λ_=>(#[]:Array Value));show wpAny _ A.in1 (wgR S (λ_=>#[]) >>= _) _ _ _;refine Â ?_;refine χ WN rfl (Â (ŝ (Ë ?_)));exact hR vb _ _ (ê SM) λb o e=>(s1.2 b (old e).1).trans (JG b o (by simpa using(old e).2) (mono b o e))
 |succ r ih=>
  intro j i h tk vb tb c hr hj mono nS hit SM;have Nr:j+1<vs.9:=1.0;refine Ķ wec ?_;rw[Ŋ ţ _];show wpAny _ A.in1 (Ū (.ref S) >>= _) _ _ _;refine Â (ů nS rfl ?_);show wpAny _ A.in1 (tryCatch (pyNext (.ref I)) _ >>= _) _ _ _;refine Â (ħ (W.item (j+1) _ _ _ (by rw[hsz];exact Nr) {hit,gk hl mono} λv h' Cm hP Kp JG=>?_));have hv:vs[j+1]?=ρ v:=by simpa using hP
  have y1:∀b o,s.heap.get? b=ρ o->h'.get? b=ρ o:=λb o e=>JG b o (by simpa using(old e).2) (mono b o e);have Od:=JG S _ (by simpa using Nq) nS
  let{p,items,rfl,hp,SN,Kq}:=turn (j+1) v hv
  show wpAny _ A.in1 (tryCatch (holding [Ä p] (call (.builtin "len") [.ref p])) _ >>= _) _ _ _;refine Â (ħ (Ą (weE (gk hp y1) Kq ?_)));rw[SN];show wpAny _ A.in1 (tryCatch (holding [Ä p,.int (kf (j+1)) _] (richCompare .Lt (.int (kf (j+1)) _) (.int (kf i) tb) >>= _)) _ >>= _) _ _ _;refine Â (ħ (Ą (Â (CmpOf.ints_lt (prog:=prog) (w:=w) (A:=A.in1) (P:=λi v=>∃t,v=.int (kf i) t) kf (λi v h=>h) (j+1) i _ _ _ _ _ {_,rfl} ⟨tb,rfl⟩ ?_))));refine Â (Ą (Ń ?_));refine Â (ŝ (Ë ?_))
  by_cases Kr:kf (j+1)<kf i
  .simp only[Kr,decide_true,if_true];refine Â ?_;refine χ Od rfl (Â (ŝ ?_));rw[Ak];have s1:=weG h' S (ŭ λ_=>#[Ä p,.int (kf (j+1)) (Cm+1)]);obtain⟨c2,SQ⟩:∃c2,(h'.update S (ŭ λ_=>#[Ä p,.int (kf (j+1)) (Cm+1)])).get? S=ρ (seqObj "list" #[Ä p,.int (kf (j+1)) (Cm+1)] c2):={_,get?_update_seq Od λ_=>#[Ä p,.int (kf (j+1)) (Cm+1)]};refine Ë {Ľ ţ _,ih (j+1) (j+1) _ _ _ _ c2 1.0 Nr (λb o e=>(s1.2 b (old e).1).trans (y1 b o e)) SQ ?_ hv}
   let{SR,Nt,SU}:=id Kp.1
   exact{SR,(s1.2 I Nq.symm).trans Nt,SU}
  .simp only[Kr,decide_false,ŏ,if_false];refine Â (ŝ ?_);rw[Ak];exact Ë {Ľ ţ _,ih (j+1) i _ _ vb tb c 1.0 Nr y1 Od Kp.1 SM}
end
end _L
namespace _L
structure cu(K:À)(C:Addr)(nm qual:Str)(st:Stmt)(ps:List Str)(f:Addr)(fd:î):Prop where
 F:zo K nm qual st f fd
 b:Binds K fd ps []
 m:Ge K C nm f
theorem y2:∀(rs:List Addr) (g:List (Str×Str)),bq H rs (g.map lx)->cF K H (g.map L5) (rs.map V.ref)
 |[],[],_=>rfl
 |[],_::_,h=>by have:=h.1;simp at this
 |_::_,[],h=>by have:=h.1;simp at this
 |r::rs,q::g,h=>by
  refine{.ref r,rs.map V.ref,rfl,{r,lx q,rfl,h.2 0 r (lx q) rfl rfl,?_},y2 rs g {by have:=h.1;simpa using this,λi a b c d=>h.2 (i+1) a b c d}};exact{.str q.1,[.str q.2],rfl,⟨rfl,rfl⟩,{.str q.2,[],rfl,⟨rfl,rfl⟩,rfl}}
theorem SV._B.cS.Zf(R:cS H l rs g):bQ K H (.lst (g.map L5)) (.ref l):={l,1,.inl R.l,y2 rs g R.t}
theorem gO(a b:Addr):(Ju a b).lookup ("writer":Str)=ρ (.ref a):=by
 rw[<-L7,aC,if_neg ∅,<-L6,aC,if_pos rfl]
end _L
namespace _L
open PySem.Spec PyProof.Rows PySem.W Builtin Builtin.ObjectAttr
noncomputable abbrev Qb:List Value:=[.type "ValueError",.type "Exception",.type "BaseException",.type "object"]
noncomputable abbrev oz(CB:Addr):List Value:=.ref CB::Qb
section
variable{prog:É}{w:World}{A:Around}{E:Value->Shared->Prop}{s:Shared}{K:À}{x C CB:Addr}{name:Str}{v:Value}
theorem Ih{Q:Value->Shared->Prop}(X:K.In s.heap)(I:InstAt s.heap x ox C (ρ od))(hc:clsIn K C=ρ cd)(l:cd.mro=.ref C::oz CB)(p:cd.hasDict=true)
 (g:findIn K (.ref C) "__getattribute__"=ρ (ρ (.builtin "BaseException.__getattribute__"))) (j:findIn K (.ref C) "__getattr__"=ρ τ) (ha:findIn K (.ref C) name=ρ τ)
 (hl:lookIn name od=ρ (ρ v)) (r:handedIn v=true) (h:Q v {s with toks:=s.toks+1}):wpAny (model prog w) A (getAttr (.ref x) name expr) Q E s:=by
 have G:=wf1.ga;refine Â (wpAny_mkText (Ą (Â (I.type _ _ _ _ (λ_ _ e=>e) (Â (ς X g _ _ _ _ (λ_ _ e=>e) ?_))))));dsimp only;rw[show (Ş (Ä C)&&Ĺ "BaseException.__getattribute__" == Ĺ "object.__getattribute__")=false from by rw[show (Ĺ "BaseException.__getattribute__" == Ĺ "object.__getattribute__")=false from by decide+kernel,Φ],if_neg ⋯];have a:Looks (model prog w) s.heap (hookBefore (.ref C)) τ:=looks_hook X (by show (if Ş (Ä C) then findIn K (.ref C) "__getattr__" else ρ τ)=ρ τ;rw[if_pos (show Ş (Ä C)=true from rfl)];exact j);refine Â (a _ _ _ _ (λ_ _ e=>e) (Â (wgp (Ą ?_))));unfold callGetattribute;rw[show (expr&&Ş (Ĺ "BaseException.__getattribute__"))=false from Φ _,if_neg ⋯];unfold boundAndCalled;rw[G.bind];refine Â (Ë ?_);show wpAny _ _ (call (.builtin "BaseException.__getattribute__") [.ref x,.str name s.toks]) _ _ _;refine ē ?_;have sub:Looks (model prog w) s.heap (wfh (.ref x) (.type "BaseException")) true:=I.type.andThen (wfQ X (by unfold mroIn;rw[hc,wdt,l];rfl));refine Ε G.plain wg6 ?_;refine @wgw (model prog w) _ _ {s with toks:=s.toks+1} "BaseException.__getattribute__" "BaseException" "__getattribute__" (.ref x) [.str name s.toks] [] _ ∅ ∅ sub (wgh (.ref x) (.str name s.toks)) ?_
 have b:findObj K C (ρ od) name=ρ (.value v):=by
  unfold findObj;rw[hc,ha];simp only[wdt];unfold PySem.W.ownOf;rw[p,if_pos rfl];dsimp only;rw[hl];rfl
 have c:=I.type (M:=model prog w);have d:=looks_find (M:=model prog w) X I b;unfold Ō.«object.__getattribute__»;refine Â (Ë ?_);refine Â (Ë (Â (c _ _ _ _ (λ_ _ e=>e) (Â (d _ _ _ _ (λ_ _ e=>e) ?_)))));refine Ë ?_;show wpAny _ _ (handedOut v) _ _ _;rw[handedOut_of r];exact Ë h
end
section
variable{prog:É}{w:World}{A:Around}{s:Shared}{K:À}{x C CB f:Addr}{name:Str}{v:Value}{R:ġ->Shared->Prop}
theorem F5(X:K.In s.heap)(I:InstAt s.heap x ox C od)(hc:clsIn K C=ρ cd)(hm:cd.mro=.ref C::oz CB)(ha:findIn K (.ref C) name=ρ τ)
 (h:wpAny (model prog w) A.in1 (storeInOwnDict (.ref x) (.ref C) (.str name tk) name v false)
   (λfin s'=>match fin with |.done f=>R (.ok f) s' |.again c'=>c'.quiet=true/\codeAny (model prog w) A c' R s') (λe s'=>R (.error e) s') s) :
 codeAny (model prog w) A (.call (.builtin "object.__setattr__") {[.ref x,.str name tk,v],[]}) R s:=by
 have SF:=PySem.F.store_object;have sub:Looks (model prog w) s.heap (wfh (.ref x) (.type "object")) true:=I.type.andThen (wfQ X (by unfold mroIn;rw[hc,wdt,hm];rfl));refine Ε SF.slot.plain SF.entry (@wgw (model prog w) _ _ s "object.__setattr__" "object" "__setattr__" (.ref x) [.str name tk,v] [] _ SF.kind SF.split sub (SF.args (.ref x) (.str name tk) v) ?_);have WO:Looks (model prog w) s.heap (mroOf (.ref C)) cd.mro:=(wfi X hc).andThen .now;have L3:Looks (model prog w) s.heap (storeTaker? τ) τ:=.now;rw[osa_eq,refuse_eq];refine Â (Â (I.type.here (Â (WO.here ?_))));rw[hm,refuseLoop_ref,refuseLoop_ref,PySem.F.store_ValueError.passes];refine Ë (Â (I.type.here (Â ((ς X ha).here (Â (L3.here ?_))))));exact h
end
end _L
namespace _L
open PySem.Spec PyProof.Rows
structure bf(K:À)(C CB:Addr)(nm:Str):Prop where
 lk:∃(q:Str) (N:Addr) (bs:List Value) (sn:List Str) (sub:List Value) (ab:Bool) (col:Option Bool) (dd:Option Addr) (k0 k1 k2 k3 k5:Option Value),
  K.lookup C=ρ (Ă nm q C N bs (oz CB) true sn sub ab col dd k0 k1 k2 k3 k5 "ValueError.__new__")
 sa:findIn K (.ref C) "__setattr__"=ρ (ρ (.builtin "object.__setattr__"))
 ga:findIn K (.ref C) "__getattribute__"=ρ (ρ (.builtin "BaseException.__getattribute__"))
 gh:findIn K (.ref C) "__getattr__"=ρ τ
 kp:keepIn K (.ref C)=true
structure z7(K:À)(CB:Addr)(nm:Str):Prop where
 lk:∃(q:Str) (N:Addr) (bs:List Value) (hd:Bool) (sn:List Str) (sub:List Value) (ab:Bool) (col:Option Bool) (dd:Option Addr) (k0 k1 k2 k3 k5:Option Value),
  K.lookup CB=ρ (Ă nm q CB N bs Qb hd sn sub ab col dd k0 k1 k2 k3 k5 "ValueError.__new__")
def SW(K:À)(CB:Addr)(tb:JA)(j i:Nat):TS:=λD σ H=>tb (λσ' cv od H'=>∃C nm,cv=.ref C/\bf K C CB nm/\∀e,H' e=τ->D.nx (((σ'.set j (ρ (.ref e))).set i (ρ (.ref e))).set j τ) (upd H' e (XC e C od))) D σ H
theorem Cp(he:("":Str)∈ss)(h:t∈d1 g ws ss p):t∈ss:=by grind [d1,vd]
mutual
theorem bQ.same{K:À}{H H':Hp}(s:a7 H H'):∀(d:kS) (v:V),bQ K H d v->bQ K H' d v
 |.at _,_,h=>h
 |.tup c,_,h=>by
  let{a,b,e,f,hl}:=h
  exact{a,b,e,s _ _ f,cF.same s c b hl}
 |.lst c,_,h=>by
  let{a,b,e,f,hl}:=h
  exact{a,b,e,D5 s f,cF.same s c b hl}
theorem cF.same{K:À}{H H':Hp}(s:a7 H H'):∀(g:List kS) (xs:List V),cF K H g xs->cF K H' g xs
 |[],_,h=>h
 |d::g,_,h=>by
  let{v,a,e,b,hl}:=h
  exact{v,a,e,bQ.same s d v b,cF.same s g a hl}
end
def Qc(K:À)(CB C1 C2:Addr)(E:XK)(tb:JA):TS:=λD σ H=>tb (λ_ cv od H'=>∃C nm,cv=.ref C/\bf K C CB nm/\C1≠C/\C2≠C/\E cv od H') D σ H
section
variable{prog:É}{w:World}{A:Around}{R:ġ->Shared->Prop}{h:Heap}{g:Array ĳ}{d:Drawn}{t:Nat}{os:ë}{nm q:Str}{C CB N:Addr}{bs:List Value}{hdct:Bool}{sn:List Str}{sub:List Value}{ab:Bool}{col:Option Bool}{dd:Option Addr}{k0 k1 k2 k3 k5:Option Value}
theorem Ks{M:ė}{E:Value->Shared->Prop}{rest:List Value}{Q:Unit->Shared->Prop}(j:h.get? C=ρ (Ă nm q C N bs (oz CB) hdct sn sub ab col dd k0 k1 k2 k3 k5 "ValueError.__new__"))
 (l:Q .unit ⟨h,g,d,t,os⟩):wpAny M A (wfr "ValueError.__new__" {.ref C::rest,[]}) Q E ⟨h,g,d,t,os⟩:=by
 have F:=wc7;have a:(Ä C::oz CB).contains (.type "ValueError")=true:=rfl;have b:=F.noStar;simp only[wfr,F.newKind,F.newSplit,F.newRow]
 repeat (first |refine Č j ?_ |(refine Ŝ j ?_;rw[a]) |refine wpAny_staticBase_exc j ?_ |refine wpAny_madeBy_exc j ?_ |simp only[bne_self_eq_false,ŏ,if_false] |wp_step)
 exact l
theorem Kt{rest:List Value}(j:h.get? C=ρ (Ă nm q C N bs (oz CB) hdct sn sub ab col dd k0 k1 k2 k3 k5 "ValueError.__new__"))
 (r:R (.ok (.ret (.ref (h.7+1)))) {(h.push {cls:=.type "tuple",data:=.seq rest.6}).push
   {cls:=.ref C,data:=.fields #[.ref h.7,.none,.none,.none,.bool false,.none]},g,d,t,os}) (l:rest.9<=sizeLine:=by size_fits) :
 codeAny (model prog w) A (.builtin "ValueError.__new__" {.ref C::rest,[]}) R ⟨h,g,d,t,os⟩:=by
 have F:=wc7;have a:=F.ends;have b:(Ä C::oz CB).contains (.type "ValueError")=true:=rfl;have c:(Ä C::oz CB).contains (.type "AttributeError")=false:=rfl;have e:(Ä C::oz CB).contains (.type "NameError")=false:=rfl;refine codeAny_builtinAt F.entry ?_;unfold Ō.«BaseException.__new__»;refine why ?_;show PySem.wpAt _ _ _ (PySem.stack >>= _) _ _ _;refine why (PySem.wpAt_stack λp f=>wgx ?_)
 wp_walk
 refine wgx ?_;rw[F.owner]
 repeat (first |with_reducible refine wpAny_madeHere_exc F.canon j ?_ |with_reducible refine Č j ?_ |(with_reducible refine Ŝ j ?_;first |rw[b] |rw[c] |rw[e]) |wp_step)
 show R _ _;rw[ň];exact r
theorem rP{E:Value->Shared->Prop}{Q:Flow->Shared->Prop}(l:A.handled=τ)
 (h:wpAny M A (eval x env) (λv j=>∃e od t,v=.ref e/\j.heap.get? C=ρ (Ă nm q C N bs (oz CB) hdct sn sub ab col dd k0 k1 k2 k3 k5 "ValueError.__new__") /\
   j.heap.get? e=ρ {cls:=.ref C,dict:=od,data:=.fields #[.ref t,.none,.none,.none,.bool false,.none]}/\E (.ref e) j) E s) :
 wpAny M A (exec (.Raise (ρ x) τ pos) env) Q E s:=by
 have key:wpAny M A (raiseStmt env (ρ (do let v <-eval x env;standAt pos;pure v)) τ) Q E s:=by
  have b:(Ä C::oz CB).contains (.type "BaseException")=true:=rfl;unfold raiseStmt;refine Â (Â (ß h (λv j a=>Â (weZ (Ë ?_))) λ_ _ x=>x))
  let{e,od,t,rfl,c,f,i}:=a
  let{k,g,d,m,os}:=j
  repeat (first |with_reducible refine Č f ?_ |with_reducible refine Č c ?_ |(with_reducible refine Ŝ c ?_;rw[b]) |wp_step)
  exact wpAny_raiseNew_none l i
 rw[arm_exec_Raise];exact Â (weZ key)
end
section
variable{X:Cx}{e o:Expr}{es:List Expr}{ta:TE}{t:TA}{pos apos:Pos}{C f:Addr}{q:Str}{st:Stmt}{ps:List Str}{k:Nat}{sp:Sp}
theorem n7{m:Str}{fd:î}{pl:Sem Bool}(he:PE X o ta)(c:wY X.K C)(g:cu X.K C m q st ps f fd)(F:aI X.prog X.w X.K X.mg X.base cz k f fd ps sp)(l:cO k X.A:=by exact cO.mono (by assumption) ⋯)
 (r:eval (.Call (.Attribute o m apos) [] [] pos) X.5=(do
   let j <-eval o X.5
   standAt apos.atName
   let (f,first) <-holding [j] (ř j m pl)
   ξ pos f first (backTo pos (starEach [] X.5)) (backToKw pos (Ĝ [] X.5))):=by rfl) :
 PE X (.Call (.Attribute o m apos) [] [] pos) (D0 C m sp [] E0 ta wg):=GF he c g.m F l g.b .nil ni r
theorem F6{m:Str}{fd:î}{pl:Sem Bool}(he:PE X o ta)(c:wY X.K C)(j:cu X.K C m q st ps f fd)(F:aI X.prog X.w X.K X.mg X.base cz k f fd ps sp)(ha:PA X (e::es) t)(r:cO k X.A:=by exact cO.mono (by assumption) ⋯)
 (g:starEach (e::es) X.5=(false,eval e X.5)::starEach es X.5:=by rfl) (hpl:(backTo pos (starEach es X.5)).any (·.1)=false:=by rfl)
 (I:eval (.Call (.Attribute o m apos) (e::es) [] pos) X.5=(do
   let l <-eval o X.5
   standAt apos.atName
   let (f,first) <-holding [l] (ř l m pl)
   ξ pos f first (backTo pos (starEach (e::es) X.5)) (backToKw pos (Ĝ [] X.5))):=by rfl) :
 PE X (.Call (.Attribute o m apos) (e::es) [] pos) (D0 C m sp [] E0 ta t):=gM he c j.m F r j.b .nil ni ha g hpl I
end
section
variable{M:ė}{A:Around}{E:Value->Shared->Prop}{e C CB:Addr}{nm q F7 qB:Str}{N NB:Addr}{bs WQ:List Value}{hdct WR:Bool}{sn WT:List Str}{sub subB:List Value}{ab WU:Bool}{col SX:Option Bool}{dd WV:Option Addr}{k0 k1 k2 k3 k5 l0 l1 l2 l3 l5:Option Value}
theorem Nu{h:Heap}{g:Array ĳ}{d:Drawn}{t:Nat}{os:ë}{l:Obj}{Q:Bool->Shared->Prop}(p:h.get? C=ρ (Ă nm q C N bs (oz CB) hdct sn sub ab col dd k0 k1 k2 k3 k5 "ValueError.__new__"))
 (r:h.get? CB=ρ (Ă F7 qB CB NB WQ Qb WR WT subB WU SX WV l0 l1 l2 l3 l5 "ValueError.__new__")) (he:h.get? e=ρ l) (j:l.cls=.ref C) (I:Q true ⟨h,g,d,t,os⟩) :
 wpAny M A (wgi (.ref e) (.ref CB)) Q E ⟨h,g,d,t,os⟩:=by
 have a:(Ä CB::Qb).contains (.type "BaseException")=true:=rfl;have b:(Ä C::oz CB).contains (.ref CB)=true:=by simp[Ψ]
 have f:=tc_notTuple;unfold wgi
 repeat (first |(with_reducible refine Č he ?_;rw[j]) |with_reducible refine Č p ?_ |with_reducible refine Č r ?_ |(with_reducible refine Ŝ p ?_;rw[b]) |(with_reducible refine Ŝ r ?_;rw[a]) |wp_step)
 exact I
end
section
variable{X:Cx}{CB:Addr}{F7 n x Cq:Str}{body:List Stmt}{tb:JA}{i j:Nat}{p1 p2 p3 p4 Cr pos:Pos}
theorem Nv(r:X.stack=X.5::X.outer/\X.env.frame=ρ X.env.locals)(l:Mh X body tb)(hg:Gl X F7)(hm:X.mg F7=ρ (.ref CB))(TB:z7 X.K CB Cq)(T:X.N.Nodup)(J:X.N[j]?=ρ n)(hi:X.N[i]?=ρ x)
 (g:X.env.scope.names.lookup n=ρ .local) (hx:Loc X.env.scope x) (SY:(F7==("__debug__":Str))=false:=by decide) (WW:(n==("__debug__":Str))=false:=by decide) (WX:(n==("__classdict__":Str))=false:=by decide)
 (hf:X.fn x=true\/X.env.scope.names.lookup x=ρ .local:=by first |exact .inl rfl |exact .inr rfl |assumption) (Su:Ě (.Name n p3) (ρ (.Name x p2)) p4.line X.5=pure false:=by rfl) :
 PS X (.Try body [.ExceptHandler (ρ (.Name F7 p1)) (ρ n) [.Assign [.Name x p2] (.Name n p3) p4] Cr] [] [] pos) (SW X.K CB tb j i):=by
 refine{?_};intro a s σ H D I h;refine wpAny_Try_except (ß (l a s σ H D _ I h) (λf s1 q=>?_) λev s1 q=>?_)
 .cases f with
  |next=>exact Ĭ q
  |ret v=>exact q
  |brk=>exact q
  |cont=>exact q
 let{k,H0,s0,d,e,G,L,u,rfl,t,bare,un,b7,F,C,SZ,M,U,hD}:=q
 cases M;have I1:Inv X a k u s1:=d.xx t un b7 bare λb z=>absurd z (by simp);have O:(X.5::X.outer).filterMap (·.frame)=oI X.stack:=by rw[r.1];rfl
 have w:=I1.mI
 have A:s0.8<=s1.8:=wfs λz=>by
  let{Q,_,vs,sl,he,_}:=F
  exact absurd (Ö (ĺ Q (Æ he)) (wev z)) (ò _)
 refine zz (lo:=s0.8) (H:=u) (base:=X.base) (outer:=X.outer) (by rw[<-r.1];exact d.ok.frames) (by rw[<-r.1];exact I1.stack) r.2 A (λb l=>b7.fresh l) F λh2 F2 p=>?_;rw[O]at p
 let{R,B,J2}:=d.yF t bare un b7 p w
 have S:=J2 s1.toks
 let{qC,NC,WY,WZ,X0,X1,T1,X2,c0,c1,c2,c3,c5,V}:=U.lk
 let{qT,NT,Zg,Zh,Zi,X3,Zj,X4,Zk,t0,t1,t2,t3,t5,Y}:=TB.lk
 let{UQ,X5,Z,_}:=id F2.ob
 refine weH (wek (ft (X:=X.marked e) (S.marked (e:=e)) hg hm ?_ SY)) (by intro z;cases z);refine Nu (S.fJ _ _ V) (S.fJ _ _ Y) Z rfl ?_;refine codeAny_handlers_suite_as ?_;refine Bm F2 λh3 F3 k3=>?_;have X6:yy s0.heap.objs.size u (oI X.stack) h2 h3:={λb o q l _=>k3 b o q l,λb o q l=>{o.slots,k3 b o q (.inl ?_)}}
 rotate_left
 ·
  have:∃o,s0.heap.get? b=ρ o:=by
   let{_,o,E,_}:=d.stack.mem l
   exact⟨o,E⟩
  let{o,E}:=this
  exact Æ E
 let{X7,T3,J3}:=d.yF (s1:={s1 with heap:=h2}) t bare R B X6 w
 have I3:=J3 s1.toks
 let{UR,Zm,X8,_}:=id F3.ob
 have old:∀{b:Addr},b<s0.8->b≠e:=λl z=>by rw[z]at l;exact absurd (Ö l F.ge) (ò _)
 have X9:Inv X a k (upd u e (XC e G L)) {s1 with heap:=h3}:=I3.Pb F.nt (Õ d.sz F.ge) (Ü (old d.lt)) (λy c hc=>old (by
  let{v,o,E,_}:=d.cell y c hc
  exact Æ E)) (λp hp=>old (Æ (d.pin p hp).1)) (Sl X8)
 refine gZ (v:=.ref e) X9 T J (.inl g) rfl (λs4 I4=>?_) (.inr g);have Xa:j<k.9:=by rw[d.len];exact(Ô.mp J).1
 have ev:=Bo (X:=(X.marked e).Ja) (pos:=p3) J (.inl g) WW WX a s4 _ (upd u e (XC e G L)) (λv Xb=>v=.ref e/\Xb=upd u e (XC e G L)) ((I4.marked (e:=e)).kT _) {.ref e,ζ Xa,rfl,rfl};refine İ (Ŵ (Gd (bU ev λv s5 ⟨y,H5,I5,r5,ey,eH⟩=>?_)) Su);subst ey;subst eH;have I5:=(I5.eS).unmarked d.ok;refine gZ I5 T hi hx r5 (λs6 I6=>Ĭ ?_) hf
 let{m,hn,hl}:=id I6.loc
 refine wpAny_nameGoes_keeps g hn (by rw[I6.ok.kind];rfl) λh7 v7 Xc Xd=>?_;exact{_,_,I6.Gv (m:=m) (tk:=s6.toks+1) T J g ⟨m,hn,hl,Xc⟩ Xd,hD e F.nt}
end
end _L
namespace _L
open PySem.Spec PyProof.Rows Builtin Builtin.ObjectAttr
theorem bf.ne{K:À}{C D CB j:Addr}{nm g:Str}(U:bf K C CB nm)(l:bf K D j g)(h:¬nm=g):C≠D:=λe=>by
 subst e
 let{q,N,bs,r,sub,ab,d,s,t,u,v,w,x,l1}:=U.lk
 let{y,z,f,i,b,k,c,m,A,n,B,E,G,a}:=l.lk
 rw[l1]at a;have:=congrArg (λo=>match o with |some (⟨_,_,.cls p,_⟩:Obj)=>p.name |_=>nm) a;exact h this
theorem bf.neT{K:À}{C CB g:Addr}{nm j:Str}(U:bf K C CB nm)(T:z7 K g j)(h:¬nm=j):C≠g:=λe=>by
 subst e
 let{q,N,bs,r,sub,ab,d,s,t,u,v,w,x,l1}:=U.lk
 let{y,z,f,i,k,b,l,c,m,A,n,B,D,E,a}:=T.lk
 rw[l1]at a;have:=congrArg (λo=>match o with |some (⟨_,_,.cls p,_⟩:Obj)=>p.name |_=>nm) a;exact h this
def Qe(K:À)(ta:TE)(f:Str):TE:=λσ H Q=>ta σ H λy H1=>∃e C CB d nm fs v,y=.ref e/\H1 e=ρ (XC e C (ρ d))/\H1 d=ρ (.xd fs)/\bf K C CB nm/\findIn K (.ref C) f=ρ τ/\fs.lookup f=ρ v/\Q v H1
section
variable{prog:É}{w:World}{A:Around}{E:Value->Shared->Prop}{s:Shared}{K:À}{x C CB:Addr}{nm:Str}{od:Option Addr}
theorem F8{Q:Option Value->Shared->Prop}(U:bf K C CB nm)(Y:pz K C)(X:K.In s.heap)(I:ExcAt x C od s.heap)(h:Q (ρ (.ref C)) {s with toks:=s.toks+1}):wpAny (model prog w) A (getAttr? (.ref x) "__class__") Q E s:=by
 let{ox,o,I}:=I.inst
 let{q,N,bs,k,sub,ab,c,l,m,n,p,r,t,lk}:=U.lk
 have hc:∃b,clsIn K C=ρ b:={_,by unfold clsIn;rw[lk]};have d:mroIn K C (.type "object")=ρ true:=by unfold mroIn clsIn;rw[lk];rfl
 have a:mroIn K C (.type "BaseException")=ρ true:=by unfold mroIn clsIn;rw[lk];rfl
 have G:=wf1.ga
 have f:findObj K C o "__class__"=ρ (.bind (.builtin "getset_descriptor.__get__") (.builtin "object.__class__")):=by
  let{b,hc}:=hc
  unfold findObj;rw[hc,Y.ha];simp only[wdt];rw[Y.hn];simp only[wdt];rw[Y.sW];rfl
 unfold getAttr? getAttrBy? getAttrBy;refine Â (wpAny_mkText (Â (wgp (Ą (Â (I.type _ _ _ _ (λ_ _ e=>e) (Â (ς X U.ga _ _ _ _ (λ_ _ e=>e) ?_))))))));dsimp only;rw[show (Ş (Ä C)&&Ĺ "BaseException.__getattribute__" == Ĺ "object.__getattribute__")=false from by rw[show (Ĺ "BaseException.__getattribute__" == Ĺ "object.__getattribute__")=false from by decide+kernel,Φ],if_neg ⋯];have g:Looks (model prog w) s.heap (hookBefore (.ref C)) τ:=looks_hook X (by show (if Ş (Ä C) then findIn K (.ref C) "__getattr__" else ρ τ)=ρ τ;rw[if_pos (show Ş (Ä C)=true from rfl)];exact U.gh);refine Â (g _ _ _ _ (λ_ _ e=>e) (Â (wgp (Ą ?_))));unfold callGetattribute;rw[show (false&&Ş (Ĺ "BaseException.__getattribute__"))=false from rfl,if_neg ⋯];unfold boundAndCalled;rw[G.bind];refine Â (Ë ?_);show wpAny _ _ (call (.builtin "BaseException.__getattribute__") [.ref x,.str "__class__" s.toks]) _ _ _;refine ē ?_;have sub:Looks (model prog w) s.heap (wfh (.ref x) (.type "BaseException")) true:=I.type.andThen (wfQ X a);refine Ε G.plain wg6 ?_;refine @wgw (model prog w) _ _ {s with toks:=s.toks+1} "BaseException.__getattribute__" "BaseException" "__getattribute__" (.ref x) [.str "__class__" s.toks] [] _ ∅ ∅ sub (wgh (.ref x) (.str "__class__" s.toks)) ?_;have i:=I.type (M:=model prog w);have j:=looks_find (M:=model prog w) X I f;unfold Ō.«object.__getattribute__»;refine Â (Ë ?_);refine Â (Ë (Â (i _ _ _ _ (λ_ _ e=>e) (Â (j _ _ _ _ (λ_ _ e=>e) ?_)))));show wpAny _ _ (holding [.builtin "object.__class__"] (call (.builtin "getset_descriptor.__get__") [.builtin "object.__class__",.ref x,.ref C]) >>= ret) _ _ _;refine Â (Ą (ē (class_get (s:={s with toks:=s.toks+1}) (ox:=ox) (od:=o) X I d ?_)));refine Ë ?_;exact handed_on rfl (Ë h)
theorem Al(U:bf K C CB nm)(Y:pz K C):KitX K (.ref x) (.ref C) (ExcAt x C od) where
 ty:=λM h X I=>by
  let{r,o,I}:=I.inst
  exact I.type
 it:=λM h X I=>by
  let{q,N,bs,c,sub,ab,a,d,f,g,i,j,l,lk}:=U.lk
  intro s t u v k q;unfold isType loadHead;exact Â (wg1 (k _ _ (X _ _ lk)) (Ë q))
 ne:=λh tp m p n w X b=>by
  let{q,N,bs,c,sub,ab,a,d,f,g,i,j,l,lk}:=U.lk
  refine Bool.eq_false_iff.mpr λq=>?_;have e:C=tp:=Value.ref.inj (beq_iff_eq.mp q);subst e;have z:=congrArg (λo=>o.map (·.cls)) ((X _ _ lk).symm.trans b);simp at z
 ca:=λX I k=>F8 U Y X I k
theorem F9(U:bf K C CB nm):kitOne K (.ref C) (.type "ValueError")=ρ true:=by
 unfold kitOne;rw[if_neg (by simp)]
 let{q,N,bs,b,sub,ab,a,c,d,e,f,g,h,lk}:=U.lk
 unfold kitCls;dsimp only;rw[if_pos ∅];unfold subIn mroIn clsIn;dsimp only;rw[lk];rfl
end
section
variable{X:Cx}
set_option genInjectivity true in
inductive Fa(K:À)(H:Hp):V->V->Bool->Prop where
 |exc {e C CB:Addr} {od:Option Addr} {nm:Str} {D:Addr} {b:Bool} (h:H e=ρ (XC e C od)) (hd:∀d,od=ρ d->∃fs,H d=ρ (.xd fs)) (U:bf K C CB nm) (Y:pz K C) (k:kitOne K (.ref C) (.ref D)=ρ b):Fa K H (.ref e) (.ref D) b
 |val {e C CB:Addr} {od:Option Addr} {nm:Str} {T:String} {b:Bool} (h:H e=ρ (XC e C od)) (hd:∀d,od=ρ d->∃fs,H d=ρ (.xd fs)) (U:bf K C CB nm) (Y:pz K C) (k:kitOne K (.ref C) (.type T)=ρ b):Fa K H (.ref e) (.ty T) b
 |oth {x:V} {t:Value} {D:Addr} {b:Bool} (h:eA K H x t) (k:kitOne K t (.ref D)=ρ b):Fa K H x (.ref D) b
 |otb {x:V} {t:Value} {T:String} {b:Bool} (h:eA K H x t) (k:kitOne K t (.type T)=ρ b):Fa K H x (.ty T) b
theorem bF:d7 X (.builtin "isinstance") (λxs H Q=>∃x c b,xs=[x,c]/\Fa X.K H x c b/\Q (.bl b) H):=by
 intro j s σ H xs w Q I r h
 let{x,c,b,rfl,l,q}:=h
 let{u,y,rfl,f,g}:=vals2 r
 have at_:∀{e C:Addr} {i:Option Addr},H e=ρ (XC e C i)->(∀d,i=ρ d->∃fs,H d=ρ (.xd fs))->ExcAt e C i s.heap:=λ{e C i} h hd=>by
  let{{m,n,p},_}:=I.b7 e _ h
  refine{⟨m,n,p⟩,λd e=>?_}
  let{fs,t}:=hd d e
  let{A,{o,_,_,v,_},_}:=I.b7 d _ t
  exact⟨o,v⟩
 cases l with
 |exc h hd U Y k=>
  cases f;cases g;exact kia_one (Al U Y) I.fJ (at_ h hd) k (λz=>nomatch z) λa=>{.bl b,H,I.tok a,rfl,q}
 |val h hd U Y k=>
  cases f;cases g;exact kia_one (Al U Y) I.fJ (at_ h hd) k (λz=>nomatch z) λa=>{.bl b,H,I.tok a,rfl,q}
 |oth h k=>
  cases g;exact qM I f h k λa=>{.bl b,H,I.tok a,rfl,q}
 |otb h k=>
  cases g;exact qM I f h k λa=>{.bl b,H,I.tok a,rfl,q}
theorem DE(he:PE X e j)(l:ĩ e f X.env (eval e X.5)=eval e X.5):PE X (.Attribute e f pos) (Qe X.K j f):=by
 refine{?_};intro a s σ H Q I h;refine Df l (bU (he a s σ H _ I h) λu s1 ⟨y,i,b,k,e,C,CB,d,nm,fs,v,m,n,p,U,ha,hl,q⟩=>?_);subst m;obtain rfl:u=Ä e:=k
 let{{t,w,x},_}:=b.b7 e _ n
 let{z,ns,r}:=b.b7 d _ p
 let{o,hd,look}:=xo ns
 let{A,N,bs,B,sub,ab,c,E,G,J,L,M,O,lk}:=U.lk
 let{R,D,g}:=j0.tH (v:=v) (o:=z f) (by rw[<-hl];exact r f)
 refine Ih (CB:=CB) (ox:={.ref C,ρ d,.fields t,w}) (od:=o) b.fJ ⟨x,rfl,rfl,hd⟩ (cd:={name:=nm,bases:=bs,mro:=.ref C::oz CB,ns:=N,qualname:=A,hasDict:=true,slotNames:=B,subclasses:=sub,abstract:=ab,collection:=c,hasDel:=false}) (by unfold clsIn;rw[lk]) rfl rfl U.ga U.gh ha (by rw[look,D]) (wX g) ?_;exact{v,i,b.tok _,g,q}
end
section
variable{K:À}{C CB D:Addr}{nm zp Cq:Str}
theorem bf.cls(V:bf K D CB zp):(clsIn K D).isSome=true/\typeIn K (.ref D)=ρ (.type "type"):=by
 let{h,i,d,e,b,f,c,g,j,l1,k,l,m,a}:=V.lk
 refine{by unfold clsIn;rw[a];rfl,?_};show Option.map (λx=>x.cls) (K.lookup D)=ρ (.type "type");rw[a];rfl
theorem Ii(U:bf K C CB nm)(V:bf K D CB zp)(T:z7 K CB Cq)(g:¬zp=Cq)(e:¬nm=zp):kitOne K (.ref C) (.ref D)=ρ false:=by
 unfold kitOne;have ne:=U.ne V e;rw[if_neg (by simpa using ne)]
 let{q,N,bs,f,sub,ab,a,h,i,j,k,l,m,lk}:=U.lk
 let{b,c}:=V.cls
 unfold kitCls;dsimp only;rw[b,c,if_pos (by rfl)];unfold subIn mroIn clsIn;dsimp only;rw[lk];show ρ ((Ä C::oz CB).contains (.ref D))=ρ false;have n1:(Ä D==Ä C)=false:=by simpa using Ü ne
 have d:(Ä D==Ä CB)=false:=by simpa using V.neT T g
 simp only[Ψ,n1,d,Ű];rfl
end
end _L
namespace _L
open PySem.Spec PyProof.Rows
section
variable{X:Cx}{tg:Expr}
theorem Ct{P:É}{w:World}{K:À}{j:List Expr}{k:Nat}{pos:Pos}(z:Str)(t:Tok)(nm:String)(e it:Addr)(g:e≠it)
 (D:∀A:Around,A.handled=τ->Draws P w A it [it] z.cps.size (λi v=>∃c u,z.cps[i]?=ρ c/\v=.str {#[c]} u) (λi h=>h.IsStrIter it nm z t i)) :
 Turn P w K (.Tuple j k pos) (G4 z) [e,it] e (λi h=>((∃old,IsEnum h e it (i:Nat) old)/\h.IsStrIter it nm z t i)/\i<=z.cps.size) where
 mem:=by simp
 obj:=λi h st b f=>by
  let{{{old,a},o,l,hc,hd},_}:=st
  rcases Þ.mp f with rfl |f
  .exact{_,a,λv z=>by
    have T:wh9 _=whF v:=z
    cases T}
  .have B:b=it:=by simpa using f
   subst B;exact{o,l,λv z=>by rw[hd]at z;cases z}
 keep:=λi h R st k=>{{st.1.1.imp λold a=>k e (by simp) _ a,let ⟨o,l,r⟩:=st.1.2;{o,k it (by simp) o l,r}},st.2}
 item:=by
  intro X C hw G hc i m s σ H E I J st L;subst C hw G
  let{{{old,a},hit},_}:=st
  have n:i<z.cps.size:=L;refine wpAny_pyNext_enum_itemD (D X.A.in1 (I.ok.hd hc)) a hit n g (by simpa using g) λu R U V l p Y Z hk=>?_
  let{c,S,M,rfl}:=V
  have ru:RelV (xk z i) (.str {#[c]} S):={S,by
   rw[wcz,M]
   rfl}
  refine{1,weY l λWm N d=>?_}
  let{_,O,_}:=id hit
  have x:e<s.8:=Æ a
  let{fr,I1,hn}:=zE (y:=.int (i:Nat)) (U+1) I J (λb o h q=>(d.2 b (DU h).1).trans (hk b o (DU h).1 (DU h).2 q)) ((d.2 _ (Ŀ x)).trans Y) {_,rfl} ru (OD x (Æ O))
  let{o,Q,r}:=p
  exact{.ref s.8,_,I1,rfl,⟨s.8,fr,rfl,rfl⟩,{{{_,by simpa using N},{o,(d.2 it (Ü g)).trans Q,r}},n},hn}
 done:=by
   intro X C hw G hc i m s σ H E I J st L;subst C hw G
   let{{{old,a},hit},hle}:=st
   have RO:z.cps.size<=i:=L;have B:i=z.cps.size:=();subst B
   let{g0,g1,g2,g3,g4,g5}:=J it (by simp)
   exact wpAny_pyNext_enum_endD (D X.A.in1 (I.ok.hd hc)) a hit λR eb=>{rfl,I.turned (t':=s.toks) (λb o f e=>eb b o f e) g0 g1 g3 g4 g5}
 self:=λ_ _ _ _ _ st h=>let ⟨⟨⟨_,a⟩,_⟩,_⟩:=st;we9 a h
theorem vi{g:List Expr}{k:Nat}{j:Pos}{l:Expr}{C:TA}{p pos:Pos}(J:Gl X "enumerate")(T:X.mg "enumerate"=τ)(ha:PA X [l] C)(U:starEach [l] X.5=[(false,eval l X.5)]:=by rfl) :
 PI X (.Tuple g k j) (.Call (.Name "enumerate" p) [l] [] pos) (LZ C):=by
 refine{?_};intro a s σ H R I h;refine Call_ (iT I J T kd (wbY (bU (ha pos a s σ H _ I h) λN s1 ⟨O,x,m,B,E⟩=>?_) U rfl))
 let{z,e,q}:=E
 subst e
 let{u,rfl,t,rfl}:=vals1 B
 refine call_enumerate_str λn y hit G kp=>we9 y ?_;have L:Inv X a σ x {s1 with heap:=n}:=m.kept (t':=s1.toks) kp
 have fin:∀nm,(∀A:Around,A.handled=τ->Draws X.prog X.w A s1.heap.objs.size [s1.8] z.cps.size (λi v=>∃c u,z.cps[i]?=ρ c/\v=.str {#[c]} u) (λi h=>h.IsStrIter s1.heap.objs.size nm z t i)) ->
  n.IsStrIter s1.heap.objs.size nm z t 0->P4 X a σ (.Tuple g k j) R (.ref (s1.8+1)) {s1 with heap:=n}:=by
  intro nm D d;refine{s1.8+1,[s1.8+1,s1.8],_,_,x,rfl,L,Ct z t nm _ _ (Ŀ (Ł _)) D,{{{_,y},d},à _},λb o=>?_,q}
  have f:s1.8<=b:=by
   rcases Þ.mp o with rfl |o
   .exact Ĩ _
   .have M:b=s1.8:=by simpa using o
    subst M;exact Ç _
  exact m.E4 f (m.b7.fresh f)
 cases ha:z.cps.all (· < 128)
 .exact fin "str_iterator" (λA r=>Draws.strWide r _ z t) (by simpa [strIterType,ha] using hit)
 .exact fin "str_ascii_iterator" (λA r=>Draws.strAscii r _ z t) (by simpa [strIterType,ha] using hit)
theorem Fb{P:É}{w:World}{K:À}{T:Expr}(d it:Addr)(o:Obj)(kvs:List (Key×V))(U:Array DictEntry)(ep:Nat)(J:o.data=.dict U ep):Turn P w K T (Jw d o kvs) [it] it (λi h=>h.IsKeyIter it d i kvs.length ep) where
 mem:=by simp
 obj:=λi h st b f=>by
  have e:b=it:=by simpa using f
  subst e
  let{o,e,c,p}:=st
  exact{o,e,λv z=>by rw[p]at z;cases z}
 keep:=λi h m st k=>st.at λo e=>k it (by simp) o e
 item:=by
  intro X q hw r hc i a s σ H E I n st u;subst q hw r
  let{x,hi}:=u
  let{L,rel,g}:=Br I x J
  have G:kvs[i]?=ρ kvs[i]:=by simp[hi]
  let{{k,v},M,N,_}:=Hv rel G
  let{A,f1,f2,B,C,D}:=n it (by simp)
  rw[rel.9]at st;refine wpAny_pyNext_dict_item st g M λkey m l j O=>?_;have Q:Inv X a σ H {s with heap:=m}:=I.turned (t':=s.toks) (λb o f e=>(O.2 b f).trans e) A f1 B C D
  let{Y,e,c,p}:=id j
  rw[<-rel.9]at j;refine{key,rfl,CT (s:={s with heap:=m}) e c p ⋯ {kV kvs[i].1,H,Q,?_,{rfl,_,G,rfl},j,λb f=>(n b f).1}};have R:kvs[i].1=k:=N;rw[R];rcases bT l with⟨i,t,rfl,rfl⟩ |⟨y,t,rfl,rfl⟩
  .exact⟨t,rfl⟩
  .exact⟨t,rfl⟩
 done:=by
   intro X q hw r hc i a s σ H E I n st u;subst q hw r
   let{x,hi}:=u
   let{L,rel,g}:=Br I x J
   let{A,f1,f2,B,C,D}:=n it (by simp)
   rw[rel.9]at st hi;exact wpAny_pyNext_dict_end (I.ok.hd hc) st g (by simp;omega) λm S=>{rfl,I.turned (t':=s.toks) (λb o f e=>S b o f e) A f1 B C D}
 self:=λ_ _ _ _ _ st h=>wpAny_pyIter_keyiter st h
theorem tS{l:Expr}{p:TE}(hl:PE X l p):PI X tg l (OT p):=by
 refine{?_};intro a s σ H R I h;refine bU (hl a s σ H _ I h) λv s1 ⟨x,C,k,r,i⟩=>?_
 let{d,f,e,q}:=i
 subst e;cases r
 have key:∀{g:Hp} {o:Obj},Inv X a σ g s1->g d=ρ (.frz o (.dK f))->R (Jw d o f) g->wpAny (model X.prog X.w) X.A (pyIter (.ref d)) (P4 X a σ tg R) X.xe s1:=λ{g o} c hd t=>by
  let{D,lo,u,m,E,y,z,i,G,n,J}:=lj c.b7 (.inr ⟨o,hd⟩)
  let{B,_}:=c.b7 d _ hd
  rw[B]at i;cases i
  let{L,rel,j}:=Br c hd n
  refine wpAny_pyIter_dict lo j ?_;refine{s1.8,[s1.8],_,_,g,rfl,c.kept (t':=s1.toks) λb o e=>Ð _ e,Fb d _ o f y z n,{_,ç _ rfl,rfl,by rw[rel.9];rfl},λb M=>?_,t};have e:b=s1.8:=by grind
  subst e;exact c.E4 (Ç _) (c.b7.fresh (Ç _))
 rcases q with⟨hd,q⟩ |⟨o,hd,q⟩
 .let{o,N,c}:=k.freeze hd
  exact key c a6 (q o)
 .exact key k hd q
theorem Cu{K:À}{J:It}{Ok:Hp->Prop}{rs:List Addr}{prs:List (V×V)}{l:Addr}{r:St}{T:TT}{U:TE}{H:Hp}{Q:Hp->Prop}(p:V×V->Bool)(g:V×V->V)(I:kX J Ok (rs.map V.ref))(hT:bq H rs (prs.map nc))(hl:H l=τ)(hz:rs.9<=sizeLine)(t:∀H',a7 H H'->Ok H')
 (ht:∀q j C,q∈prs->a7 H j->(∀H',a7 j H'->C (p q) H')->T (ρ q.1::ρ q.2::r) j C)
 (he:∀q j C,q∈prs->p q=true->a7 H j->(∀H',a7 j H'->C (g q) H')->U (ρ q.1::ρ q.2::r) j C)
 (hd:∀H',a7 H H'->H' l=ρ (.lst ((prs.filter p).map g))->Q H'):oj K J l r T U H Q:=by
 have d:rs.9=prs.9:=by rw[hT.1,Á]
 refine{λi m n c=>m=rs.9-i/\i<=rs.9/\a7 H c/\c l=ρ (.lst n)/\n=((prs.take i).filter p).map g,{rs.9,by simp,à _,a7.upd hl,a6,by simp},?_};rintro i m n c ⟨rfl,hi,s2,h,k⟩;refine{h,?_}
 by_cases a:i<rs.9
 .refine .inr {I.go i c (t _ s2) (by rw[Á];exact a),?_,λx j y=>?_}
  .rw[k,Á];refine ĺ (ě _ _) ?_;rw[â];omega
  .let{e,u}:=I.we i c x j (t _ s2) (by rw[Á];exact a) y
   subst e;have v:prs[i]?=ρ prs[i]:=È 1.0;have w:rs[i]?=ρ rs[i]:=È a;rw[Ê,w]at u;obtain rfl:V.ref rs[i]=x:=Î u;have mem:prs[i]∈prs:=ă _;have z:prs.take (i+1)=prs.take i++[prs[i]]:=by rw[Ē,v];rfl
   refine{rs[i],prs[i].1,prs[i].2,rfl,gF.of (s2 _ _ (hT.2 i rs[i] _ w (by rw[Ê,v];rfl))),ht prs[i] _ _ mem s2 λB f=>?_}
   cases s:p prs[i] with
   |false=>
    rw[if_neg Ý];refine{rs.9-(i+1),1.0,rfl,a,s2.trans f,f _ _ h,?_};rw[z,Ğ,k];simp[s]
   |true=>
    rw[if_pos rfl];refine he prs[i] _ _ mem s (s2.trans f) λD A=>{A _ _ (f _ _ h),rs.9-(i+1),1.0,rfl,a,λb o e=>?_,a6,?_}
    .rw[a9 (ae e hl)];exact A _ _ (f _ _ (s2 _ _ e))
    .rw[z,Ğ,k];simp[s]
 .have e:i=rs.9:=1.0;subst e;refine .inl {?_,hd c s2 ?_}
  .have:=I.stop c (t _ s2);rwa[Á]at this
  .rw[h,k,d,õ]
theorem Fc{K:À}{J:It}{Ok:Hp->Prop}{rs:List Addr}{prs:List (V×V)}{l:Addr}{t:St}{U:TT}{te:TE}{H:Hp}{Q:Hp->Prop}(p:V×V->Bool)(g:V×V->List V)(T:kX J Ok (rs.map V.ref))(hT:bq H rs (prs.map nc))(hl:H l=τ)(hz:rs.9<=sizeLine)(C:∀H',a7 H H'->Ok H')
 (ht:∀q j I,q∈prs->a7 H j->(∀H',a7 j H'->I (p q) H')->U (ρ q.1::ρ q.2::t) j I)
 (he:∀q j I,q∈prs->p q=true->a7 H j->(∀r H',a7 j H'->H' r=ρ (.tup (g q))->I (.ref r) H')->te (ρ q.1::ρ q.2::t) j I)
 (hd:∀ys H',a7 H H'->H' l=ρ (.lst (ys.map V.ref))->bq H' ys ((prs.filter p).map g)->Q H'):oj K J l t U te H Q:=by
 have f:rs.9=prs.9:=by rw[hT.1,Á]
 refine{λi m A c=>m=rs.9-i/\i<=rs.9/\a7 H c/\∃ys:List Addr,A=ys.map V.ref/\c l=ρ (.lst (ys.map V.ref))/\bq c ys (((prs.take i).filter p).map g),{rs.9,by simp,à _,a7.upd hl,[],rfl,a6,by simpa using bq.nil _},?_};rintro i m A c ⟨rfl,hi,s2,ys,rfl,h,k⟩;refine{h,?_}
 by_cases a:i<rs.9
 .refine .inr {T.go i c (C _ s2) (by rw[Á];exact a),?_,λx j y=>?_}
  .rw[Á,k.1,Á];refine ĺ (ě _ _) ?_;rw[â];omega
  .let{e,B}:=T.we i c x j (C _ s2) (by rw[Á];exact a) y
   subst e;have D:prs[i]?=ρ prs[i]:=È 1.0;have E:rs[i]?=ρ rs[i]:=È a;rw[Ê,E]at B;obtain rfl:V.ref rs[i]=x:=Î B;have mem:prs[i]∈prs:=ă _;have G:prs.take (i+1)=prs.take i++[prs[i]]:=by rw[Ē,D];rfl
   refine{rs[i],prs[i].1,prs[i].2,rfl,gF.of (s2 _ _ (hT.2 i rs[i] _ E (by rw[Ê,D];rfl))),ht prs[i] _ _ mem s2 λM d=>?_}
   cases s:p prs[i] with
   |false=>
    rw[if_neg Ý];refine{rs.9-(i+1),1.0,rfl,a,s2.trans d,ys,rfl,d _ _ h,?_}
    have e:((prs.take (i+1)).filter p).map g=((prs.take i).filter p).map g:=by
     rw[G,Ğ];simp[s]
    rw[e];exact k.same d
   |true=>
    rw[if_pos rfl];refine he prs[i] _ _ mem s (s2.trans d) λr N n u=>{n _ _ (d _ _ h),rs.9-(i+1),1.0,rfl,a,λb o e=>?_,ys++[r],by rw[Û];rfl,by rw[a6,Û];rfl,?_}
    .rw[a9 (ae e hl)];exact n _ _ (d _ _ (s2 _ _ e))
    .have e:((prs.take (i+1)).filter p).map g=((prs.take i).filter p).map g++[g prs[i]]:=by
      rw[G,Ğ];simp[s]
     rw[e];have v:=n _ _ (d _ _ h);refine bq.keep ((k.same (d.trans n)).snoc u) λO L w=>?_;rw[a9 (λz=>by rw[z,v]at w;cases w)];exact w
 .have e:i=rs.9:=1.0;subst e;refine .inl {?_,hd ys c s2 h ?_}
  .have:=T.stop c (C _ s2);rwa[Á]at this
  .rw[f,õ]at k;exact k
theorem Am{Ok:Hp->Prop}{Q:Hp->Prop}(R:Nat->V->Hp->Prop)(t:∀i y C g ys,R i y C->C l=ρ (.lst ys)->(∀b o,C b=ρ o->b≠l->g b=ρ o)->R i y g)(I:kX J Ok xs)(hl:H l=τ)(hz:xs.9<=sizeLine)(p:∀H',a7 H H'->Ok H')
 (he:∀i x r ys U,xs[i]?=ρ x->a7 H r->r l=ρ (.lst ys)->(∀y H',a7 r H'->R i y H'->U y H')->te (ρ x::T) r U)
 (hd:∀ys H',a7 H H'->H' l=ρ (.lst ys)->ys.9=xs.9->(∀i y,ys[i]?=ρ y->R i y H')->Q H'):ng J l T tX te H Q:=by
 refine{λi m a g=>m=xs.9-i/\i<=xs.9/\a7 H g/\g l=ρ (.lst a)/\a.9=i/\∀j y,a[j]?=ρ y->R j y g,{xs.9,by simp,à _,a7.upd hl,a6,rfl,λj y h=>by simp at h},?_};rintro i m a g ⟨rfl,hi,s2,f,c,A⟩;refine{f,?_}
 by_cases d:i<xs.9
 .refine .inr {I.go i g (p _ s2) d,by rw[c];lia,λx r y=>?_}
  let{e,B}:=I.we i g x r (p _ s2) d y
  subst e;delta tX;dsimp only;rw[if_pos rfl];refine he i x _ a _ B s2 f λy q s u=>{s _ _ f,xs.9-(i+1),(),rfl,d,λb o e=>?_,a6,by rw[Ò,c];rfl,λj z k=>?_}
  .rw[a9 (ae e hl)];exact s _ _ (s2 _ _ e)
  .have n:=s _ _ f;have kp:∀b o,q b=ρ o->b≠l->(upd q l (.lst (a++[y]))) b=ρ o:=λb o e D=>by rw[a9 D];exact e
   by_cases v:j<a.9
   .rw[ģ v]at k;exact t j z q _ _ (t j z _ _ _ (A j z k) f λb o e _=>s _ _ e) n kp
   .rw[ĉ ()]at k
    have w:j-a.9=0:=by
     have:=(Ô.mp k).1;simp at this
     lia
    rw[w]at k;cases k;have:j=i:=();rw[this];exact t i y q _ _ u n kp
 .have e:i=xs.9:=();subst e;exact .inl {I.stop g (p _ s2),hd a g s2 f c A}
theorem An{K:À}{J:It}{Ok:Hp->Prop}{xs:List V}{l:Addr}{p:St}{T:TE}{H:Hp}{Q:Hp->Prop}(j:List kS)(U:kX J Ok xs)(hl:H l=τ)(hz:xs.9<=sizeLine)(t:j.9=xs.9)(C:∀H',a7 H H'->Ok H')
 (he:∀(i:Nat) (x:V) (d:kS) g I,xs[i]?=ρ x->j[i]?=ρ d->a7 H g->(∀y H',a7 g H'->bQ K (aH g H') d y->I y H')->T (ρ x::p) g I)
 (hd:∀H',a7 H H'->bQ K (aH H H') (.lst j) (.ref l)->Q H'):ng J l p tX T H Q:=by
 refine Am (λi y H'=>∀d,j[i]?=ρ d->∃g o,a7 H g/\g l=ρ o/\bQ K (aH g H') d y) ?_ U hl hz C (λi x g f I k b c m=>?_) (λf H' h n e q=>?_)
 .intro i y v w f r s kp d a
  let{g,o,b,c,r}:=r d a
  exact{g,o,b,c,bQ.same (cb c kp) d y r}
 .have hi:i<j.9:=by rw[t];exact(Ô.mp k).1
  refine he i x j[i] g _ k (È hi) b λy H' h r=>m y H' h λd a=>?_;rw[È hi]at a;cases a;exact{g,_,b,c,r}
 .refine hd H' h {l,f,rfl,.inl (cG hl n),cF.qE j f (by rw[t,e]) λi d y a u=>?_}
  let{g,o,b,c,r}:=q i y u d a
  exact bQ.same (fT b) d y r
theorem Cv{K:À}{J:It}{Ok:Hp->Prop}{xs:List V}{prs:List (V×V)}{l:Addr}{C:St}{tt:TT}{te:TE}{H:Hp}{Q:Hp->Prop}(p:V×V->Bool)(D:V×V->kS)(U:kX J Ok xs)(t:xs.9=prs.9)
 (hT:∀(i:Nat) (q:V×V),prs[i]?=ρ q->∃r,xs[i]?=ρ (.ref r)/\gF K H r [q.1,q.2]) (hl:H l=τ) (hz:xs.9<=sizeLine) (I:∀H',a7 H H'->Ok H')
 (ht:∀q g T,q∈prs->a7 H g->(∀H',a7 g H'->T (p q) H')->tt (ρ q.1::ρ q.2::C) g T)
 (he:∀q g T,q∈prs->p q=true->a7 H g->(∀y H',a7 g H'->bQ K (aH g H') (D q) y->T y H')->te (ρ q.1::ρ q.2::C) g T)
 (hd:∀H' ys,a7 H H'->H' l=ρ (.lst ys)->bQ K (aH H H') (.lst ((prs.filter p).map D)) (.ref l)->Q H'):oj K J l C tt te H Q:=by
 refine{λi m ys k=>m=xs.9-i/\i<=xs.9/\a7 H k/\k l=ρ (.lst ys)/\ys.9=((prs.take i).filter p).9/\∀(j:Nat) (d:kS) (y:V),(((prs.take i).filter p).map D)[j]?=ρ d->ys[j]?=ρ y->∃g o,a7 H g/\g l=ρ o/\bQ K (aH g k) d y,
  {xs.9,by simp,à _,a7.upd hl,a6,by simp,λj d y h=>by simp at h},?_}
 rintro i m ys k ⟨rfl,hi,s2,v,c,X⟩;refine{v,?_}
 by_cases f:i<xs.9
 .have Zn:((prs.take i).filter p).9<=i:=Õ (ě _ _) (by rw[â];omega);refine .inr {U.go i k (I _ s2) f,1.0,λx g y=>?_}
  let{e,hx}:=U.we i k x g (I _ s2) f y
  subst e;have Y:prs[i]?=ρ prs[i]:=È 1.0
  let{r,w,hr}:=hT i _ Y
  rw[hx]at w;cases w;have mem:prs[i]∈prs:=ă _;have Z:prs.take (i+1)=prs.take i++[prs[i]]:=by rw[Ē,Y];rfl
  refine{r,prs[i].1,prs[i].2,rfl,s2.RE hr,ht prs[i] _ _ mem s2 λH4 s=>?_}
  have A:∀(j:Nat) (d:kS) (y:V),(((prs.take i).filter p).map D)[j]?=ρ d->ys[j]?=ρ y->∃g o,a7 H g/\g l=ρ o/\bQ K (aH g H4) d y:=λj d y h1 h3=>by
   let{M,o,B,h5,N}:=X j d y h1 h3
   exact{M,o,B,h5,bQ.same (oy s) d y N}
  cases O:p prs[i] with
  |false=>
   rw[if_neg Ý];have E:(prs.take (i+1)).filter p=(prs.take i).filter p:=by rw[Z,Ğ];simp[O]
   exact{xs.9-(i+1),1.0,rfl,f,s2.trans s,s _ _ v,by rw[E];exact c,by rw[E];exact A}
  |true=>
   rw[if_pos rfl];have E:(prs.take (i+1)).filter p=(prs.take i).filter p++[prs[i]]:=by rw[Z,Ğ];simp[O]
   have u:=s _ _ v;refine he prs[i] _ _ mem O (s2.trans s) λy M B N=>{B _ _ u,xs.9-(i+1),1.0,rfl,f,λb o e=>?_,a6,by rw[E,Ò,Ò,c];rfl,λj d z n a=>?_}
   .rw[a9 (ae e hl)];exact B _ _ (s _ _ (s2 _ _ e))
   .have kp:∀b o,M b=ρ o->b≠l->(upd M l (.lst (ys++[y]))) b=ρ o:=λb o e hb=>by rw[a9 hb];exact e
    rw[E,Û]at n;have R:(((prs.take i).filter p).map D).length=ys.9:=by rw[Á,c]
    by_cases S:j<ys.9
    .rw[ģ 1.0]at n;rw[ģ S]at a
     let{H6,o,s6,h6,r6}:=A j d z n a
     exact{H6,o,s6,h6,bQ.same ((oy B).trans (cb h6 kp)) d z r6}
    .rw[ĉ 1.0]at n a
     have G:j-ys.9=0:=by
      have:=(Ô.mp a).1;simp at this;omega
     rw[R,G]at n;rw[G]at a;cases n;cases a;exact{H4,_,s2.trans s,u,bQ.same (cb u kp) _ _ N}
 .have e:i=xs.9:=1.0;subst e;refine .inl {U.stop k (I _ s2),hd k ys s2 v {l,ys,rfl,.inl (cG hl v),cF.qE _ ys ?_ λj d y n hy=>?_}}
  .rw[t,õ]at c;rw[Á,c]
  .have L:=X j d y;rw[t,õ]at L
   let{g,o,s3,h3,r3}:=L n hy
   exact bQ.same (fT s3) d y r3
theorem jc{K:À}{J:It}{Ok:Hp->Prop}{xs:List V}{prs:List (V×V)}{l:Addr}{j:St}{T:TT}{U:TE}{H:Hp}{Q:Hp->Prop}(p:V×V->Bool)(D:V×V->kS)(hJ:kX J Ok xs)(t:xs.9=prs.9)
 (hT:∀(i:Nat) (q:V×V),prs[i]?=ρ q->∃r,xs[i]?=ρ (.ref r)/\gF K H r [q.1,q.2]) (hl:H l=τ) (hz:xs.9<=sizeLine) (I:∀H',a7 H H'->Ok H')
 (ht:∀q g C,q∈prs->a7 H g->(∀H',a7 g H'->C (p q) H')->T (ρ q.1::ρ q.2::j) g C)
 (he:∀q g C,q∈prs->p q=true->a7 H g->(∀y H',a7 g H'->bQ K (aH g H') (D q) y->C y H')->U (ρ q.1::ρ q.2::j) g C)
 (hd:∀H',a7 H H'->bQ K (aH H H') (.lst ((prs.filter p).map D)) (.ref l)->Q H'):oj K J l j T U H Q:=
 Cv p D hJ t hT hl hz I ht he λH' _ a _ r=>hd H' a r
end
section
variable{X:Cx}{H:Hp}{scope:ý}{x x2 x3:Str}{ys:List Str}{ix:List Nat}{cl:List (Str×Addr)}{L:Addr}
theorem hO(hc:X.calm=true)(B:bZ X scope x ys ix)(T:bZ X scope x2 ys ix)(g:x≠x2)(hi:PI X (.Tuple [.Name x U,.Name x2 j] kt pt) iter wi)
 (ht:∀cl L s H ex pn,JH (bB X scope (x::x2::ys) cl L s H ex pn) p t) (he:∀cl L s H ex pn,PE (bB X scope (x::x2::ys) cl L s H ex pn) r I)
 (hs:∀v,Ň iter X.env v=pure v:=by intro _;rfl):PE X (.ListComp r [⟨.Tuple [.Name x U,.Name x2 j] kt pt,iter,p,0⟩] scope pos) (Ms X.K wi ix t I):=
 ux (C:=λJ l a H Q=>oj X.K J l a t I H Q) (xs:=[x,x2]) hc B (HU hc B T g) (λ_ _ _ _ _=>Gw) hi ht he hs
theorem Ij{X:Cx}{K:À}{o e:Expr}{l:List Expr}{to:TE}{t:TA}{name:Str}{apos g:Pos}{T id:String}{r:V->List V->Hp->VK->Prop}(hK:X.K=K)(pa:wgb T)(slot:Slot T name id)(U:typeOf (.builtin id)=pure (.type "method_descriptor"))(hm:Jb X id r)(ho:PE X o to)(ha:PA X (e::l) t)
 (p:ĩ o name X.env (eval o X.5)=eval o X.5:=by rfl)
 (J:((backTo g (starEach (e::l) X.5)).all (λx=>!x.1)&&(backToKw g (Ĝ [] X.5)).all (λx=>x.1.isSome)
   && decide ((e::l).9+([]:List ĭ).9+(if ([]:List ĭ).isEmpty then 0 else 1)<30))=true:=by rfl)
 (I:(apos.endLine==g.line)=true:=by rfl) (hs:starEach (e::l) X.5=(false,eval e X.5)::starEach l X.5:=by rfl) (j:(backTo g (starEach l X.5)).any (·.1)=false:=by rfl) :
 PE X (.Call (.Attribute o name apos) (e::l) [] g) (QZ K T r to t):=by
 subst hK;exact iy pa slot U hm ho ha p J I hs j
theorem Ik(hc:X.calm=true)(B:bZ X scope x ys ix)(U:bZ X scope x2 ys ix)(B3:bZ X scope x3 ys ix)(g:x≠x2/\x≠x3/\x2≠x3)(hi:PI X (.Tuple [.Name x px,.Name x2 j,.Name x3 p] kt pt) iter wi)
 (ht:∀cl L s H ex pn,JH (bB X scope (x::x2::x3::ys) cl L s H ex pn) r I) (he:∀cl L s H ex pn,PE (bB X scope (x::x2::x3::ys) cl L s H ex pn) t T)
 (hs:∀v,Ň iter X.env v=pure v:=by intro _;rfl):PE X (.ListComp t [⟨.Tuple [.Name x px,.Name x2 j,.Name x3 p] kt pt,iter,r,0⟩] scope pos) (Mt X.K wi ix I T):=
 ux (C:=λJ l a H Q=>uw X.K J l a I T H Q) (xs:=[x,x2,x3]) hc B (HV hc B U B3 g) (λ_ _ _ _ _=>Gx) hi ht he hs
end
theorem Ao{X:Cx}(hl:PE X l g)(r:∀{σ H} {Q p:VK},(∀x j,Q x j->p x j)->g σ H Q->g σ H p:=by intro _ _ _ _ h q;let{v,e,q}:=q;exact{v,e,h _ _ q}):PI X t l (M0 g):=by
 refine{?_};intro c s σ H R I h;refine tS hl c s σ H R I (r (λx j q=>?_) h)
 let{d,f,e,a,b}:=q
 exact{d,f,e,zy a b}
section
variable{X:Cx}{pos:Pos}
theorem forA(hi:PI X j iter l)(r:PG X j g)(I:yz X body J)(T:wgG (model X.prog X.w) X.A X.env X.xe:=by exact Ũ)(hc:X.calm=true:=by rfl)(U:∀x,Ň iter X.env x=pure x:=by intro _;rfl):PS X (.For j iter body [] pos) (Md l g J):=Bv T hc hi r I U
end
section
variable{X:Cx}{o e f:Expr}{apos ez:Pos}{td ty tx:TE}
theorem Cw(t:PE X o td)(he:PE X e ty)(C:PE X f tx)(m:M2 X o "setdefault" apos e f ez):PE X (.Call (.Attribute o "setdefault" apos) [e,f] [] ez) (OW td ty tx):=by
 refine{?_};intro b s σ H Q I h;refine wpAny_Call_method m.base m.few m.line wd1 weM PySem.F.type_dict_setdefault (bU (t b s σ H _ I h) λu s1 ⟨x,A,j,B,a,ex,d,D⟩=>?_);subst ex;obtain rfl:u=Ä a:=B
 let{E,G,_}:=Gk j d
 refine{E,G,?_};rw[m.trees]
 refine wcy rfl (wdq (ų (bU (he b s1 σ A _ j D) λiv s2 ⟨y,J,L,M,N⟩=>
  ų (bU (C b s2 σ J _ L N) λO s3 ⟨z,R,i,l,S⟩=>we6 ?_))))
 let{c,k,n,T,U,V,Y}:=S
 subst T
 let{Z,hd,vs,rel,p}:=rH i.b7 n
 refine wfl weM p.typeIs PySem.F.entry_dict_setdefault (PySem.F.args_dict_setdefault_3 _ _ _) (kt_meets_setdefault (bp X.prog X.w) a (tW M) hd O) {vs,p,by rw[<-rel.9];exact Z,λv hv=>?_,λhn h' g hs=>?_}
 .have r:=rel.val k;rw[hv]at r
  cases q:bD c k with
  |none=>rw[q]at r;exact(show False from r).elim
  |some x=>rw[q]at r;exact{x,R,i.tok _,r,V x q}
 .have r:=rel.val k;rw[hn]at r
  have q:bD c k=τ:=by
   cases q:bD c k with
   |none=>rfl
   |some x=>rw[q]at r;exact(show False from r).elim
  have hx:∃q,h'.get? a=ρ q:=let ⟨q,_,_,hq,_⟩:=g;⟨q,hq⟩
  exact{z,_,tL i (by rw[n];exact Ā) hs hx (Bq U hd (rel.put k l) g),l,Y q}
end
end _L
namespace _B
theorem dX.same(h:dX K C H x j ws g)(s:a7 H H'):dX K C H' x j ws g:=by
 let{d,a,b,c,e,f,i,k}:=h
 exact{d,a,b,c,s _ _ e,bQ.same s _ _ f,bQ.same s _ _ i,bQ.same s _ _ k}
theorem qZ.same(h:qZ K C l H x m g p r ws j)(s:a7 H H'):qZ K C l H' x m g p r ws j:=by
 let{e,a,b,c,d,f,i,k,n,o}:=h
 exact{e,a,b,c,d,s _ _ f,s _ _ i,bQ.same s _ _ k,bQ.same s _ _ n,o.same s}
theorem bq.same(h:bq H rs g)(s:a7 H H'):bq H' rs g:={h.1,λi r c a b=>s _ _ (h.2 i r c a b)}
theorem gN.same{wl:List (List (Str×Nat))}(h:gN H a wl)(s:a7 H H'):gN H' a wl:=by
 let{e,f,g}:=h
 refine{e,s _ _ f,λw=>?_};rcases g w with z |⟨l,i,ps,a,b,c,d⟩
 .exact .inl z
 .exact .inr {l,i,ps,a,s _ _ b,c.same s,d}
theorem dm.same{g H H':Hp}{done:List wt}(h:dm g H a done)(s:a7 H H'):dm g H' a done:=by
 let{f,fa,e,i,j,k,m}:=h
 refine{f.trans s,fa,e,s _ _ i,j,λw=>?_,m};rcases k w with z |⟨l,n,a,b,c,d⟩
 .exact .inl z
 .exact .inr {l,n,a,b,s _ _ c,d.same s}
theorem dm.step{B H:Hp}{done:List wt}{g:Addr}(M:dm B H a done)(p:H g=τ)(w:Str)(i e:Nat):∃kvs:List (Key×V),(upd H g (.lst [])) a=ρ (.dK kvs)/\kvs.9<=done.9 /\
 (∀v,bD kvs (Ã w:Key)=ρ v->∃(l:Addr) (rs:List Addr),v=.ref l/\(upd H g (.lst [])) l=ρ (.lst (rs.map V.ref))/\rs.9<=done.9/\∀r,(upd H g (.lst [])) r=τ->dm B (upd (upd (upd H g (.lst [])) r (.tup (nq (i,e)))) l (.lst (rs.map V.ref++[.ref r]))) a (done++[(i,w,e)])) /\
 (bD kvs (Ã w:Key)=τ->(upd (upd H g (.lst [])) a (.dK (putK kvs (Ã w:Key) (.ref g)))) g=ρ (.lst (([]:List Addr).map V.ref))/\∀r,(upd (upd H g (.lst [])) a (.dK (putK kvs (Ã w:Key) (.ref g)))) r=τ->dm B (upd (upd (upd (upd H g (.lst [])) a (.dK (putK kvs (Ã w:Key) (.ref g)))) r (.tup (nq (i,e)))) g (.lst (([]:List Addr).map V.ref++[.ref r]))) a (done++[(i,w,e)])):=by
 have s1:a7 H (upd H g (.lst [])):=a7.upd p;have I:(upd H g (.lst [])) g=ρ (.lst []):=a6;have M1:=M.same s1;have J:B g=τ:=none_of M.s p;have nl:∀{c o},H c=ρ o->c≠g:=λh z=>by rw[z,p]at h;cases h
 let{_,_,b,A,_,L,_}:=id M
 generalize upd H g (.lst [])=G at *
 let{s,fa,kvs,j,C,m,D}:=M1
 have N:b=kvs:=by have:=s1 _ _ A;rw[j]at this;cases this;rfl
 subst N;refine{b,j,C,λv d=>?_,λhn=>?_}
 .rcases m w with⟨z,_⟩ |⟨l,rs,a1,a2,a3,f⟩
  .rw[z]at d;cases d
  .rw[a1]at d;cases d;refine{l,rs,rfl,a3,?_,λr n=>dm.add s fa j (wh4 C) a1 a2 a3 f (λv _=>m v) D n};have:=f.1;rw[Á]at this;rw[this];delta pairsOf;rw[Á];exact ě ..
 .have na:a≠g:=nl A;have E:(upd G a (.dK (putK b (Ã w:Key) (.ref g)))) g=ρ (.lst []):=by rw[a9 na.symm];exact I
  have O:a7 B (upd G a (.dK (putK b (Ã w:Key) (.ref g)))):=λc o h=>by rw[a9 (ae h fa)];exact s _ _ h
  refine{E,λr n=>dm.add (rs:=[]) O fa a6 ?_ (by rw[u9,if_pos rfl]) J E ?_ (λv d=>?_) (λu v l x y=>?_) n}
  .have:=gf b (Ã w:Key) (.ref g);lia
  .rcases m w with⟨_,z⟩ |⟨l,rs,a1,_⟩
   .rw[z];exact bq.nil _
   .rw[hn]at a1;cases a1
  .rw[u9,if_neg (λz=>d (Đ z))];rcases m v with z |⟨l,rs,a1,a2,a3,f⟩
   .exact .inl z
   .have n1:l≠a:=λz=>by rw[z,j]at a3;cases a3
    exact .inr {l,rs,a1,a2,by rw[a9 n1];exact a3,f.1,λi q Q x y=>by
     have h:=f.2 i q Q x y
     rw[a9 (λz=>by rw[z,j]at h;cases h)];exact h}
  .rw[u9]at x y
   have old:∀{v:Str} {l:Addr},bD b (Ã v:Key)=ρ (.ref l)->l≠g:=λ{v l} h=>by
    rcases L v with⟨z,_⟩ |⟨R,rs,a1,a2,a3,f⟩
    .rw[z]at h;cases h
    .rw[a1]at h;cases h;exact nl a3
   by_cases t:u=w
   .by_cases k:v=w
    .rw[t,k]
    .rw[if_pos (congrArg Ã t)]at x;rw[if_neg (λz=>k (Đ z))]at y;cases x;exact absurd rfl (old y)
   .rw[if_neg (λz=>t (Đ z))]at x
    by_cases k:v=w
    .rw[if_pos (congrArg Ã k)]at y;cases y;exact absurd rfl (old x)
    .rw[if_neg (λz=>k (Đ z))]at y;exact D u v l x y
theorem dm.over{p g j:Hp}{done:List wt}(M:dm p g a done)(s:a7 g j):dm (lA p g j) j a done:=by
 let{i,fa,b,d,k,m,n}:=id M
 let{_,_,f,g1,_,g3,_}:=M.same s
 have q:f=b:=by have:=s _ _ d;rw[g1]at this;cases this;rfl
 subst q;refine{λc o h=>?_,by unfold lA;rw[d];exact fa,f,g1,k,λw=>?_,n}
 .unfold lA at h
  cases e:g c with
  |none=>rw[e]at h;exact h
  |some u=>rw[e]at h;exact s _ _ (i _ _ h)
 .rcases m w with z |⟨l,r,a1,a2,a3,t⟩
  .exact .inl z
  .exact .inr {l,r,a1,by unfold lA;rw[a3];exact a2,s _ _ a3,t.same s}
end _B
namespace _S
structure kP(K:À)(C CB:Addr)(nm:Str):Prop where
 lk:∃(q:Str) (N:Addr) (bs:List Value) (sn:List Str) (sub:List Value) (ab:Bool) (col:Option Bool) (dd:Option Addr) (k0 k1 k2 k3 k5:Option Value),
  K.lookup C=ρ (Ă nm q C N bs (oz CB) true sn sub ab col dd k0 k1 k2 k3 k5 "ValueError.__new__")
theorem DF
 (l:K.lookup C=ρ (Ă nm q C N bs (oz CB) true sn sub ab col dd k0 k1 k2 k3 k5 "ValueError.__new__")):kP K C CB nm:=⟨q,N,bs,sn,sub,ab,col,dd,k0,k1,k2,k3,k5,l⟩
theorem Ku
 (l:K.lookup CB=ρ (Ă nm q CB N bs Qb hd sn sub ab col dd k0 k1 k2 k3 k5 "ValueError.__new__")):z7 K CB nm:=⟨q,N,bs,hd,sn,sub,ab,col,dd,k0,k1,k2,k3,k5,l⟩
inductive Nw(K:À)(C:Addr)(vs:List V)(H:Hp)(Q:VK)(d8:XK):Prop
 |mk (x many hs ws dq) (_:vs=[.ref x,.int many]) (_:dX K C H x hs ws dq) (_:dq.9<=1000) (_:(∀l∈dq,l.9<=10000)) (_:∀(l:Addr) (ks:List Nat) (H':Hp),a7 H H'->H l=τ->H' l=ρ (.lst ((nI ks).map V.int))->HZ dq many ks->Q (.ref l) H')
noncomputable def Qf(wl:List (List (Str×Nat)))(b c:Nat)(ts:List Nat):Str:=(eJ wl 0 (Ú b 0)).1++(eJ wl (eJ wl 0 (Ú b 0)).2 (ts++Ú c 0)).1
end _S
local macro_rules|`(tactic|ac_rfl)=>`(tactic|try dsimp only[K61.cB,K61.cC,K61.aZ,K61.b0])
namespace K61
section
variable{P:É}{K:À}
inductive Il(K:À)(CB:Addr)(cs:List (Addr×Str))(vs:List V)(H:Hp)(Q:VK)(d8:XK):Prop
 |mk (e C nm od ix) (_:vs=[.ref e]) (_:H e=ρ (XC e C od)) (_:∀d,od=ρ d->∃fs,H d=ρ (.xd fs)) (_:bf K C CB nm) (_:pz K C) (_:∀(i:Nat) p,cs[i]?=ρ p->Œ K (.ref C) (.ref p.1)=ρ (decide (nm=p.2))) (_:ix<8) (_:nm=B6.getD ix "") (_:∀H',a7 H H'->Q (.int (ix:Int)) H')
inductive Im(S:Sp)(CD CB CN:Addr)(K:À)(vs:List V)(H:Hp)(Q:VK)(d8:XK):Prop
 |v (x dx:Addr) (v wv:V) (r:Str) (P:Str->Prop) (_:vs=[.ref x,.str r]) (_:H x=ρ (eD CD dx v wv)) (_:∀(Q:VK) (E:XK),(∀t H',P t->a7 H H'->Q (.str t) H')->S [.ref x,.str r] H Q E) (_:∀(p:Addr) (t:Str) (H':Hp),P t->a7 H H'->H' p=ρ (.tup [.str t,.non])->Q (.ref p) H')
 |e (x dx:Addr) (v wv:V) (r:Str) (C:Addr) (nm:Str) (_:vs=[.ref x,.str r]) (_:H x=ρ (eD CD dx v wv)) (_:∀(Q:VK) (E:XK),(∀H',a7 H H'->E (.ref C) τ H')->S [.ref x,.str r] H Q E) (_:bf K C CB nm) (_:∀(p e:Addr) (H':Hp),a7 H H'->H' p=ρ (.tup [.non,.ref e])->H' e=ρ (XC e C τ)->Q (.ref p) H')
 |d (x dx:Addr) (v wv:V) (r nm:Str) (_:vs=[.ref x,.str r]) (_:H x=ρ (eD CD dx v wv)) (_:∀(Q:VK) (E:XK),Ln CN (.int (0:Nat)) H E->S [.ref x,.str r] H Q E) (_:bf K CN CB nm) (_:∀(p e d:Addr) (H':Hp),a7 H H'->H' p=ρ (.tup [.non,.ref e])->H' e=ρ (XC e CN (ρ d))->H' d=ρ (.xd [("number",.int (0:Nat))])->Q (.ref p) H')
end
structure Lk(K:À)(mg:Str->Option Value) where
 T:Txt mg
 (rQ rS y3 lN lO kj nv pA pB jS gw jd hU iF vj nA rT kl vk lP rV vm lQ pC DG vn Ap rW km fy eh iG nB je vo y4 jT nC nD pD rX y9 oA Aq lR fU nE lS gx pE hV f7 lT jf pF jU ya kn fz pG Ar fA ko lU nF lV lW lX rY nG rZ vp As jg hX gy vq jh ji se sf pH sh pI kq nH vr si lY dh:Addr)
 (sj sq yc lZ m4 kr nJ pJ pK pL ku jk hZ iH vt nK sr ky vv m9 su vx mc pM DH vy Au sv kz iI et iJ nL jl vz yd jV nM nN pN sx ye vA Av md jm nO me kA pO i3 f9 mh jn pP pQ yf kB fB pR Aw iK kC mi nP mj ml mm sy nQ sA vB Ax jo i5 kD vC jq jr sC sD pT sE pU kE nR vD sF sG fM:î)
 mn:FnAt K mg "all_among" (top 21) ["text","signs"] rQ sj
 sH:FnAt K mg "are_signs" (top 22) ["thing"] rS sq
 yg:FnAt K mg "is_word" (top 23) ["thing","signs"] y3 yc
 mq:FnAt K mg "check_barred" (top 24) ["barred","signs"] lN lZ
 i6:FnAt K mg "bears_barred" (top 25) ["row","barred"] lO m4
 kF:FnAt K mg "sorted_places" (top 26) ["barred"] kj kr
 nT:FnAt K mg "longest_end" (top 27) ["row","places"] nv nJ
 pV:FnAt K mg "moves_from" (top 28) ["place","signs","barred","places"] pA pJ
 pW:FnAt K mg "leads_into" (top 29) ["ends","lot"] pB pK
 pX:FnAt K mg "live_among" (top 30) ["moves"] jS pL
 sI:FnAt K mg "ends_from" (top 33) ["band","place"] rV su
 vE:FnAt K mg "all_ends" (top 34) ["band"] vm vx
 dH:FnAt K mg "counts_up_to" (top 35) ["band","length"] lQ mc
 pY:FnAt K mg "count_from" (top 36) ["band","place","length"] pC pM
 DI:FnAt K mg "count" (top 37) ["band","length"] DG DH
 dI:FnAt K mg "is_whole" (top 39) ["thing"] vn vy
 pZ:FnAt K mg "row_at" (top 42) ["band","length","number"] Ap Au
 sJ:FnAt K mg "number_of" (top 43) ["band","row"] rW sv
 kG:FnAt K mg "steps_by_word" (top 45) ["writer"] km kz
 oB:FnAt K mg "all_rows" (top 49) ["band","wide"] vo vz
 rj:FnAt K mg "is_rate" (top 50) ["band","many","wide"] y4 yd
 cK:FnAt K mg "check_rate" (top 51) ["band","many","wide"] jT jV
 nU:FnAt K mg "longer_rows" (top 52) ["band","rows"] nC nM
 iU:FnAt K mg "blocks_from" (top 53) ["band","place","wide"] nD nN
 q4:FnAt K mg "block_ends" (top 55) ["band","wide"] pD pN
 sL:FnAt K mg "weight_of" (top 56) ["places","weights"] rX sx
 yh:FnAt K mg "lowered" (top 57) ["ends","many","weights"] y9 ye
 vF:FnAt K mg "greatest" (top 58) ["band","many","wide","most"] oA vA
 Ay:FnAt K mg "scarce" (top 59) ["band","many","wide","most"] Aq Av
 mr:FnAt K mg "copied_steps" (top 61) ["line"] lR md
 iV:FnAt K mg "first_sheet" (top 63) ["band","many","wide","weights"] nE nO
 i7:FnAt K mg "copied_sheet" (top 72) ["sheet"] lS me
 i9:FnAt K mg "check_not_scarce" (top 74) ["band","many","wide"] hV i3
 fb:FnAt K mg "weights_of_least_most" (top 75) ["band","many","wide"] f7 f9
 mw:FnAt K mg "reached_from" (top 76) ["sheet","desk"] lT mh
 js:FnAt K mg "closed_weights" (top 77) ["band","many","wide","weights"] jf jn
 jW:FnAt K mg "steps_into" (top 78) ["line","desks"] pF pP
 q9:FnAt K mg "kept_desks" (top 79) ["sheet","many"] jU pQ
 mS:FnAt K mg "plan_of" (top 83) ["band","many","wide"] ya yf
 kH:FnAt K mg "blocks_behind" (top 85) ["band","wide"] kn kB
 fC:FnAt K mg "steps_by_new_numbers" (top 86) ["line","kept","many"] fz fB
 gP:FnAt K mg "check_data" (top 87) ["data","many"] pG pR
 vG:FnAt K mg "walked" (top 88) ["lines","desk","data"] Ar Aw
 iL:FnAt K mg "is_number" (top 94) ["word"] rY sy
 iW:FnAt K mg "are_numbers" (top 95) ["words"] nG nQ
 mx:FnAt K mg "is_length" (top 96) ["word"] rZ sA
 vH:FnAt K mg "has_form" (top 97) ["first","others"] vp vB
 vI:FnAt K mg "listed" (top 99) ["things"] As Ax
 dZ:FnAt K mg "answer_of_band" (top 100) ["band","first","others"] jg jo
 d4:FnAt K mg "answer_of_writer" (top 101) ["writer","first","others"] hX i5
 gm:FnAt K mg "_law_cell" (top 104) ["_law_script","_law_place"] se sC
 iM:FnAt K mg "_law_draw" (top 105) ["_law_cell_here","_law_turn","_law_many"] sf sD
 qa:FnAt K mg "_law_signs" (top 106) ["_law_cell_here"] pH pT
 sM:FnAt K mg "_law_word" (top 107) ["_law_cell_here","_law_signs_here"] sh sE
 qc:FnAt K mg "_law_words" (top 108) ["_law_script","_law_at","_law_signs_here","_law_most"] pI pU
 kI:FnAt K mg "_law_band_row" (top 109) ["_law_script","_law_at"] kq kE
 eK:FnAt K mg "_law_caught" (top 110) ["_law_desk","_law_row"] nH nR
 vJ:FnAt K mg "_law_odd" (top 111) ["_law_k"] vr vD
 bX:FnAt K mg "_law_sort" (top 112) ["_law_e"] si sF
 sN:FnAt K mg "_law_good" (top 113) ["_law_desk","_law_state","_law_k"] lY sG
 fN:FnAt K mg "_law_none_or_length" (top 114) ["_law_desk","_law_found","_law_caught_here"] dh fM
 au:Addr
 Nx:mg "Band"=ρ (.ref au)
 aJ:Kl K au
 Kv:Mk K au gw
 b4:Addr
 Az:mg "Reader"=ρ (.ref b4)
 aO:Ei K b4
 yi:Mk K b4 fy
 aX:Addr
 DJ:mg "Sheet"=ρ (.ref aX)
 bg:GX K aX
 AA:Mk K aX fU
 aP:Addr
 Ny:mg "Plan"=ρ (.ref aP)
 d5:JS K aP
 Kw:Mk K aP gx
 ao:Addr
 Io:mg "Writer"=ρ (.ref ao)
 aq:EL K ao
 Fd:Mk K ao fA
 aK:Addr
 Nz:mg "Desk"=ρ (.ref aK)
 aN:JT K aK
 Kx:Mk K aK gy
 kJ:cu K au "__init__" "Band.__init__" (inClass (top 31) 0) ["self","signs","barred"] gw ku
 fV:cu K au "check_row" "Band.check_row" (inClass (top 31) 1) ["self","row"] jd jk
 eX:cu K au "check_place" "Band.check_place" (inClass (top 31) 2) ["self","place"] hU hZ
 iN:cu K au "check_live" "Band.check_live" (inClass (top 31) 3) ["self","place"] iF iH
 Ip:cu K au "is_good" "Band.is_good" (inClass (top 31) 4) ["self","row"] vj vt
 nV:cu K au "places" "Band.places" (inClass (top 31) 5) ["self"] nA nK
 iO:cu K au "live" "Band.live" (inClass (top 31) 6) ["self"] rT sr
 kK:cu K au "place_of" "Band.place_of" (inClass (top 31) 7) ["self","row"] kl ky
 oC:cu K au "led" "Band.led" (inClass (top 31) 8) ["self","place","sign"] vk vv
 my:cu K au "longest" "Band.longest" (inClass (top 31) 9) ["self"] lP m9
 fD:cu K b4 "__init__" "Reader.__init__" (inClass (top 47) 0) ["self","writer"] fy iI
 eu:cu K b4 "blocks_in_window" "Reader.blocks_in_window" (inClass (top 47) 1) ["self"] eh et
 fE:cu K b4 "words_in" "Reader.words_in" (inClass (top 47) 5) ["self","length"] iG iJ
 nW:cu K b4 "read" "Reader.read" (inClass (top 47) 6) ["self","row"] nB nL
 fW:cu K b4 "touched" "Reader.touched" (inClass (top 47) 7) ["self","length","number"] je jl
 fX:cu K aX "__init__" "Sheet.__init__" (inClass (top 62) 0) ["self","homes","weights","lines"] fU jm
 kL:cu K aP "__init__" "Plan.__init__" (inClass (top 73) 0) ["self","weights","splits","kept","last"] gx kA
 qe:cu K aP "sheet" "Plan.sheet" (inClass (top 73) 1) ["self"] pE pO
 iP:cu K ao "__init__" "Writer.__init__" (inClass (top 89) 0) ["self","band","many","wide"] fA iK
 eO:cu K ao "behind" "Writer.behind" (inClass (top 89) 1) ["self"] ko kC
 fF:cu K ao "ahead" "Writer.ahead" (inClass (top 89) 2) ["self"] lU mi
 iX:cu K ao "lead" "Writer.lead" (inClass (top 89) 4) ["self"] nF nP
 mz:cu K ao "desks" "Writer.desks" (inClass (top 89) 5) ["self"] lV mj
 mB:cu K ao "steps" "Writer.steps" (inClass (top 89) 7) ["self","desk"] lW ml
 ia:cu K ao "write" "Writer.write" (inClass (top 89) 8) ["self","data"] lX mm
 kM:cu K aK "__init__" "Desk.__init__" (inClass (top 102) 0) ["self"] gy kD
 bP:cu K aK "say" "Desk.say" (inClass (top 102) 1) ["self","row"] vq vC
 jt:cu K aK "take_band" "Desk.take_band" (inClass (top 102) 2) ["self","signs","barred"] jh jq
 fY:cu K aK "take_rate" "Desk.take_rate" (inClass (top 102) 3) ["self","many","wide"] ji jr
 aG:Addr
 sP:mg "BandError"=ρ (.ref aG)
 XT:z7 K aG "BandError"
 XB:L9 K aG
 mU:Addr
 Fe:mg "NoSigns"=ρ (.ref mU)
 Ff:kP K mU aG "NoSigns"
 mV:Addr
 Fg:mg "TooMany"=ρ (.ref mV)
 Fh:kP K mV aG "TooMany"
 qf:Addr
 Iq:mg "NoWord"=ρ (.ref qf)
 Ir:kP K qf aG "NoWord"
 tT:Addr
 Ky:mg "NoRow"=ρ (.ref tT)
 Kz:kP K tT aG "NoRow"
 qg:Addr
 Iu:mg "Barred"=ρ (.ref qg)
 Iv:kP K qg aG "Barred"
 mW:Addr
 Fi:mg "NoPlace"=ρ (.ref mW)
 Fj:kP K mW aG "NoPlace"
 bC:Addr
 oE:mg "NoNumber"=ρ (.ref bC)
 jX:bf K bC aG "NoNumber"
 Cy:pz K bC
 sQ:ø K (.ref bC) "__init__"=ρ (ρ (.builtin "ValueError.__init__"))
 cj:Addr
 AB:mg "NoRate"=ρ (.ref cj)
 ju:bf K cj aG "NoRate"
 Iw:pz K cj
 Fl:ø K (.ref cj) "__init__"=ρ (ρ (.builtin "ValueError.__init__"))
 mX:Addr
 Fm:mg "NoSplit"=ρ (.ref mX)
 Fn:kP K mX aG "NoSplit"
 jY:Addr
 Cz:mg "NoLength"=ρ (.ref jY)
 CA:kP K jY aG "NoLength"
 gn:Addr
 AD:mg "Scarce"=ρ (.ref gn)
 qh:bf K gn aG "Scarce"
 Qg:pz K gn
 fG:Addr
 iQ:î
 Iy:zo K "__init__" "Scarce.__init__" (inClass (top 13) 0) fG iQ
 Iz:Binds K iQ ["self","length","rows"] []
 Oe:ø K (.ref gn) "__init__"=ρ (ρ (.ref fG))
 Of:wet K (.ref fG)=true
 FO:ø K (.ref gn) "length"=ρ τ
 Jg:ø K (.ref gn) "rows"=ρ τ
 rk:Addr
 IA:mg "Open"=ρ (.ref rk)
 za:bf K rk aG "Open"
 T4:pz K rk
 Rg:ø K (.ref rk) "__init__"=ρ (ρ (.builtin "ValueError.__init__"))
 aT:Addr
 vK:mg "NoData"=ρ (.ref aT)
 dJ:bf K aT aG "NoData"
 AF:pz K aT
 dn:Addr
 fH:î
 AG:zo K "__init__" "NoData.__init__" (inClass (top 15) 0) dn fH
 vL:Binds K fH ["self","number"] []
 yj:ø K (.ref aT) "__init__"=ρ (ρ (.ref dn))
 yk:wet K (.ref dn)=true
 gz:ø K (.ref aT) "number"=ρ τ
 dM:Addr
 AH:mg "NoForm"=ρ (.ref dM)
 vM:bf K dM aG "NoForm"
 IB:pz K dM
 Fo:ø K (.ref dM) "__init__"=ρ (ρ (.builtin "ValueError.__init__"))
 dN:Addr
 AI:mg "NoBand"=ρ (.ref dN)
 vN:bf K dN aG "NoBand"
 IC:pz K dN
 Fp:ø K (.ref dN) "__init__"=ρ (ρ (.builtin "ValueError.__init__"))
 cy:Addr
 vO:mg "NoWriter"=ρ (.ref cy)
 oF:bf K cy aG "NoWriter"
 CC:pz K cy
 AJ:ø K (.ref cy) "__init__"=ρ (ρ (.builtin "ValueError.__init__"))
 vP:∃t,mg "MOST_BLOCKS"=ρ (.int 24 t)
 vQ:∃t,mg "MOST_WEIGHT"=ρ (.int 8 t)
 kQ:∃t,mg "MOST_WEIGHT_IN_ALL"=ρ (.int 40 t)
 sZ:∃t,mg "MOST_FIGURES"=ρ (.int 60 t)
 wy:∃t,mg "MOST_SIGNS"=ρ (.int 200 t)
 CG:∃t,mg "FIGURES"=ρ (.str (æ "0123456789") t)
 known:∃t,mg "KNOWN_SIGNS"=ρ (.str iC t)
section
variable{P:É}{w:World}{K:À}{mg:Str->Option Value}{base:Heap}
theorem t9(L:Lk K mg):aI P w K mg base cz 1 L.lR L.md ["line"] (HG K):=by
 refine L.mr.F.d2 (N:=["line"]) (λo A outer s H D Q E nd c h=>?_)
 let{v,p,rfl,t,hn,k}:=h
 refine{_,(a8 (aj (hO rfl (az [] []) (az [] []) ⋯ (aW (0)) (λ_ _ _ _ _ _=>bx) (λ_ _ _ _ _ _=>(eC (a5 (0) (aB (1)))))))),?_}
 ac_rfl
 let{a,u,rfl,j,b,x}:=jP t
 have d:=b;rw[Á]at d;refine{1,a,rfl,{_,j},λl hl=>?_};refine jc (prs:=p.map iz) (λ_=>true) (λq=>.tup [.at q.1,.at q.2]) (aU K a u) b (λi q e=>let ⟨r,y,B⟩:=x i q e;{r,y,gF.of B}) hl (ak ()) (λm f=>f.seq j) (λq n C _ _ g=>g n (a7.refl _)) (λq n C e _ G g=>?_) (λm f r=>?_)
 .let{z,I,rfl}:=Å.mp e
  exact{2,by show 2<=sizeLine;decide,λr c=>g _ _ (a7.upd c) (lI c z)}
 .rw[ċ.mpr (λ_ _=>rfl),Ì]at r;exact k _ m f r
theorem iR(L:Lk K mg):aI P w K mg base cz 2 L.fU L.jm ["self","homes","weights","lines"] (HH K L.aX):=by
 have T:=L.T;refine L.fX.F.d2 (N:=["self","homes","weights","lines"]) (λgG A outer s H vs Q E nd hr h=>?_)
 let{x,j,u,v,w,G,I,t,rfl,J,Z,T5,NA,n1,n2,n3,n4,k}:=h
 refine{_,(a0 (c7 (0) (aY dQ (by rfl) T.list ki (aB (1))) rfl)
  (a0 (c7 (0) (aY dQ (by rfl) T.list ki (aB (2))) rfl)
  (a8 (c7 (0) (c6 rfl (az [] []) (aW (3)) (λ_ _ _ _ _ _=>bx) (λ_ _ _ _ _ _=>(ag (t9 L) L.mr (aB (0))))) rfl)))),?_}
 ac_rfl
 let{a,rfl,ha}:=Hx Z
 let{b,rfl,hb}:=pf T5
 let{c,xs,rfl,hc,M}:=NA
 have xl:xs.9=t.9:=by rw[M.len,Á]
 have l:∀{d:Addr} {ys:List V} {H':Hp},aL K H d ys->(∀b o,H b=ρ o->b≠x->H' b=ρ o)->aL K H' d ys:=λhS kp=>(eN kp).seq (yv J hS);refine{1,a,1,.inl ha,λf B=>?_};have m:x≠f:=ae J B;refine{1,x,L.aX,j,[],rfl,by rw[a9 m];exact J,L.bg.cl,L.bg.iB,(show 0<1000 by decide),?_};rw[Lf];have X:∀d o,H d=ρ o->d≠x->(upd (upd H f (.lst (G.map V.str))) x (.ins L.aX j (xI f))) d=ρ o:=λd o e hd=>by rw[a9 hd];exact a7.upd B _ _ e
 have x1:(upd (upd H f (.lst (G.map V.str))) x _) x=ρ (.ins L.aX j (xI f)):=a6;have a1:(upd (upd H f (.lst (G.map V.str))) x (.ins L.aX j (xI f))) f=ρ (.lst (G.map V.str)):=by rw[a9 m.symm,a6]
 generalize upd (upd H f _) x _=O at X x1 a1 ⊢;refine{1,b,1,.inl (l hb X),λg n=>?_};have p:x≠g:=ae x1 n;have Si:f≠g:=ae a1 n
 have Xe:H g=τ:=by
  cases q:H g with
  |none=>rfl
  |some o=>have:=X _ _ q p.symm;rw[n]at this;cases this
 refine{1,x,L.aX,j,xI f,rfl,by rw[a9 p];exact x1,L.bg.cl,L.bg.mL,(show 1<1000 by decide),?_};rw[GK];have C:∀d o,H d=ρ o->d≠x->(upd (upd O g (.lst (I.map V.int))) x (.ins L.aX j (uD f g))) d=ρ o:=λd o e hd=>by rw[a9 hd];exact a7.upd n _ _ (X _ _ e hd)
 have Y:(upd (upd O g (.lst (I.map V.int))) x _) x=ρ (.ins L.aX j (uD f g)):=a6;have a2:(upd (upd O g (.lst (I.map V.int))) x (.ins L.aX j (uD f g))) f=ρ (.lst (G.map V.str)):=by rw[a9 m.symm,a9 Si];exact a1
 have b2:(upd (upd O g (.lst (I.map V.int))) x (.ins L.aX j (uD f g))) g=ρ (.lst (I.map V.int)):=by rw[a9 p.symm,a6]
 generalize upd (upd O g _) x _=H2 at C Y a2 b2 ⊢;have R:=cF.same (eN C) _ _ (cF.off J _ _ M);refine{1,c,rfl,{_,l (.inl hc) C},λc' S=>?_};refine An (K:=K) (t.map ee) (aU K c xs) S (ak ()) (by rw[Á,xl]) (λH' s'=>s'.seq (l (.inl hc) C)) (λi y d U Q' hy hd D qq=>?_) (λU D r3=>?_)
 .let{d',e',r}:=R.get i y hy
  rw[hd]at e';cases e';rw[Ê]at hd
  cases e:t[i]? with
  |none=>rw[e]at hd;cases hd
  |some qs=>
   rw[e]at hd;cases hd;exact{1,y,qs,rfl,bQ.same D _ _ r,n4 qs (ê e),λz H4 s4 r4=>qq z H4 s4 r4}
 .have Zo:x≠c':=ae Y S;refine{1,x,L.aX,j,uD f g,rfl,D _ _ Y,L.bg.cl,L.bg.fw,(show 2<1000 by decide),?_};rw[Dl];have up:a7 (aH H U) (aH H (upd U x (.ins L.aX j (BG f g c')))):=cb J λd o e hd=>by rw[a9 hd];exact e
  have old:a7 (aH H2 U) (aH H U):=λd o e=>by
   unfold aH at e ⊢
   cases q:H d with
   |none=>
    cases q2:H2 d with
    |none=>rw[q2]at e;exact e
    |some z=>rw[q2]at e;cases e
   |some z=>
    by_cases hd:d=x
    .rw[hd,Y]at e;cases e
    .rw[C _ _ q hd]at e;cases e
  refine k f g c' _ a6 ?_ ?_ (bQ.same (old.trans up) _ _ r3) λd o e hd=>by rw[a9 hd];exact D _ _ (C _ _ e hd)
  .exact uT ((cG B (by rw[a9 m.symm];exact D _ _ a2)))
  .exact lH ((cG Xe (by rw[a9 p.symm];exact D _ _ b2)))
theorem nX(L:Lk K mg):aI P w K mg base cz 1 L.pF L.pP ["line","desks"] (MY K):=by
 refine L.jW.F.d2 (N:=["line","desks"]) (λy A outer s H R Q E nd g h=>?_)
 let{v,b,f,j,rfl,B,C,hn,k}:=h
 refine{_,(a8 (aj (hO rfl (az ["desks"] [1]) (az ["desks"] [1]) ⋯ (aW (0)) (λ_ _ _ _ _ _=>gL (eL (jD (K:=K) rfl) (1) (2) rfl)) (λ_ _ _ _ _ _=>(eC (a5 (0) (aB (1)))))))),?_}
 ac_rfl
 let{a,D,rfl,p,c,G}:=jP B
 have m:=c;rw[Á]at m;refine{1,a,rfl,{_,p},λl hl=>?_}
 refine jc (prs:=j.map iz) (λq=>jy q.2 ((nI f).map V.int)) (λq=>.tup [.at q.1,.at q.2]) (aU K a D) c (λi q d=>let ⟨r,I,J⟩:=G i q d;{r,I,gF.of J}) hl (ak ()) (λt n=>n.seq p) (λq u M d x o=>by
  let{z,O,rfl}:=Å.mp d
  exact{2,b,1,.inl (x.seq C),rfl,qy _,1,o u (a7.refl _)}) (λq u M d _ x o=>?_) (λt n r=>?_)
 .let{z,O,rfl}:=Å.mp d
  exact{2,by show 2<=sizeLine;decide,λr g=>o _ _ (a7.upd g) (lI g z)}
 .have e:((j.map iz).filter λq=>jy q.2 ((nI f).map V.int))=(cM f j).map iz:=by
   unfold cM;rw[Ŭ];refine congrArg _ (wf7 λq _=>?_);exact GP q.2 f
  rw[e,Ì]at r;exact k _ t n r
theorem wA(L:Lk K mg):aI P w K mg base cz 2 L.jU L.pQ ["sheet","many"] (Nw K L.aX):=by
 have T:=L.T;refine L.q9.F.d2 (N:=["sheet","many","kept","left"]) (λG A outer s H vs Q E nd hr h=>?_)
 let{x,many,hs,ws,b,rfl,S,hn,hm,k}:=h
 have I:(A.deeper (wcX "kept_desks" (ax (top 79)) s.heap.objs.size L.jU G)).units<ú:=hr.ud
 refine{_,(a0 (al (i:=2) (aY (BC rfl) (by rfl) T.list ki (aB (aY zI (by rfl) T.range K0 (aB (A4 T.len (aM (0) rfl)))))))
  (a8 (j4 Ũ (bO dj) (a0 (fQ (i:=3) rfl (az ["sheet","kept","many"] [0,2,1]) nd rfl rfl (aW (2)) (λ_ _ _ _ _ _=>gL (b8 zB (aF (wm (K:=K) rfl) (by rfl) T.len Κ (aB (ag (nX L) L.jW (a5 (bI (oP (K:=K) rfl) (tN (K:=K) rfl (1) rfl) (0) (λ_ _=>rfl)) (aB (2)))))) (3))) (λ_ _ _ _ _ _=>(0)))
  (a0 (aQ (b8 (Gi I) (3) (2)) (a8 (aj (2))) aw)
  (a8 (al (i:=2) (3)))))))),?_}
 ac_rfl
 let{dx,ah,bw,cl,hx,rh,Rh,rl}:=id S
 let{UT,J,ec,hc,m}:=id rl
 cases ec;have xl:J.9=b.9:=by rw[m.len,Á]
 refine{1,x,L.aX,dx,_,1,hx,L.bg.cl,L.bg.fw,gi ah bw cl,cl,J,rfl,.inl (.inl hc),?_};rw[xl];refine{1,λp hp=>?_};refine{p,b.9,rfl,a6,ak (),λl hl=>?_};have s1:a7 H (upd H p (.rng 0 (b.9:Int))):=a7.upd hp;have fl:H l=τ:=none_of s1 hl;have s2:=s1.trans (a7.upd (o:=.lst ((ð b.9).map λi=>V.int (i:Nat))) hl);have h2:(upd (upd H p (.rng 0 (b.9:Int))) l (.lst ((ð b.9).map λi=>V.int (i:Nat)))) l=ρ (.lst ((nI (ð b.9)).map V.int)):=by rw[a6,GR]
 generalize upd (upd H p _) l _=H2 at s2 h2;refine{λq σ M=>∃(l:Addr) (c:List Nat) (v3:Option V),q=c.9/\σ=[ρ (.ref x),ρ (.int many),ρ (.ref l),v3]/\a7 H M/\H l=τ/\M l=ρ (.lst ((nI c).map V.int))/\Above b many c,{_,l,_,τ,rfl,rfl,s2,fl,h2,Above.start b many},?_};rintro q σ M ⟨l,c,v3,rfl,rfl,O,fl,r,t⟩;refine{true,rfl,b6 ?_};refine{λu C=>∃(g:Addr),u=[ρ (.ref x),ρ (.int many),ρ (.ref g),ρ (.ref g)]/\a7 H C/\H g=τ/\C g=ρ (.lst ((nI (uE b many c)).map V.int))/\uE b many c≠c,?_,?_}
 .rintro u C ⟨g,rfl,R,U,h',X⟩;exact{_,GO X,g,_,1,rfl,R,U,h',t.next}
 have Y:∀d∈c,d<b.9:=λd hd=>Ŗ.mp (t.sub.subset hd);have UU:c.9<=1000:=by have:=t.sub.length_le;rw[ŉ]at this;lia
 refine{1,l,rfl,{_,aL.of r},λg z=>?_};refine da (λv=>match v with |.int d=>decide (many<=((cM c (b.getD d.toNat [])).9:Int)) |_=>false) (λv=>v) (aU K l _) z (ak (by rw[Á,fv];lia)) (λC R=>aL.of (R _ _ r)) (λy D Q' hy j Z=>?_) (λy D Q' hy _ j Z=>{1,Z D (a7.refl _)}) (λD j h4=>?_)
 .let{n,Jh,rfl}:=yL hy
  have Xf:=Y n Jh;have hq:b[n]?=ρ (b.getD n []):=by rw[ï,È Xf];rfl
  let{v,Qh,rd}:=m.at (i:=n) (d:=ee (b.getD n [])) (by rw[Ê,hq];rfl)
  have e:=O.trans j;refine{1,x,L.aX,dx,_,1,e _ _ hx,L.bg.cl,L.bg.fw,gi ah bw cl,1,cl,J,_,1,rfl,e.seq (.inl hc),b5 Qh,1,v,l,c,b.getD n [],rfl,bQ.same e _ _ rd,aL.of (j _ _ r),hm _ (ê hq),λy H5 s5 r5=>?_}
  let{a,rs,rfl,hS,hT}:=j9 r5
  have KA:rs.9=(cM c (b.getD n [])).9:=by rw[hT.1,Á,Á]
  refine{a,1,.inl ((dP _ _).seq hS),?_};rw[Á,KA];exact{1,_,1,rfl,1,Z H5 s5}
 rw[΢,xK (f:=λn=>decide (many<=((cM c (b.getD n [])).9:Int))) (λn=>rfl)]at h4;have e:=O.trans j;refine{2,g,l,_,1,rfl,aL.of h4,aL.of (j _ _ r),qy _,qy _,1,?_};refine yt (λB=>?_) (λB=>?_)
 .rw[xT,decide_eq_true_eq]at B;exact{1,k l c D e fl (j _ _ r) {t,t.stays B}}
 .rw[xT,decide_eq_true_eq]at B;exact{_,rfl,g,rfl,e,none_of O z,h4,B}
theorem qi(L:Lk K mg):aI P w K mg base cz 1 L.rQ L.sj ["text","signs"] JY:=by
 have T:=L.T;refine L.mn.F.d2 (N:=["text","signs"]) (λf A outer s H n Q E nd o h=>?_)
 let{a,b,rfl,hl,k}:=h
 refine{_,(a8 (aj (aF (uv rfl) (by rfl) T.all MH (aB (c6 rfl (az ["signs"] [1]) (qL (0)) (λ_ _ _ _ _ _=>bx) (λ_ _ _ _ _ _=>(bc qI (0) (1) rfl))))))),?_}
 ac_rfl
 refine{1,a,rfl,λl e=>comp_map (Rc b) (j1 a) e (by unfold cD;rw[Á];exact ak (Õ (weu (aR a)) ())) (λ_ _=>trivial) (λx g p i _ q=>?_) (λj m d=>?_)}
 .let{c,1}:=Å.mp i
  exact{2,_,1,rfl,q g (a7.refl _)}
 .rw[Eu]at d;refine{l,1,aL.of d,?_};have:=k j m;rw[Χ];exact this
theorem kN(L:Lk K mg):aI P w K mg base cz 1 L.lO L.m4 ["row","barred"] (K1 K):=by
 have T:=L.T;refine L.i6.F.d2 (N:=["row","barred"]) (λi A outer s H o Q E nd p h=>?_)
 let{r,a,j,rfl,f,hl,k}:=h
 refine{_,(a8 (aj (aF (ur rfl) (by rfl) T.any MI (aB (c6 rfl (az ["row"] [0]) (aW (1)) (λ_ _ _ _ _ _=>bx) (λ_ _ _ _ _ _=>(bc qI (0) (1) rfl))))))),?_}
 ac_rfl
 refine{1,a,rfl,{_,f},λl d=>comp_map (Rc r) (aU K a (j.map V.str)) d (by rw[Á];exact ak ()) (λg e=>e.seq f) (λx m t n _ q=>?_) (λg e b=>?_)}
 .let{c,1}:=Å.mp n
  exact{2,_,1,rfl,q m (a7.refl _)}
 .rw[Hu]at b;refine{l,1,aL.of b,?_};have:=k g e;rw[Γ];exact this
theorem zb(L:Lk K mg):aI P w K mg base cz 2 L.rS L.sq ["thing"] PV:=by
 have T:=L.T;refine L.sH.F.d2 (N:=["thing"]) (λd A outer s H l Q E nd m h=>?_)
 let{x,rfl,S,k}:=h
 have a:x.9<=sizeLine:=ak (by have:=S.hi;lia)
 let{f,b}:=L.known
 refine{_,(a0 (aQ (PW.pt (cH (cQ (bO (aF cU (by rfl) T.sY gu (a5 (0) (aB (gJ (v:=.ty "str") (by rfl) T.str zZ rfl)))))) (cH (b8 kg (A3 T.len (0)) af) (dg (b8 fq (A3 T.len (0)) af))))) (a8 (aj dj)) aw)
  (a8 (aj (dD (bc bE (aF zH (by rfl) T.len Κ (aB (aY (zP rfl) (by rfl) T.set Sy (aB (0))))) (A3 T.len (0)) (bH _)) (fP (ag (qi L) L.mn (a5 (0) (aB (bJ (v:=.str iC) (by rfl) b ⟨f,rfl⟩))))))))),?_}
 ac_rfl
 refine{1,_,_,_,true,rfl,eA.str x,rfl,true,rfl,?_};refine aA ?_;refine{1,x,rfl,a,_,1,rfl,1,?_};refine DV (by have:=S.lo;simp;lia) ?_;refine{1,x,rfl,a,_,1,rfl,1,?_};refine DV (by have:=S.hi;simp;lia) ?_;refine{1,x,rfl,?_,λp g=>?_}
 .have:=S.hi;show x.9+1<ŕ;unfold ŕ
  lia
 refine{p,1,a6,1,x,rfl,a,rfl,?_};refine{1,?_};refine OG (by rw[A1 S.nd];simp) ?_;refine{1,x,iC,rfl,by have:=S.hi;lia,λi j=>?_};have e:((ch x).all λc=>decide (c∈ch iC))=true:=í.mpr λc hc=>decide_eq_true (S.sub c hc);rw[e];exact k i ((a7.upd g).trans j)
theorem CH(L:Lk K mg):aI P w K mg base cz 2 L.y3 L.yc ["thing","signs"] PX:=by
 have T:=L.T;refine L.yg.F.d2 (N:=["thing","signs"]) (λb A outer s H i Q E nd j h=>?_)
 let{x,g,rfl,S,k}:=h
 have a:x.9<=sizeLine:=ak (by have:=S.hi;lia)
 refine{_,(a0 (aQ (PW.pt (cH (cQ (bO (aF cU (by rfl) T.sY gu (a5 (0) (aB (gJ (v:=.ty "str") (by rfl) T.str zZ rfl)))))) (cH (b8 kg (A3 T.len (0)) af) (dg (b8 fq (A3 T.len (0)) af))))) (a8 (aj dj)) aw)
  (a8 (aj (ag (qi L) L.mn (a5 (0) (aB (1))))))),?_}
 ac_rfl
 refine{1,_,_,_,true,rfl,eA.str x,rfl,true,rfl,?_};refine aA ?_;refine{1,x,rfl,a,_,1,rfl,1,?_};refine DV (by have:=S.lo;simp;lia) ?_;refine{1,x,rfl,a,_,1,rfl,1,?_};refine DV (by have:=S.hi;simp;lia) ?_;refine{2,x,g,rfl,by have:=S.hi;lia,λd f=>?_};have e:((ch x).all λc=>decide (c∈ch g))=true:=í.mpr λc hc=>decide_eq_true (S.sub c hc);rw[e];exact k d f
theorem tj(L:Lk K mg):aI P w K mg base cz 3 L.lN L.lZ ["barred","signs"] (K2 K):=by
 have T:=L.T;refine L.mq.F.d2 (N:=["barred","signs","number","thing"]) (λj A outer s H o Q E nd q h=>?_)
 let{a,g,d,rfl,c,hl,hw,k}:=h
 refine{_,(a0 (aQ (b8 fq (A4 T.len (0)) af) bK aw)
  (a8 (forA (Dg (by rfl) T.enum (aB (0))) (eV rfl (aS (ay (i:=2)) (aS (ay (i:=3)) cW))) (a8 (aQ (cQ (bO (ag (CH L) L.yg (a5 (3) (aB (1)))))) bK aw))))),?_}
 ac_rfl
 refine{1,a,1,.inl c,_,1,rfl,1,?_};refine DV (by grind) ?_;refine{1,a,1,c,ug (K:=K) (a:=a) (xs:=d.map V.str) (λi σ b=>a7 H b/\∃e f,σ=[ρ (.ref a),ρ (.str g),e,f]) {a7.refl _,τ,τ,rfl} (λi σ b _ p=>p.1.seq c) ?_ (λσ b p=>k b p.1)};rintro i x σ b T r ⟨s2,e,f,rfl⟩ l
 obtain⟨t,rfl,m⟩:∃t,x=.str t/\t∈d:=by
  grind
 refine{T,1,gF.of a6,rfl,_,1,_,1,rfl,?_};refine{2,t,g,rfl,hw t m,λu n=>{true,rfl,?_}};refine aA ?_;exact{(s2.trans (a7.upd l)).trans n,_,1}
theorem rm(L:Lk K mg):aI P w K mg base cz 2 L.kj L.kr ["barred"] (Hn K):=by
 have T:=L.T;refine L.kF.F.d2 (N:=["barred","found","word","length","beginning"]) (λI A outer s H vs Q E nd J h=>?_)
 let{a,ws,rfl,u,hl,hw,k}:=h
 have M:=fo J
 refine{_,(a0 (al (i:=1) (Dj (oO ai dj D9) rfl rfl (by simp) ⋯))
  (a0 (forA (aW (0)) (ay (i:=2)) (a8 (forA (qK rfl T.range (a5 af (aB (A3 T.len (2))))) (ay (i:=3)) (a0 (al (i:=4) (dA oh (2) gb (eM (3))))
  (a8 (aQ (cQ (bO (ag (kN L) L.i6 (a5 (4) (aB (0)))))) (a8 (fu M (1) (4) dj rfl)) aw))))))
  (a8 (aj (aF (yE rfl) (by rfl) T.sorted JX (aB (1))))))),?_}
 ac_rfl
 intro d hd;refine{a6,[((Ã "":Key),V.bl true)],rfl,⋯,?_}
 have s0:a7 H (upd (upd H d (.dK [])) d (.dK (gX [] [((Ã "":Key),V.bl true)]))):=by
  rw[CQ];exact a7.upd hd
 refine{1,a,rfl,{_,s0.seq u},eG (K:=K) (a:=a) (xs:=ws.map V.str) (λi σ g=>∃y c v4,σ=[ρ (.ref a),ρ (.ref d),y,c,v4]/\a7 H g/\g d=ρ (.dK (ke (d9 ws "" (ws.take i)))))
  ⟨τ,τ,τ,rfl,s0,a6⟩ (λi σ g _ {_,_,_,_,s2,_}=>s2.seq u) ?_ ?_}
 .rintro i x σ g f ⟨y,c,v4,rfl,s2,r⟩;have hi:i<ws.9:=by have:=(Ô.mp f).1;rwa[Á]at this
  obtain⟨wd,m,rfl⟩:∃wd,ws[i]?=ρ wd/\x=.str wd:=by
   rw[Ê]at f
   cases e:ws[i]? with
   |none=>rw[e]at f;cases f
   |some z=>rw[e]at f;exact{z,rfl,(Î f).symm}
  have O:wd∈ws:=ê m;have R:=hw wd O;have S:ws.take (i+1)=ws.take i++[wd]:=by rw[Ē,m];rfl
  have U:(d9 ws "" (ws.take i)).9<=30:=by
   have:=mM (ws:=ws) (e:="") (us:=ws.take i) λv X=>hw v (wcO X);rw[â]at this
   lia
  refine⟨_,rfl,wd,rfl,ak (),1,_,rfl,{⋯,⋯,(),()},?_⟩;have Y:((wd.9:Int)-1).toNat=wd.9-1:=()
  refine cP (lo:=1) (n:=((wd.9:Int)-1).toNat) (λj σ t=>∃c v4,σ=[ρ (.ref a),ρ (.ref d),ρ (.str wd),c,v4]/\a7 H t/\t d=ρ (.dK (ke (upTo ws wd (d9 ws "" (ws.take i)) j))))
   ⟨c,v4,rfl,s2,r⟩ ?_ ?_
  .rintro j σ t hj ⟨c,v4,rfl,p,B⟩;have Z:(1+(j:Int))=((1+j:Nat):Int):=();refine{3,wd,rfl,ak (),?_};rw[Z];have UW:=uO ws wd (d9 ws "" (ws.take i)) j;refine{2,j7 wd (1+j),a,ws,rfl,p.seq u,(),λH4 C=>{1,?_}};have D:=C _ _ B
   cases G:bears ws (j7 wd (1+j)) with
   |true=>
    refine aA ?_;refine{_,1,p.trans C,?_};rw[D,fS];unfold qS;rw[if_pos G]
   |false=>
    refine b6 ?_;refine{2,d,1,mZ.k (k:=Ã (j7 wd (1+j))) D (by rw[DY];exact bY ()),?_};refine{_,1,λb o e=>?_,?_}
    .rw[a9 (ae e hd)];exact C _ _ (p _ _ e)
    .rw[a6,Ew,fS];unfold qS;rw[if_neg (by rw[G];exact Ý)]
  .rintro σ t ⟨c,v4,rfl,p,B⟩;refine{_,c,v4,rfl,p,?_};rw[B,S,BV,Y];rfl
 .rintro σ g ⟨y,c,v4,rfl,s2,r⟩;rw[Á,õ]at r;have UU:=mM (ws:=ws) (e:="") (us:=ws) hw;refine{1,d,_,1,r,Bk _,(),λl ss q hp hs=>?_};exact k l ss _ (s2.trans (a7.upd q)) (s2.free q) a6 hp hs
theorem vR(L:Lk K mg):aI P w K mg base cz 1 L.nv L.nJ ["row","places"] (MO K):=by
 refine L.nT.F.d2 (N:=["row","places","cut"]) (λp A outer s H v Q E nd x h=>?_)
 let{r,a,ps,rfl,q,t,hl,k}:=h
 refine{_,(a0 (al (i:=2) af)
  (a0 (j4 Ũ (eL jC (dA oh (0) (eM (2)) gb) (1) rfl) (a8 (yB (i:=2) nd rfl (ó rfl) af Mm)))
  (a8 (aj (dA oh (0) (eM (2)) gb))))),?_}
 ac_rfl
 refine{λm σ c=>∃n:Nat,n<=r.9/\m=r.9-n/\σ=[ρ (.str r),ρ (.ref a),ρ (.int (n:Int))]/\a7 H c/\∀j,j<n->gC r j∉ps,⟨r.9,0,à _,rfl,rfl,a7.refl _,λj d=>absurd d (Ω j)⟩,?_};rintro m σ c ⟨n,hn,rfl,rfl,s2,l⟩;refine{3,r,rfl,ak (),1,a,1,.inl (s2.seq q),rfl,eZ ps,1,?_};rw[if_pos rfl,fm]
 by_cases h:gC r n∈ps
 .have e:decide (á r (ρ (n:Int)) τ∈ps)=true:=decide_eq_true h;rw[e];refine aA ?_;refine{3,r,rfl,ak (),?_};have:=k c s2;unfold lend at this;rw[zQ h l hn]at this;exact this
 .have e:decide (á r (ρ (n:Int)) τ∈ps)=false:=decide_eq_false h;rw[e];refine b6 ?_
  have f:n<r.9:=by
   rcases weU hn with z |z
   .exact z
   .subst z;rw[qU]at h;exact absurd t h
  refine{λb o=>∃g:Nat,g=n+1/\b=[ρ (.str r),ρ (.ref a),ρ (.int (g:Int))]/\a7 H o,?_,?_}
  .rintro b o ⟨g,rfl,rfl,u⟩;refine{r.9-(n+1),(),n+1,f,rfl,rfl,u,λj d=>?_};rcases weU (Nat.le_of_lt_succ d) with z |z
   .exact l j z
   .rw[z];exact h
  .exact{1,_,1,rfl,n+1,rfl,rfl,s2}
theorem wB(L:Lk K mg):aI P w K mg base cz 2 L.pA L.pJ ["place","signs","barred","places"] (Kj K):=by
 refine L.pV.F.d2 (N:=["place","signs","barred","places","moves","sign","row"]) (λO A outer s H vs Q E nd R h=>?_)
 let{p,g,a,b,l,ps,rfl,S,T,U,V,X,y,B,k}:=h
 have Y:=fo R
 refine{_,(a0 (al (i:=4) dC)
  (a0 (forA (qL (1)) (ay (i:=5)) (a0 (al (i:=6) (aD b9 (0) (5)))
  (a8 (fu Y (4) (5) (ui (bO (ag (kN L) L.i6 (a5 (6) (aB (2))))) cm (ag (vR L) L.nT (a5 (6) (aB (3))))) rfl))))
  (a8 (aj (4))))),?_}
 ac_rfl
 intro d hd
 refine{1,g,rfl,og (j1 g) (λi σ f=>∃r v6,σ=[ρ (.str p),ρ (.str g),ρ (.ref a),ρ (.ref b),ρ (.ref d),r,v6]/\a7 H f/\f d=ρ (.dK (((ch g).take i).map λc=>((Ã ({#[c]}:Str):Key),tQ l ps p c))))
  {τ,τ,rfl,a7.upd hd,a6} (λ_ _ _ _ _=>trivial) ?_ ?_}
 .rintro i x σ f m ⟨r,v6,rfl,s2,u⟩
  obtain⟨c,hc,rfl⟩:∃c,(ch g)[i]?=ρ c/\x=.str ⟨#[c]⟩:=by
   unfold cD at m;rw[Ê]at m
   cases e:(ch g)[i]? with
   |none=>rw[show g.cps.toList[i]?=τ from e]at m;cases m
   |some z=>rw[show g.cps.toList[i]?=ρ z from e]at m;exact{z,rfl,(Î m).symm}
  have hi:i<(ch g).9:=(Ô.mp hc).1;have I:=aR g;have Z:(p++({#[c]}:Str)).length=p.9+1:=by rw[<-aR,aV,Ò,aR];rfl
  refine{2,p,{#[c]},rfl,rfl,ak (by show p.9+1<=_;lia),?_}
  have fin:∀t,a7 f t->Lb (jz 4) (jz 5) (λ_ C Q5=>Q5 (tQ l ps p c) C) {nx:=λσ f=>∃r v6,σ=[ρ (.str p),ρ (.str g),ρ (.ref a),ρ (.ref b),ρ (.ref d),r,v6]/\a7 H f/\f d=ρ (.dK (((ch g).take (i+1)).map λc=>((Ã ({#[c]}:Str):Key),tQ l ps p c))),rt:=Q}
   [ρ (.str p),ρ (.str g),ρ (.ref a),ρ (.ref b),ρ (.ref d),ρ (.str {#[c]}),ρ (.str (p++{#[c]}))] t:=by
   intro t n;have h4:=n _ _ u;refine{2,d,1,mZ.k (k:=Ã ({#[c]}:Str)) h4 (by rw[Á,â];exact bY ()),?_};refine{_,1,λb o e=>?_,?_}
   .rw[a9 (ae e hd)];exact n _ _ (s2 _ _ e)
   .rw[a6,gg]
    .have:(ch g).take (i+1)=(ch g).take i++[c]:=by rw[Ē,hc];rfl
     rw[this,Û];rfl
    .cases q:bD (((ch g).take i).map λc=>((Ã (⟨#[c]⟩:Str):Key),tQ l ps p c)) (Ã (⟨#[c]⟩:Str):Key) with
     |none=>rfl
     |some v=>
      have:=yG q;rw[Ì]at this
      let{D,G,e}:=Å.mp this
      have e':({#[D]}:Str)={#[c]}:=Đ e
      have:D=c:=by
       have:=congrArg ch e';simpa [ch] using this
      subst this
      let{j,hj,J}:=weB.mp G
      rw[wf8]at J;rw[â]at hj;have e1:(ch g)[i]=D:=(Ô.mp hc).2;have:=(Ρ y).mp (J.trans e1.symm)
      lia
  refine{2,_,a,l,rfl,s2.seq S,B,λt n=>{1,?_}}
  cases M:bears l (p++⟨#[c]⟩) with
  |true=>
   refine b6 ?_;have:=fin t n;unfold tQ at this;rw[if_pos M]at this;unfold tQ;exact this
  |false=>
   refine aA ?_;refine{2,_,b,ps,rfl,(s2.trans n).seq T,U,(),λC s5=>?_};have:=fin C (n.trans s5);unfold tQ at this;rw[if_neg (by rw[M];exact Ý)]at this;unfold tQ;exact this
 .rintro σ f ⟨r,v6,rfl,s2,u⟩;have e:(cD g).9=(ch g).9:=by unfold cD;rw[Á]
  rw[e,õ]at u;exact{_,rfl,k d f s2 hd u}
theorem wC(L:Lk K mg):aI P w K mg base cz 1 L.pB L.pK ["ends","lot"] (K3 K):=by
 have T:=L.T;refine L.pW.F.d2 (N:=["ends","lot"]) (λm A outer s H u Q E nd v h=>?_)
 let{a,b,d,ls,rfl,i,n,fa,o,hl,k}:=h
 refine{_,(a8 (aj (aF (ur rfl) (by rfl) T.any MI (aB (c6 rfl (az ["lot"] [1]) (aW (0)) (λ_ _ _ _ _ _=>bx) (λ_ _ _ _ _ _=>(bc (jD (K:=K) rfl) (0) (1) rfl))))))),?_}
 ac_rfl
 refine{1,a,rfl,{_,i},λl f=>comp_map (PY ls) (aU K a d) f (ak ()) (λj g=>g.seq i) (λx p y r t q=>?_) (λj g c=>?_)}
 .exact{2,b,ls,rfl,.inl (t.seq n),í.mp fa x r,o,q p (a7.refl _)}
 .have e:d.map (PY ls)=(d.map λe=>jy e ls).map V.bl:=by rw[Ì];rfl
  rw[e]at c;refine{l,1,aL.of c,?_};have:=k j g;rw[Γ];exact this
theorem wD(L:Lk K mg):aI P w K mg base cz 2 L.jS L.pL ["moves"] (MP K):=by
 have T:=L.T;refine L.pX.F.d2 (N:=["moves","lot","left"]) (λX A outer s H vs Q E nd hr h=>?_)
 let{d,Y,o,rfl,hd,hl,hm,hf,Z,k}:=h
 have hu:=fo hr;have Qi:(A.deeper (wcX "live_among" (ax (top 30)) s.heap.objs.size L.jS X)).units<ú:=hr.ud
 refine{_,(a0 (al (i:=1) (aY (oi rfl) (by rfl) T.list ki (aB (0))))
  (a8 (j4 Ũ (bO dj) (a0 (fQ (i:=2) rfl (az ["moves","lot"] [0,1]) nd rfl rfl (aW (1)) (λ_ _ _ _ _ _=>gL (bO (ag (wC L) L.pW (a5 (aY (BA rfl) (by rfl) T.list ki (aB (Di (K:=K) rfl wd1 wdL wft xC (dk hu (1) (0) (λ_ _=>rfl))))) (aB (2)))))) (λ_ _ _ _ _ _=>(0)))
  (a0 (aQ (b8 (Gi Qi) (2) (1)) (a8 (aj (1))) aw)
  (a8 (al (i:=1) (2)))))))),?_}
 ac_rfl
 refine{1,d,1,hd,λl0 t=>?_}
 refine{λm σ H2=>∃(l:Addr) (ls:List Str) (v:Option V),m=ls.9/\σ=[ρ (.ref d),ρ (.ref l),v]/\a7 H H2/\H l=τ/\H2 l=ρ (.lst (ls.map V.str))/\ls.Sublist (Y.map (·.1)) /\
  ∀b:List Str,(∀k∈b,k∈Y.map (·.1)/\iu (o k) b=true)->∀k∈b,k∈ls,
  {_,l0,Y.map (·.1),τ,rfl,rfl,a7.upd t,t,by rw[a6,gW],wh6 _,λb h k hk=>(h k hk).1},?_}
 rintro m σ H2 ⟨l,ls,v,rfl,rfl,s2,UX,S,f,c⟩;refine{true,rfl,b6 ?_};have F4:ls.9<=1000:=by have:=f.length_le;rw[Á]at this;lia
 let p:V->Bool:=λx=>match x with
  |.str k=>iu (o k) ls
  |_=>false
 let g:List Str:=ls.filter λk=>iu (o k) ls
 have u:(ls.map V.str).filter p=g.map V.str:=by
  rw[Ŭ];rfl
 refine{λy r=>∃(B:Addr) (v:Option V),y=[ρ (.ref d),ρ (.ref B),v]/\a7 H r/\H B=τ/\r B=ρ (.lst (g.map V.str))/\g.9<ls.9,?_,?_}
 .rintro y r ⟨B,v,rfl,n,Jh,C,Nr⟩;refine{g.9,Nr,B,g,v,rfl,rfl,n,Jh,C,(wdy).trans f,λb h k hk=>?_};have Xg:=c b h k hk;exact é.mpr {Xg,Bl (c b h) (h k hk).2}
 .refine{1,l,rfl,{_,aL.of S},λl2 D=>da p (λx=>x) (aU K l (ls.map V.str)) D (by rw[Á];exact ak ()) (λr n=>n.seq (aL.of S)) (λx G Q' hx s3 q=>?_) (λx G Q' hx _ s3 q=>{1,q G (a7.refl _)}) (λr n C=>?_)}
  .let{U,Xh,rfl}:=Å.mp hx
   let{a,ha,I}:=j3 (f.subset Xh)
   have J:a7 H G:=s2.trans s3;have Ri:=J _ _ hd;have j:=J _ _ (hm _ ha);refine{2,d,.ref a,rfl,?_,?_}
   .have:=eQ.k (k:=(Ã U:Key)) Ri;rw[I]at this;exact this
   refine{.inr (.inr (.inl {rfl,.inl {_,j}})),a,1,rfl,j,λvw M=>?_};refine{vw,a,1,a6,by rw[a9 (ae j M)];exact j,λl3 O6=>?_};have s4:a7 G (upd (upd G vw (oM vw a)) l3 (.lst ((o U).map (·.2)))):=(a7.upd M).trans (a7.upd O6);refine{1,l3,l,_,1,aL.of a6,aL.of (s4 _ _ (s3 _ _ S)),hf U,eZ ls,by rw[Á];exact Z U,λH5 s5=>{1,?_}};exact q H5 (s4.trans s5)
  .rw[΢,u]at C;have O:=n _ _ S;refine{2,l2,l,_,1,rfl,aL.of C,aL.of O,eZ _,eZ _,1,?_};rw[xn];have R:H l2=τ:=s2.free D
   by_cases e:g=ls
   .rw[decide_eq_true e];refine b6 ?_;refine{1,k l ls r (s2.trans n) UX O {f,λkk hk=>?_,c}};have:=e ▸ hk;exact(é.mp this).2
   .rw[decide_eq_false e];refine aA ?_;refine{1,l2,1,s2.trans n,R,C,?_};rcases weU (ě (λk=>iu (o k) ls) ls) with z |z
    .exact z
    .exact absurd ((wdy (p:=λk=>iu (o k) ls)).eq_of_length z) e
theorem vS(L:Lk K mg):aI P w K mg base cz 1 L.nA L.nK ["self"] (HC L.au):=by
 have T:=L.T;refine L.nV.F.d2 (N:=["self"]) (λa A outer s H j Q E nd m h=>?_)
 let{x,g,n,ss,ls,rfl,B,k}:=h
 let{{c,b,d,q,o,e,p,f,i,r,t},_,_,_}:=B
 refine{_,(a8 (aj (aY (oi rfl) (by rfl) T.list ki (aB (aM (0) rfl))))),?_}
 ac_rfl
 refine{1,x,L.au,c,_,1,e,L.aJ.cl,L.aJ.mO,ou g b d q,d,1,f,λl hl=>?_};rw[gW,i];exact k l _ (a7.upd hl) hl a6
theorem jZ(L:Lk K mg):aI P w K mg base cz 1 L.rT L.sr ["self"] (Kb L.au):=by
 have T:=L.T;refine L.iO.F.d2 (N:=["self"]) (λa A outer s H i Q E nd j h=>?_)
 let{x,g,m,ss,ls,rfl,B,k}:=h
 let{{c,b,d,q,n,e,o,p,r,t,f},_,_,_}:=B
 refine{_,(a8 (aj (aY dQ (by rfl) T.list ki (aB (aM (0) rfl))))),?_}
 ac_rfl
 refine{1,x,L.au,c,_,1,e,L.aJ.cl,L.aJ.rg,xP g b d q,q,1,.inl (aL.of f),λl hl=>?_};exact k l _ (a7.upd hl) hl a6
theorem gD(L:Lk K mg):aI P w K mg base cz 1 L.hU L.hZ ["self","place"] (SE L.au):=by
 have T:=L.T;refine L.eX.F.d2 (N:=["self","place"]) (λc A outer s H r Q E nd e h=>?_)
 let{x,p,g,t,ss,ls,rfl,B,f,k}:=h
 let{{i,b,d,q,mv,j,u,l,m,y,z},_,_,_}:=B
 let{a,ha,n}:=j3 (mv:=mv) (k:=p) (by rw[m];exact f)
 have o:=fo e;refine{_,(a8 (aQ (PW.pt (cH (cQ (bO (aF cU (by rfl) T.sY gu (a5 (1) (aB (gJ (v:=.ty "str") (by rfl) T.str zZ rfl)))))) (dg (Gf (xF o (1) (aM (0) rfl)))))) bK aw)),?_}
 ac_rfl
 refine{1,_,_,_,true,rfl,eA.str p,rfl,true,rfl,aA ?_};refine{2,x,L.au,i,_,1,j,L.aJ.cl,L.aJ.mO,ou g b d q,d,1,eQ.k (k:=(Ã p:Key)) l,1,?_};rw[n];exact aA k
theorem sR(L:Lk K mg):aI P w K mg base cz 2 L.vk L.vv ["self","place","sign"] (Q8 L.au):=by
 refine L.oC.F.d2 (N:=["self","place","sign"]) (λn A outer s H z Q E nd o h=>?_)
 let{x,p,c,g,r,ss,ls,rfl,B,e,hc,k}:=h
 let{{f,b,d,q,mv,i,C,t,u,v,D},_,_,_}:=id B
 let{a,ha,y}:=j3 (mv:=mv) (k:=p) (by rw[u];exact e)
 have j:=fo o
 refine{_,(a0 (bR (F6 (0) L.aJ.cl L.eX (gD L) (aB (1))))
  (a8 (aj (dk j (dk j (aM (0) rfl) (1) (λ_ _=>rfl)) (2) (λ_ _=>rfl))))),?_}
 ac_rfl
 refine{1,x,f,1,i,Ep _ _ _ _ ∅ ∅ ∅ ∅,1,x,p,g,r,ss,ls,rfl,B,e,?_};have l:=eQ.k (k:=(Ã p:Key)) t;rw[y]at l;have m:=eQ.k (k:=(Ã ({#[c]}:Str):Key)) (v _ ha);rw[K6 hc]at m;exact{1,x,L.au,f,_,1,i,L.aJ.cl,L.aJ.mO,ou g b d q,1,d,1,l,1,a,1,m,k}
theorem zc(L:Lk K mg):aI P w K mg base cz 3 L.rV L.su ["band","place"] (Ca L.au):=by
 refine L.sI.F.d2 (N:=["band","place","ends"]) (λI A outer s H X Q E nd Y h=>?_)
 let{x,p,g,u,ss,ls,rfl,B,J,M,k}:=h
 refine{_,(a0 (fQ (i:=2) rfl (az ["band","place"] [0,1]) nd rfl rfl (qL (aM (0) rfl)) (λ_ _ _ _ _ _=>bx) (λ_ _ _ _ _ _=>(F6 (1) L.aJ.cl L.oC (sR L) (a5 (2) (aB (0))))))
  (a8 (aj (c6 rfl (az [] []) (aW (2)) (λ_ _ _ _ _ _=>gL (b8 gd (0) cm)) (λ_ _ _ _ _ _=>(0)))))),?_}
 ac_rfl
 let{{O,b,d,q,Z,R,h2,h3,h4,h5,h6},pm,_,_}:=id B
 refine{1,x,L.au,O,_,1,R,L.aJ.cl,L.aJ.tR,ow g b d q,g,rfl,λl hl=>?_};refine comp_map (UP u ss p) (j1 g) hl (by rw[C3];exact ak ()) (λ_ _=>trivial) (λz C D S n e=>?_) (λC n a=>?_)
 .let{c,hc,rfl}:=Å.mp S
  have G:=B.same n
  let{{o,_,_,_,_,r,_},_}:=id G
  exact{1,x,o,1,r,Ep _ _ _ _ ∅ ∅ ∅ ∅,2,x,p,c,g,u,ss,ls,rfl,G,J,hc,e C (a7.refl _)}
 .rw[Ey]at a;refine{1,l,rfl,{_,aL.of a},λT f=>?_};refine da Bf (λv=>v) (aU K l _) f (by rw[Á,aR];exact ak ()) (λH' U=>aL.of (U _ _ a)) (λy j D V t e=>{1,rfl,1,e j (a7.refl _)}) (λy j D V _ t e=>{1,e j (a7.refl _)}) (λj t m=>?_);rw[΢,A2]at m;exact k T j (n.trans t) (none_of n f) m
theorem AK(L:Lk K mg):aI P w K mg base cz 4 L.vm L.vx ["band"] (ED L.au):=by
 refine L.vE.F.d2 (N:=["band","ends","place"]) (λgG A outer s H vs Q E nd hr h=>?_)
 let{x,g,S,ss,ls,rfl,B,T,IE,k}:=h
 have hu:=fo hr
 refine{_,(a0 (al (i:=1) dC)
  (a0 (forA (aW (n7 (0) L.aJ.cl L.nV (vS L))) (ay (i:=2)) (a8 (fu hu (1) (2) (ag (zc L) L.sI (a5 (0) (aB (2)))) rfl)))
  (a8 (aj (1))))),?_}
 ac_rfl
 refine λn r=>?_;have s0:a7 H (upd H n (.dK [])):=a7.upd r;have B0:=B.same s0
 let{{dx,b,d,q,mv,h1,h2,h3,h4,h5,h6},pm,_,_}:=id B0
 refine{1,x,dx,1,h1,Ep _ _ _ _ ∅ ∅ ∅ ∅,x,g,S,ss,ls,rfl,B0,λlp O s1 f1 G=>?_};have U:lp≠n:=λz=>by rw[z,a6]at f1;cases f1
 have nd:=B.nd
 refine{lp,rfl,{_,aL.of G},eG (K:=K) (a:=lp) (xs:=ss.map V.str) (λi σ R=>∃X l,σ=[ρ (.ref x),ρ (.ref n),X]/\R n=ρ (.dK (cn l))/\l.map (·.1)=ss.take i/\(∀m∈l,R m.2=ρ (.lst ((d1 g S ss m.1).map V.str)))/\(∀m∈l,O m.2=τ)/\(∀c o,O c=ρ o->c≠n->R c=ρ o))
  {τ,[],rfl,s1 _ _ a6,rfl,λm t=>(nomatch t),λm t=>(nomatch t),λc o e _=>e} (λi σ R _ {_,_,_,_,_,_,_,D}=>aL.of (D _ _ G U)) ?_ ?_}
 .rintro i y σ Y hy ⟨X,l,rfl,u,f,j,v,D⟩
  let{p,Z,rfl,hi,CI,sW}:=gj hy
  have T6:a7 H Y:=λc o e=>D _ _ (s1 _ _ (s0 _ _ e)) (ae e r);refine{2,x,p,g,S,ss,ls,rfl,B.same T6,CI,T,λe H6 s6 C Xi=>?_};have d6:=s6 _ _ u;have I:p∉l.map (·.1):=by rw[f];exact hH nd Z
  have T7:l.9<=900:=by have:=congrArg Ĳ f;rw[Á,â]at this;lia
  refine{2,n,1,mZ.k (k:=Ã p) d6 (by unfold cn;rw[Á];exact bY ()),?_};have J:e≠n:=λz=>by rw[z,u]at C;cases C
  have e1:O e=τ:=by
   cases q:O e with
   |none=>rfl
   |some o=>
    have:=D _ _ q J;rw[this]at C;cases C
  refine{_,l++[(p,e)],rfl,?_,?_,?_,?_,?_}
  .rw[a6,gg _ (om I)];unfold cn;rw[Û];rfl
  .rw[Û,f,sW];rfl
  .intro m t;rcases ñ.mp t with z |z
   .have nm:m.2≠n:=λq=>by
     have:=v m z;rw[q,s1 _ _ a6]at this;cases this
    rw[a9 nm];exact s6 _ _ (j m z)
   .have:m=(p,e):=by simpa using z
    subst this;rw[a9 J];exact Xi
  .intro m t;rcases ñ.mp t with z |z
   .exact v m z
   .have:m=(p,e):=by simpa using z
    subst this;exact e1
  .intro c o hc M;rw[a9 M];exact s6 _ _ (D c o hc M)
 .rintro σ Y ⟨X,l,rfl,u,f,j,v,D⟩;rw[Á,õ]at f;exact{1,k n l Y (λc o e=>D _ _ (s1 _ _ (s0 _ _ e)) (ae e r)) r u f j λm t=>none_of s0 (none_of s1 (v m t))}
theorem eP(L:Lk K mg):aI P w K mg base cz 5 L.lQ L.mc ["band","length"] (Kc L.au):=by
 have T:=L.T;refine L.dH.F.d2 (N:=["band","length","ends","counts","place","table","step","longer"]) (λgG A outer s H vs Q E nd hr h=>?_)
 let{x,n,g,G,ss,ls,rfl,B,IG,IE,Zq,Zr,k}:=h
 have hu:=fo hr
 refine{_,(a0 (al (i:=2) (ag (AK L) L.vE (aB (0))))
  (a0 (al (i:=3) dC)
  (a0 (forA (tS (2)) (ay (i:=4)) (a8 (fu hu (3) (4) af rfl)))
  (a0 (al (i:=5) (bM (aB (3))))
  (a0 (forA (cR rfl T.range (aB (1))) (ay (i:=6)) (a0 (al (i:=7) dC)
  (a0 (forA (tS (2)) (ay (i:=4)) (a8 (fu hu (7) (4) (aF (zJ rfl) (by rfl) T.sum MN (aB (c6 rfl (az ["counts"] [3]) (aW (dk hu (2) (4) (λ_ _=>rfl))) (λ_ _ _ _ _ _=>bx) (λ_ _ _ _ _ _=>(dk hu (1) (0) (λ_ _=>rfl)))))) rfl)))
  (a0 (bR (iy Ħ ő ŧ f5 (5) (aB (7))))
  (a8 (al (i:=3) (7)))))))
  (a8 (aj (5)))))))),?_}
 ac_rfl
 have nd:=B.nd;have he:("":Str)∈ss:=B.pm.mem_iff.mpr (cp G);refine{1,x,g,G,ss,ls,rfl,B,IG,IE,λd u H1 s1 T8 h1 ek er ef=>?_};refine λl v=>?_;have Z:d≠l:=ae h1 v;have I:((cn u).map λkv=>kV kv.1)=ss.map V.str:=by rw[gW,ek]
 have Xj:∀m∈u,m.2≠d:=λm q z=>by have:=er m q;rw[z,h1]at this;cases this
 refine{1,d,1,.inl {(a7.upd v) _ _ h1,λo=>?_}};have J:=j5 d o (cn u);rw[I]at J;have S:(upd (upd H1 l (.dK [])) d (.frz o (.dK (cn u)))) l=ρ (.dK []):=by rw[a9 (Ü Z),a6]
 have U:(upd (upd H1 l (.dK [])) d _) d=ρ (.frz o (.dK (cn u))):=a6
 have sz:a7 H (upd (upd H1 l (.dK [])) d (.frz o (.dK (cn u)))):=λc r e=>by
  rw[a9 (ae e T8)];exact a7.upd v _ _ (s1 _ _ e)
 have X:∀m∈u,(upd (upd H1 l (.dK [])) d (.frz o (.dK (cn u)))) m.2=ρ (.lst ((d1 g G ss m.1).map V.str)):=λm q=>by
  rw[a9 (Xj m q)];exact a7.upd v _ _ (er m q)
 have f0:H l=τ:=none_of s1 v;generalize upd (upd H1 l _) d _=Hz at S U sz X;have T9:∀m∈u,m.2≠l:=λm q z=>by have:=X m q;rw[z,S]at this;cases this
 refine og J (λi σ H3=>∃v4,σ=[ρ (.ref x),ρ (.int n),ρ (.ref d),ρ (.ref l),v4,τ,τ,τ]/\H3 l=ρ (.dK (qF (λp=>.int (dW g G ss 0 p)) (ss.take i)))/\∀c r,Hz c=ρ r->c≠l->H3 c=ρ r) {τ,rfl,S,λc r e _=>e} (λi σ H3 _ {_,_,_,b}=>b _ _ U Z) ?_ ?_
 .rintro i y σ H3 hy ⟨v4,rfl,h3,b⟩
  let{p,Ta,rfl,hi,CI,sW}:=gj hy
  refine{2,l,1,mZ.k (k:=Ã p) h3 (by rw[zx,â];exact bY ()),?_};refine{1,?_,λc r e hc=>by rw[a9 hc];exact b c r e hc};rw[a6,gg _ (xE _ (hH nd Ta)),sW,xt];rfl
 rintro σ H3 ⟨v4,rfl,h3,b⟩;rw[Á,õ]at h3;have s3:a7 H H3:=λc r e=>b _ _ (sz _ _ e) (ae e f0);have Tb:=b _ _ U Z;have Rj:∀m∈u,H3 m.2=ρ (.lst ((d1 g G ss m.1).map V.str)):=λm q=>b _ _ (X m q) (T9 m q);clear b S U sz X J v h1 er;refine{1,by show 1<=sizeLine;decide,λlt C=>?_};have flt:H lt=τ:=none_of s3 C
 refine{1,n,rfl,(),(),cP (lo:=0) (n:=n.toNat) (WK g G ss u o x d lt n H)
  {[l],l,_,τ,τ,rfl,rfl,rfl,a6,?_,a7.upd C _ _ Tb,λm q=>a7.upd C _ _ (Rj m q),s3.trans (a7.upd C)} ?_ ?_}
 .intro j t R
  cases j with
  |zero=>
   obtain rfl:l=t:=Î R;exact a7.upd C _ _ h3
  |succ j=>simp at R
 .rintro i σ H4 hi ⟨ts,dc,v4,v6,v7,rfl,M,UY,Tc,Y,D,Og,s4⟩;refine λdl Lq=>?_;have sd:a7 H4 (upd H4 dl (.dK [])):=a7.upd Lq;have Xk:=Y i dc UY;have J:=j5 d o (cn u);rw[I]at J;have Zt:d≠dl:=ae D Lq;refine{1,d,1,.inr {o,sd _ _ D,?_}};refine og J (λj σ H5=>∃v4,σ=[ρ (.ref x),ρ (.int n),ρ (.ref d),ρ (.ref dc),v4,ρ (.ref lt),ρ (.int (0+(i:Int))),ρ (.ref dl)]/\H5 dl=ρ (.dK (qF (λp=>.int (dW g G ss (i+1) p)) (ss.take j)))/\∀c r,H4 c=ρ r->H5 c=ρ r) {1,a6,λc r e=>sd _ _ e} (λj σ H5 _ {_,_,_,b}=>b _ _ D) ?_ ?_
  .rintro j y σ H5 hy ⟨v4,rfl,h5,b⟩
   let{p,Oh,rfl,hj,CI,sW}:=gj hy
   let{a,ha,hv}:=j3 (mv:=u) (k:=p) (by rw[ek];exact CI)
   have e1:=eQ.f (k:=(Ã p:Key)) (b _ _ D);rw[hv]at e1;have UZ:=b _ _ (Og _ ha);have Td:=b _ _ Xk;have el:=C8 g G ss p;refine{2,d,1,e1,a,rfl,{_,aL.of UZ},λlm Xl=>?_};refine comp_map (Jx (dW g G ss i)) (aU K a ((d1 g G ss p).map V.str)) Xl (by rw[Á];exact ak ()) (λH' s'=>aL.of (s' _ _ UZ)) (λz H6 Q' hz s6 qq=>?_) (λH6 s6 h6=>?_)
   .let{t,R,rfl}:=Å.mp hz
    have e2:=eQ.k (k:=(Ã t:Key)) (s6 _ _ Td);rw[kY _ (Cp he R)]at e2;exact{2,dc,1,e2,qq H6 (a7.refl _)}
   .rw[qG]at h6;refine{lm,1,aL.of h6,?_};have Xm:=s6 _ _ h5;refine{2,dl,1,mZ.k (k:=Ã p) Xm (by rw[zx,â];exact bY ()),?_};refine{1,?_,λc r e=>by rw[a9 (ae e Lq)];exact s6 _ _ (b c r e)};rw[a6,gg _ (xE _ (hH nd Oh)),sW,xt];rfl
  rintro σ H5 ⟨Zu,rfl,h5,b⟩;rw[Á,õ]at h5;have O:=b _ _ Tc;refine{1,.inl {rfl,_,aL.of O},1,lt,_,1,rfl,O,by rw[Á];exact ĺ (m:=200000) () (by rw[Ę];decide),?_};have Xn:∀t,H5 t=ρ (.dK (MU g G ss (i+1)))->t≠lt:=λt e z=>by rw[z,O]at e;cases e
  refine{1,ts++[dl],dl,_,_,1,by rw[Ò,M];rfl,by rw[ĉ (),M,Ż];rfl,by rw[a6,Û];rfl,?_,?_,?_,?_}
  .intro j t R
   by_cases hj:j<ts.9
   .rw[ģ hj]at R;have e:=b _ _ (Y j t R);rw[a9 (λz=>by rw[z,O]at e;cases e)];exact e
   .have Xo:j=i+1:=by
     have:=(Ô.mp R).1;rw[Ò,wcD]at this
     lia
    subst Xo;rw[ĉ (),M,Ż]at R;obtain rfl:dl=t:=Î R;rw[a9 (Xn _ h5)];exact h5
  .have e:=b _ _ D;rw[a9 (λz=>by rw[z,O]at e;cases e)];exact e
  .intro m q;have e:=b _ _ (Og m q)
   by_cases z:m.2=lt
   .exfalso;have f:=Rj m q;rw[z,C]at f;cases f
   .rw[a9 z];exact e
  .exact λc r e=>by rw[a9 (ae e flt)];exact b _ _ (s4 _ _ e)
 .rintro σ H4 ⟨ts,dc,v4,v6,v7,rfl,M,UY,Tc,Y,D,Og,s4⟩;exact{_,rfl,k lt ts H4 s4 flt Tc M Y}
theorem wF(L:Lk K mg):aI P w K mg base cz 6 L.pC L.pM ["band","place","length"] (HF L.au):=by
 refine L.pY.F.d2 (N:=["band","place","length"]) (λy A outer s H S Q E nd C h=>?_)
 let{x,p,n,g,r,ss,ls,rfl,B,u,e,f,i,j,k}:=h
 have D:=fo C
 refine{_,(a0 (bR (F6 (0) L.aJ.cl L.eX (gD L) (aB (1))))
  (a8 (aj (dk D (bI bj (ag (eP L) L.dH (a5 (0) (aB (2)))) (Gg Bw af) (λ_ _=>rfl)) (1) (λ_ _=>rfl))))),?_}
 ac_rfl
 let{{G,b,d,q,T,I,U,X,Y,Z,h6},_,_,_}:=id B
 refine{1,x,G,1,I,Ep _ _ _ _ ∅ ∅ ∅ ∅,1,x,p,g,r,ss,ls,rfl,B,u,?_};refine{2,x,n,g,r,ss,ls,rfl,B,e,f,i,j,λl m J s1 f1 hl a M=>?_};obtain⟨c,t,rfl⟩:∃l t,m=l++[t]:={m.dropLast,m.getLast (by intro z;rw[z]at a;simp at a),(wcv _).symm};have O:yq ((c++[t]).map V.ref) (-1)=ρ (.ref t):=by rw[Û];exact zu _ _
 have o:c.9=n.toNat:=by rw[Ò,wcD]at a;lia
 have R:=M n.toNat t (by rw[ĉ (),o,Ż];rfl);have v:=eQ.k (k:=(Ã p:Key)) R;rw[kY _ u]at v;exact{1,l,_,-1,1,rfl,aL.of hl,O,1,t,1,v,k J s1}
theorem IH(L:Lk K mg):aI P w K mg base cz 7 L.DG L.DH ["band","length"] (Kd L.au):=by
 refine L.DI.F.d2 (N:=["band","length"]) (λf A outer s H j Q E nd l h=>?_)
 let{x,n,g,e,ss,ls,rfl,B,a,b,c,d,k}:=h
 refine{_,(a8 (aj (ag (wF L) L.pY (a5 (0) (a5 ai (aB (1))))))),?_}
 ac_rfl
 have i:("":Str)∈ss:=B.pm.mem_iff.mpr (cp e);exact{2,x,"",n,g,e,ss,ls,rfl,B,i,a,b,c,d,k}
theorem dO(L:Lk K mg):aI P w K mg base cz 1 L.vn L.vy ["thing"] Hk:=by
 have T:=L.T;refine L.dI.F.d2 (N:=["thing"]) (λa A outer s H c Q E nd d h=>?_)
 let{v,rfl,b,k}:=h
 refine{_,(a8 (aj (dD (aF cU (by rfl) T.sY gu (a5 (0) (aB (gJ (v:=.ty "int") (by rfl) T.int wu rfl)))) (fP (Mi (aF cU (by rfl) T.sY gu (a5 (0) (aB (gJ (v:=.ty "bool") (by rfl) T.bool Q1 rfl))))))))),?_}
 ac_rfl
 cases b with
 |flat f=>
  cases v with
  |non=>exact{1,_,_,_,false,rfl,eA.non,rfl,false,rfl,aA k}
  |bl z=>exact{1,_,_,_,true,rfl,eA.bl z,rfl,true,rfl,b6 {1,_,_,_,true,rfl,eA.bl z,rfl,true,rfl,k}}
  |int z=>exact{1,_,_,_,true,rfl,eA.int z,rfl,true,rfl,b6 {1,_,_,_,false,rfl,eA.int z,rfl,false,rfl,k}}
  |str z=>exact{1,_,_,_,false,rfl,eA.str z,rfl,false,rfl,aA k}
  |flt z=>exact{1,_,_,_,false,rfl,eA.flt z,rfl,false,rfl,aA k}
  |ref z=>cases f
  |ty z=>cases f
  |_=>cases f
 |lst h f=>exact{1,_,_,_,false,rfl,eA.lst h,rfl,false,rfl,aA k}
 |tup h f=>exact{1,_,_,_,false,rfl,eA.tup h,rfl,false,rfl,aA k}
 |dic h=>exact{1,_,_,_,false,rfl,eA.dK h,rfl,false,rfl,aA k}
theorem sS(L:Lk K mg):aI P w K mg base cz 1 L.vo L.vz ["band","wide"] (EE L.au):=by
 have T:=L.T;refine L.oB.F.d2 (N:=["band","wide","rows","step"]) (λf A outer s H r Q E nd t h=>?_)
 let{x,n,g,u,ss,ls,rfl,B,j,l,m,k}:=h
 refine{_,(a0 (al (i:=2) af)
  (a0 (forA (cR rfl T.range (aB (1))) (ay (i:=3)) (a8 (yB (i:=2) nd rfl (ó rfl) (A3 T.len (aM (0) rfl)) Gu)))
  (a8 (aj (2))))),?_}
 ac_rfl
 let{{o,b,d,q,v,p,y,z,C,D,G},_,_,_}:=id B
 refine{1,n,rfl,(),(),cP (lo:=0) (n:=n.toNat) (λi σ a=>a=H/\∃c,σ=[ρ (.ref x),ρ (.int n),ρ (.int ((g.9:Int)^i)),c]) ⟨rfl,τ,rfl⟩ ?_ ?_}
 .rintro i σ a hi ⟨e,c,rfl⟩;rw[e];refine{2,x,L.au,o,_,1,p,L.aJ.cl,L.aJ.tR,ow g b d q,g,rfl,ak (),_,1,rfl,.inr {(),()},rfl,ρ (.int (0+(i:Int))),?_};rw[ť];rfl
 .rintro σ a ⟨e,c,rfl⟩;rw[e];exact{_,rfl,k}
theorem vT(L:Lk K mg):aI P w K mg base cz 2 L.y4 L.yd ["band","many","wide"] (EJ L.au):=by
 refine L.rj.F.ok BQ (λp H Q E h=>?_) (λq A outer s H p Q E D h=>?_)
 .rcases h with⟨x,many,wide,g,c,ss,ls,rfl,_⟩ |⟨x,v,u,rfl,_⟩<;>rfl
 .rcases h with⟨x,many,wide,g,c,ss,ls,rfl,B,a,d,k⟩ |⟨x,v,u,rfl,⟨g,c,ss,ls,B,r,a,t,y,hn⟩,k⟩
  .skip
   refine{_,(a0 (aQ (PW.pt (cH (cQ (bO (ag (dO L) L.dI (aB (1))))) (cH (b8 kg (1) af) (dg (b8 fq (1) af))))) (a8 (aj dj)) aw)
    (a0 (aQ (PW.pt (cH (cQ (bO (ag (dO L) L.dI (aB (2))))) (cH (b8 kg (2) af) (dg (b8 fq (2) af))))) (a8 (aj dj)) aw)
    (a8 (aj (bc Gh (ag (sS L) L.oB (a5 (0) (aB (2)))) af (bH _)))))),?_}
   ac_rfl
   let{ha,G,hc,hd,C}:=id d
   refine{1,.int many,rfl,.flat rfl,true,rfl,aA ?_};refine{1,_,1,rfl,false,congrArg V.bl (decide_eq_false ()),aA ?_};refine{1,_,1,rfl,false,congrArg V.bl (decide_eq_false ()),aA ?_};refine{1,.int wide,rfl,.flat rfl,true,rfl,aA ?_};refine{1,_,1,rfl,false,congrArg V.bl (decide_eq_false ()),aA ?_};refine{1,_,1,rfl,false,congrArg V.bl (decide_eq_false ()),aA ?_};refine{2,x,wide,g,c,ss,ls,rfl,B,a,(),(),_,1,rfl,?_};show Q (V.bl (decide ((g.9:Int)^wide.toNat<=64))) H;rw[decide_eq_true C];exact k
  .skip
   refine{_,(a0 (aQ (PW.pt (cH (cQ (bO (ag (dO L) L.dI (aB (1))))) (cH (b8 kg (1) af) (dg (b8 fq (1) af))))) (a8 (aj dj)) aw)
    (a0 (aQ (PW.pt (cH (cQ (bO (ag (dO L) L.dI (aB (2))))) (cH (b8 kg (2) af) (dg (b8 fq (2) af))))) (a8 (aj dj)) aw)
    (a8 (aj (bc Gh (ag (sS L) L.oB (a5 (0) (aB (2)))) af (bH _)))))),?_}
   ac_rfl
   by_cases j:∃many,v=.int many
   .let{many,rfl}:=j
    refine{1,.int many,rfl,.flat rfl,true,rfl,aA ?_}
    by_cases l:many<2
    .exact{1,_,1,rfl,true,congrArg V.bl (decide_eq_true l),b6 k}
    refine{1,_,1,rfl,false,congrArg V.bl (decide_eq_false l),aA ?_}
    by_cases m:many>8
    .exact{1,_,1,rfl,true,congrArg V.bl (decide_eq_true m),b6 k}
    refine{1,_,1,rfl,false,congrArg V.bl (decide_eq_false m),aA ?_}
    by_cases b:∃wide,u=.int wide
    .let{wide,rfl}:=b
     refine{1,.int wide,rfl,.flat rfl,true,rfl,aA ?_}
     by_cases n:wide<1
     .exact{1,_,1,rfl,true,congrArg V.bl (decide_eq_true n),b6 k}
     refine{1,_,1,rfl,false,congrArg V.bl (decide_eq_false n),aA ?_}
     by_cases o:wide>6
     .exact{1,_,1,rfl,true,congrArg V.bl (decide_eq_true o),b6 k}
     refine{1,_,1,rfl,false,congrArg V.bl (decide_eq_false o),aA ?_};refine{2,x,wide,g,c,ss,ls,rfl,B,a,(),(),_,1,rfl,?_}
     have e:¬(g.9:Int)^wide.toNat<=64:=λe=>by
      have f:=of_decide_eq_false (show decide (2<=many/\many<=8/\1<=wide/\wide<=6/\(g.9:Int)^wide.toNat<=64)=false from hn);exact f {(),(),(),(),e}
     show Q (V.bl (decide ((g.9:Int)^wide.toNat<=64))) H;rw[decide_eq_false e];exact k
    .have i:yJ u=false:=by
      cases u with
      |int z=>exact absurd {_,rfl} b
      |_=>rfl
     exact{1,u,rfl,y,false,by rw[i],b6 k}
   .have i:yJ v=false:=by
     cases v with
     |int z=>exact absurd {_,rfl} j
     |_=>rfl
    exact{1,v,rfl,t,false,by rw[i],b6 k}
theorem iY(L:Lk K mg):aI P w K mg base cz 3 L.jT L.jV ["band","many","wide"] (uW L.au):=by
 refine L.cK.F.d2 (N:=["band","many","wide"]) (λc A outer s H e Q E nd f h=>?_)
 let{x,many,wide,g,d,ss,ls,rfl,B,a,b,k}:=h
 refine{_,(a0 (aQ (cQ (bO (ag (vT L) L.rj (a5 (0) (a5 (1) (aB (2))))))) bK aw)
  (a8 (aj dj))),?_}
 ac_rfl
 exact{3,.inl {x,many,wide,g,d,ss,ls,rfl,B,a,b,true,rfl,aA k}}
theorem Fq(L:Lk K mg):aI P w K mg base cz 6 L.Aq L.Av ["band","many","wide","most"] (EG L.au):=by
 have T:=L.T;refine L.Ay.F.d2 (N:=["band","many","wide","most","table","rows_of_data","length"]) (λgG A outer s H vs Q E nd hr h=>?_)
 let{x,many,wide,most,g,m,ss,ls,rfl,B,q,D,r,Te,V0,Z}:=h
 have k1:∀k:Nat,1<=k->(k:Int)<=most->dW g m ss (k*wide.toNat) "" < many^k->(∀j:Nat,1<=j->j<k->¬dW g m ss (j*wide.toNat) "" < many^j)->∀f,a7 H f->Q (.int (k:Nat)) f:=λk a b c d f G=>Z _ f G (.some k a b c d);have k2:(∀j:Nat,1<=j->(j:Int)<=most->¬dW g m ss (j*wide.toNat) "" < many^j)->∀f,a7 H f->Q .non f:=λa f G=>Z _ f G (.none a);have hu:=fo hr
 refine{_,(a0 (bR (ag (iY L) L.cK (a5 (0) (a5 (1) (aB (2))))))
  (a0 (al (i:=4) (ag (eP L) L.dH (a5 (0) (aB (aD lq (3) (2))))))
  (a0 (al (i:=5) af)
  (a0 (forA (qK rfl T.range (a5 af (aB (aD eU (3) af)))) (ay (i:=6)) (a0 (yB (i:=5) nd rfl (ó rfl) (1) Gu)
  (a8 (aQ (b8 kg (dk hu (bI bj (4) (aD lq (6) (2)) (λ_ _=>rfl)) ai (λ_ _=>rfl)) (5)) (a8 (aj (6))) aw))))
  (a8 (aj cm)))))),?_}
 ac_rfl
 have he:("":Str)∈ss:=B.pm.mem_iff.mpr (cp m)
 let{ha,hb,hc,hd,_}:=id r
 obtain⟨e,t⟩:∃w:Nat,wide=(w:Int):={wide.toNat,()};obtain⟨u,I⟩:∃w:Nat,most=(w:Int):={most.toNat,()};have o:most*wide=((u*e:Nat):Int):=by rw[t,I,wfF]
 have Zv:u*e<=600:=by
  have p:u<=100:=();have h2:e<=6:=();exact Õ (we0 p h2) ⋯
 have ew:wide.toNat=e:=();rw[ew]at k1 k2;refine{3,x,many,wide,g,m,ss,ls,rfl,B,q,r,?_};refine{3,_,1,rfl,.inl {(),()},x,most*wide,g,m,ss,ls,rfl,B,q,D,by rw[o];lia,by rw[o];lia,λl J M s1 f1 hl O ht=>?_};rw[o,ć]at O;refine⟨_,rfl,_,_,rfl,rfl,1,most+1,rfl,{(),(),(),()},cP (lo:=1) (n:=(most+1-1).toNat) (λi σ R=>R=M/\(∃v6,σ=[ρ (.ref x),ρ (.int many),ρ (.int wide),ρ (.int most),ρ (.ref l),ρ (.int (many^i)),v6])/\∀j:Nat,1<=j->j<=i->¬dW g m ss (j*e) "" < many^j) {rfl,{τ,by rw[wgM];rfl},λj p h2=>()} ?_ ?_⟩
 .rintro i σ R hi ⟨S,⟨v6,rfl⟩,lo⟩;rw[S];have U:i+1<=u:=();have Zw:(i+1)*e<=u*e:=wgg _ U;have v:(i+1)*e<J.9:=();have e1:(J.map V.ref)[(i+1)*e]?=ρ (.ref J[(i+1)*e]):=by rw[Ê,È v];rfl
  have y:=b5 e1;have ei:((((i+1)*e:Nat)):Int)=(1+(i:Int))*wide:=by rw[t,wfF,wez,Int.add_comm];rfl
  rw[ei]at y;have X:=ht _ _ (È v);have e3:=eQ.k (k:=(Ã "":Key)) X;rw[kY _ he]at e3;refine{2,_,1,rfl,.inr {(),()},?_};refine{3,_,1,rfl,.inr {(),()},l,_,_,1,rfl,aL.of hl,y,_,1,e3,1,_,1,rfl,1,?_};refine yt (λp=>?_) (λp=>{rfl,{_,by rw[ť];rfl},λj C q2=>?_})
  .have Y:=of_decide_eq_true p;have:=k1 (i+1) () () (by rw[ť];exact Y) (λj C q2=>lo j C ()) M s1;rw[show (((i+1:Nat):Nat):Int)=1+(i:Int) by lia]at this;exact{_,rfl,this}
  .by_cases hj:j<=i
   .exact lo j C hj
   .obtain rfl:j=i+1:=();rw[ť];exact λz=>p (decide_eq_true z)
 .rintro σ R ⟨S,⟨v6,rfl⟩,lo⟩;rw[S];exact k2 (λj C q2=>lo j C ()) M s1
theorem oG(L:Lk K mg):aI P w K mg base cz 1 L.iF L.iH ["self","place"] (SG L.au):=by
 have T:=L.T;refine L.iN.F.d2 (N:=["self","place"]) (λa A outer s H l Q E nd m h=>?_)
 let{x,p,g,n,ss,ls,rfl,B,c,k}:=h
 let{{f,b,d,q,o,i,r,t,u,y,j},_,_,_}:=B
 refine{_,(a8 (aQ (PW.pt (cH (cQ (bO (aF cU (by rfl) T.sY gu (a5 (1) (aB (gJ (v:=.ty "str") (by rfl) T.str zZ rfl)))))) (dg (eL jC (1) (aM (0) rfl) rfl)))) bK aw)),?_}
 ac_rfl
 refine{1,_,_,_,true,rfl,eA.str p,rfl,true,rfl,aA ?_};refine{2,x,L.au,f,_,1,i,L.aJ.cl,L.aJ.rg,xP g b d q,q,1,.inl (aL.of j),rfl,eZ _,?_};have e:jy (.str p) (ls.map V.str)=true:=by rw[fm];exact decide_eq_true c
 refine{false,?_,aA k};show V.bl (!jy (.str p) (ls.map V.str))=V.bl false;rw[e];rfl
theorem vU(L:Lk K mg):aI P w K mg base cz 3 L.nC L.nM ["band","rows"] (HD L.au):=by
 refine L.nU.F.d2 (N:=["band","rows","longer","word","place","sign","end"]) (λgG A outer s H vs Q E nd hr h=>?_)
 let{x,l,rs,m,g,n,ss,ls,rfl,B,R,hq,Tf,IG,k}:=h
 refine{_,(a0 (al (i:=2) (bM jB))
  (a0 (forA (aW (1)) (eV rfl (aS (ay (i:=3)) (aS (ay (i:=4)) cW))) (a8 (forA (qL (aM (0) rfl)) (ay (i:=5)) (a0 (al (i:=6) (F6 (0) L.aJ.cl L.oC (sR L) (a5 (4) (aB (5)))))
  (a8 (aQ (b8 gd (6) cm) (a8 (bR (iy Ħ ő ŧ f5 (2) (aB (eC (a5 (aD b9 (3) (5)) (aB (6)))))))) aw))))))
  (a8 (aj (2))))),?_}
 ac_rfl
 refine{à _,λu v=>?_};have s0:a7 H (upd H u (.lst [])):=a7.upd v;refine{1,l,rfl,{_,aL.of (s0 _ _ R.l)},eG (K:=K) (a:=l) (xs:=rs.map V.ref) (λi σ I=>∃(v3 v4 z v6:Option V) (f:List Addr),σ=[ρ (.ref x),ρ (.ref l),ρ (.ref u),v3,v4,z,v6]/\a7 H I/\cS I u f (fx g n ss (m.take i))) {τ,τ,τ,τ,[],rfl,s0,{a6,bq.nil _}} (λi σ I _ {_,_,_,_,_,_,s2,_}=>aL.of (s2 _ _ R.l)) ?_ ?_}
 .rintro i y σ I C ⟨v3,v4,z,v6,f,rfl,s2,R2⟩;rw[Ê]at C
  obtain⟨r,J,rfl⟩:∃r,rs[i]?=ρ r/\y=.ref r:=by
   cases q:rs[i]? with
   |none=>rw[q]at C;cases C
   |some r=>rw[q]at C;exact{r,rfl,(Î C).symm}
  have O:i<m.9:=by have:=(Ô.mp J).1;rw[R.len]at this;exact this
  have S:m[i]?=ρ m[i]:=È O
  let{T,U}:=hq m[i] (ă O)
  have hT:=R.t.2 i r (lx m[i]) J (by rw[Ê,S];rfl);have sW:m.take (i+1)=m.take i++[m[i]]:=by rw[Ē,S];rfl
  have D:fx g n ss (m.take (i+1))=fx g n ss (m.take i)++gv g n ss m[i]:=by
   delta fx;rw[sW,wgu];simp
  have KB:(fx g n ss (m.take i)).9<=1000:=by
   have h1:=rM g n ss (m.take i);have h2:(m.take i).9<=100:=by rw[â];lia
   exact Õ h1 (we0 h2 IG)
  generalize m[i]=q at T U hT D
  let{w,p}:=q
  generalize fx g n ss (m.take i)=M at R2 D KB;refine{r,1,gF.of (s2 _ _ hT),rfl,_,1,_,1,rfl,?_};have B2:=B.same s2
  let{{dx,b,d,qq,mv,h1,h2,h3,h4,h5,h6},pm,_,_}:=id B2
  refine{1,x,L.au,dx,_,1,h1,L.aJ.cl,L.aJ.tR,ow g b d qq,g,rfl,og (j1 g) (λj σ X=>∃(z v6:Option V) (f:List Addr),σ=[ρ (.ref x),ρ (.ref l),ρ (.ref u),ρ (.str w),ρ (.str p),z,v6]/\a7 H X/\cS X u f (M++((ch g).take j).filterMap λc=>if bears n (p++{#[c]})=true then τ else ρ (w++{#[c]},lend ss (p++{#[c]})))) {_,_,f,rfl,s2,by rw[wg7,List.filterMap_nil,û];exact R2} (λ_ _ _ _ _=>trivial) ?_ ?_}
  .rintro j y σ X C ⟨z,v6,f,rfl,Y,R3⟩
   let{c,Zx,rfl,hj,Xp,Qj}:=Er C
   have B3:=B.same Y
   let{{Xq,_,_,_,_,Qk,_},_}:=id B3
   refine{1,x,Xq,1,Qk,Ep _ _ _ _ ∅ ∅ ∅ ∅,2,x,p,c,g,n,ss,ls,rfl,B3,T,Xp,?_}
   have Z:(M++((ch g).take j).filterMap λc=>if bears n (p++{#[c]})=true then τ else ρ (w++({#[c]}:Str),lend ss (p++({#[c]}:Str)))).length<=1010:=by
    have:=wcU (λc=>if bears n (p++{#[c]})=true then τ else ρ (w++({#[c]}:Str),lend ss (p++({#[c]}:Str)))) ((ch g).take j);rw[â,aR]at this;rw[Ò]
    lia
   refine{1,rfl,1,?_};rw[Qj,wg5,<-ā];generalize (M++((ch g).take j).filterMap λc=>if bears n (p++{#[c]})=true then τ else ρ (w++({#[c]}:Str),lend ss (p++({#[c]}:Str))))=M2 at R3 Z
   cases hb:bears n (p++⟨#[c]⟩) with
   |true=>
    have e:tQ n ss p c=.non:=by unfold tQ;rw[hb];rfl
    rw[e];refine aA {_,_,f,rfl,Y,?_}
    have e2:([c].filterMap λc=>if bears n (p++{#[c]})=true then τ else ρ (w++({#[c]}:Str),lend ss (p++({#[c]}:Str))))=[]:=by
     rw[ĕ,hb];rfl
    rw[e2,û];exact R3
   |false=>
    have e:tQ n ss p c=.str (lend ss (p++{#[c]})):=by unfold tQ;rw[hb];rfl
    rw[e]
    have e2:([c].filterMap λc=>if bears n (p++{#[c]})=true then τ else ρ (w++({#[c]}:Str),lend ss (p++({#[c]}:Str))))=[(w++{#[c]},lend ss (p++{#[c]}))]:=by
     rw[ĕ,hb];rfl
    rw[e2];have KA:=R3.len;have Xr:w.9<=100:=U;refine b6 {1,.inl {rfl,_,aL.of R3.l},2,_,1,rfl,ak (by show w.9+1<=_;lia),1,by show 2<=sizeLine;decide,λr' G=>?_};refine{u,_,1,rfl,a7.upd G _ _ R3.l,by rw[Á,KA];exact ĺ Z (by rw[Ę];decide),?_};have key:=R3.push G (w++{#[c]},lend ss (p++{#[c]}))
    have sk:a7 H (upd (upd X r' (.tup [.str (w++{#[c]}),.str (lend ss (p++{#[c]}))])) u (.lst (f.map V.ref++[.ref r']))):=λa o ea=>by
     rw[a9 (ae ea v)];exact a7.upd G _ _ (Y _ _ ea)
    unfold lx at key;generalize lend ss (p++{#[c]})=le at key sk ⊢;refine{ρ (.str {#[c]}),ρ (.str le),f++[r'],?_,?_,?_}
    .rfl
    .exact sk
    .exact key
  .rintro σ X ⟨z,v6,f,rfl,Y,R3⟩;refine{_,_,_,_,f,rfl,Y,?_};have:(cD g).9=(ch g).9:=by unfold cD;rw[Á]
   rw[this,õ]at R3;rw[D];exact R3
 .rintro σ I ⟨v3,v4,z,v6,f,rfl,s2,R2⟩;rw[Á,R.len,õ]at R2;exact{_,rfl,k u f I s2 v R2}
theorem mC(L:Lk K mg):aI P w K mg base cz 4 L.nD L.nN ["band","place","wide"] (HE L.au):=by
 have T:=L.T;refine L.iU.F.d2 (N:=["band","place","wide","rows","step","live"]) (λgG A outer s H vs Q E nd hr h=>?_)
 let{x,p,n,g,a,ss,ls,rfl,B,hp,f,hn,Ji,I,k}:=h
 refine{_,(a0 (bR (F6 (0) L.aJ.cl L.iN (oG L) (aB (1))))
  (a0 (al (i:=3) (bM (aB (eC (a5 ai (aB (1)))))))
  (a0 (forA (cR rfl T.range (aB (2))) (ay (i:=4)) (a8 (al (i:=3) (ag (vU L) L.nU (a5 (0) (aB (3)))))))
  (a0 (al (i:=5) (n7 (0) L.aJ.cl L.iO (jZ L)))
  (a8 (aj (hO rfl (az ["live"] [5]) (az ["live"] [5]) ⋯ (aW (3)) (λ_ _ _ _ _ _=>gL (eL (jD (K:=K) rfl) (1) (2) rfl)) (λ_ _ _ _ _ _=>(eC (a5 (0) (aB (1)))))))))))),?_}
 ac_rfl
 have he:("":Str)∈ss:=B.pm.mem_iff.mpr (cp a);have J:p∈ss:=B.lv.sub.subset hp
 let{{dx,b,d,q,mv,j,y,h3,h4,h5,h6},pm,_,_}:=id B
 refine{1,x,dx,1,j,Ep _ _ _ _ ∅ ∅ ∅ ∅,1,x,p,g,a,ss,ls,rfl,B,hp,?_};refine{1,by show 2<=sizeLine;decide,λe M=>{by show 1<=sizeLine;decide,λz m=>?_}}
 have R0:cS (upd (upd H e (.tup [.str "",.str p])) z (.lst [.ref e])) z [e] (lE g a ss p 0):=by
  refine{a6,rfl,λi r xs j y=>?_}
  match i,j,y with
  |0,j,y=>
   cases j;cases y;exact a7.upd m _ _ a6
 have s0:a7 H (upd (upd H e (.tup [.str "",.str p])) z (.lst [.ref e])):=(a7.upd M).trans (a7.upd m);refine{1,(n:Int),rfl,(),(),?_};rw[ć];refine cP (lo:=0) (n:=n) (λi σ C=>∃(l:Addr) (o:List Addr) (v4:Option V),σ=[ρ (.ref x),ρ (.str p),ρ (.int (n:Int)),ρ (.ref l),v4,τ]/\a7 H C/\cS C l o (lE g a ss p i)) {z,[e],τ,rfl,s0,R0} ?_ ?_
 .rintro i σ C hi ⟨l,o,v4,rfl,s2,R2⟩;have c:(lE g a ss p i).9<=100:=Õ (p0 g a ss p i) (Õ (weC () ()) f);refine{2,x,l,o,_,g,a,ss,ls,rfl,B.same s2,R2,λr hr=>?_,c,I,λl' O H3 u f3 R3=>{l',O,_,rfl,s2.trans u,R3}}
  let{a1,a2}:=Ag he J i r hr
  exact{a1,()}
 .rintro σ C ⟨l,o,v4,rfl,s2,R2⟩;have B2:=B.same s2
  let{{R,_,_,_,_,S,_},_}:=id B2
  refine{1,x,R,1,S,Ep _ _ _ _ ∅ ∅ ∅ ∅,x,g,a,ss,ls,rfl,B2,λlv H3 u f3 U=>?_};have R3:=R2.same u;have c:(lE g a ss p n).9<=100:=Õ (p0 g a ss p n) f;have KA:=R3.len;refine{1,l,rfl,{_,aL.of R3.l},λlr v=>?_};refine Fc (prs:=(lE g a ss p n).map oR) (λq=>jy q.2 (ls.map V.str)) nc (aU K l (o.map V.ref)) (by rw[Dk];exact R3.t) v (ak ()) (λH' s'=>aL.of (s' _ _ R3.l)) (λqv D Q' hq G X=>?_) (λqv D Q' hq _ G X=>?_) (λys D G Y t4=>?_)
  .let{q',1}:=Å.mp hq
   exact{2,lv,1,.inl (aL.of (G _ _ U)),rfl,eZ _,1,X D (a7.refl _)}
  .exact{2,by show 2<=sizeLine;decide,λr' Z=>X r' _ (a7.upd Z) a6}
  .rw[zS]at t4;exact k lr ys D ((s2.trans u).trans G) (none_of (s2.trans u) v) ⟨Y,t4⟩
theorem wG(L:Lk K mg):aI P w K mg base cz 5 L.pD L.pN ["band","wide"] (A9 L.au):=by
 refine L.q4.F.d2 (N:=["band","wide","ends","place"]) (λgG A outer s H vs Q E nd hr h=>?_)
 let{x,n,g,J,ss,ls,rfl,B,Tg,hn,Ji,IG,IE,k}:=h
 have hu:=fo hr
 refine{_,(a0 (al (i:=2) dC)
  (a0 (forA (aW (n7 (0) L.aJ.cl L.iO (jZ L))) (ay (i:=3)) (a8 (fu hu (2) (3) (hO rfl (az [] []) (az [] []) ⋯ (aW (ag (mC L) L.iU (a5 (0) (a5 (3) (aB (1)))))) (λ_ _ _ _ _ _=>bx) (λ_ _ _ _ _ _=>(1))) rfl)))
  (a8 (aj (2))))),?_}
 ac_rfl
 refine λu v=>?_;have s0:a7 H (upd H u (.dK [])):=a7.upd v;have B0:=B.same s0
 let{{dx,b,d,q,mv,h1,h2,h3,h4,h5,h6},pm,_,_}:=id B0
 refine{1,x,dx,1,h1,Ep _ _ _ _ ∅ ∅ ∅ ∅,x,g,J,ss,ls,rfl,B0,λlp X s1 f1 R=>?_};have Rk:lp≠u:=λz=>by rw[z,a6]at f1;cases f1
 have nd:ls.Nodup:=B.nd.sublist B.lv.sub;have F4:ls.9<=900:=Õ B.lv.sub.length_le IE
 refine{lp,rfl,{_,aL.of R},eG (K:=K) (a:=lp) (xs:=ls.map V.str) (λi σ Y=>∃v3 r,σ=[ρ (.ref x),ρ (.int (n:Int)),ρ (.ref u),v3]/\Y u=ρ (.dK (cn r))/\r.map (·.1)=ls.take i/\(∀m∈r,Y m.2=ρ (.lst (((bo g J ss ls n m.1).map (·.2)).map V.str)))/\(∀m∈r,X m.2=τ)/\(∀c o,X c=ρ o->c≠u->Y c=ρ o))
  {τ,[],rfl,s1 _ _ a6,rfl,λm C=>(nomatch C),λm C=>(nomatch C),λc o e _=>e} (λi σ Y _ {_,_,_,_,_,_,_,M}=>aL.of (M _ _ R Rk)) ?_ ?_}
 .rintro i y σ Z hy ⟨v3,r,rfl,D,f,j,G,M⟩
  let{p,Ta,rfl,hi,CI,sW}:=gj hy
  have T6:a7 H Z:=λc o e=>M _ _ (s1 _ _ (s0 _ _ e)) (ae e v);refine{3,x,p,n,g,J,ss,ls,rfl,B.same T6,CI,Tg,hn,Ji,IG,λlb rs H6 s6 f6 R6=>?_};have Rl:=jN g J ss ls n p;have KA:=R6.len;refine{lb,rfl,{_,aL.of R6.l},λe he=>?_};refine Cu (prs:=(bo g J ss ls n p).map oR) (λ_=>true) (λq=>q.2) (aU K lb (rs.map V.ref)) (by rw[Dk];exact R6.t) he (ak ()) (λH' s'=>aL.of (s' _ _ R6.l)) (λq H7 Q' _ _ qq=>qq H7 (a7.refl _)) (λq H7 Q' _ _ _ qq=>{1,qq H7 (a7.refl _)}) (λH7 s7 h7=>?_)
  have e7:(((bo g J ss ls n p).map oR).filter λ_=>true).map (λq=>q.2)=((bo g J ss ls n p).map (·.2)).map V.str:=by
   rw[ċ.mpr (λ_ _=>rfl),Ì,Ì];rfl
  rw[e7]at h7;have O:=s6.trans s7;have d6:=O _ _ D;have I:Z e=τ:=none_of s6 he;have S:p∉r.map (·.1):=by rw[f];exact hH nd Ta
  have T7:r.9<=900:=by have:=congrArg Ĳ f;rw[Á,â]at this;lia
  refine{2,u,1,mZ.k (k:=Ã p) d6 (by unfold cn;rw[Á];exact bY ()),?_};have T:e≠u:=λz=>by rw[z,D]at I;cases I
  have e1:X e=τ:=by
   cases q:X e with
   |none=>rfl
   |some o=>
    have:=M _ _ q T;rw[this]at I;cases I
  refine{_,r++[(p,e)],rfl,?_,?_,?_,?_,?_}
  .rw[a6,gg _ (om S)];unfold cn;rw[Û];rfl
  .rw[Û,f,sW];rfl
  .intro m C;rcases ñ.mp C with z |z
   .have nm:m.2≠u:=λq=>by
     have:=G m z;rw[q,s1 _ _ a6]at this;cases this
    rw[a9 nm];exact O _ _ (j m z)
   .have:m=(p,e):=by simpa using z
    subst this;rw[a9 T];exact h7
  .intro m C;rcases ñ.mp C with z |z
   .exact G m z
   .have:m=(p,e):=by simpa using z
    subst this;exact e1
  .intro c o hc U;rw[a9 U];exact O _ _ (M c o hc U)
 .rintro σ Z ⟨v3,r,rfl,D,f,j,G,M⟩;rw[Á,õ]at f;exact{1,k u r Z (λc o e=>M _ _ (s1 _ _ (s0 _ _ e)) (ae e v)) v D f j λm C=>none_of s0 (none_of s1 (G m C))}
theorem zf(L:Lk K mg):aI P w K mg base cz 1 L.rX L.sx ["places","weights"] (Hj K):=by
 have T:=L.T;refine L.sL.F.d2 (N:=["places","weights"]) (λj A outer s H y Q E nd n h=>?_)
 let{l,d,o,m,f,rfl,g,p,hd,hw,k}:=h
 have q:=fo n;refine{_,(a8 (aj (aF (zJ rfl) (by rfl) T.sum MN (aB (c6 rfl (az ["weights"] [1]) (aW (0)) (λ_ _ _ _ _ _=>bx) (λ_ _ _ _ _ _=>(dk q (1) (0) (λ_ _=>rfl)))))))),?_}
 ac_rfl
 refine{1,l,rfl,{_,g},λr a=>?_};refine comp_map (Jx f) (aU K l (o.map V.str)) a (by rw[Á];exact ak ()) (λB t=>t.seq g) (λz b C u c v=>?_) (λb c i=>?_)
 .let{e,x,rfl}:=Å.mp u
  have g3:=eQ.rd (k:=(Ã e:Key)) (hd.same c);rw[dR,hw e x]at g3;exact{2,d,1,g3,v b (a7.refl _)}
 .rw[qG]at i;exact{r,_,rfl,aL.of i,k b c}
theorem CJ(L:Lk K mg):aI P w K mg base cz 2 L.y9 L.ye ["ends","many","weights"] EF:=by
 have T:=L.T;refine L.yh.F.d2 (N:=["ends","many","weights","lower","place"]) (λU A outer s H vs Q E nd X h=>?_)
 let{x,B,many,n,o,M,f,g,r,ss,ls,rfl,l,O,Y,Z,nd,F4,V1,Th,C,k}:=h
 have D:=fo X
 refine{_,(a0 (al (i:=3) dC)
  (a0 (forA (tS (0)) (ay (i:=4)) (a8 (fu D (3) (4) (aF (E6 rfl) (by rfl) T.min Q2 (a5 (dk D (2) (4) (λ_ _=>rfl)) (aB (aD gK (ag (zf L) L.sL (a5 (dk D (0) (4) (λ_ _=>rfl)) (aB (2)))) (1))))) rfl)))
  (a8 (aj (3))))),?_}
 ac_rfl
 refine λdl m=>?_;have s0:a7 H (upd H dl (.dK [])):=a7.upd m;have J:=j5 x o (cn M);rw[gW,O]at J;refine{1,x,1,.inr {o,s0 _ _ l,?_}};refine og J (λj σ t=>∃(v4:Option V),σ=[ρ (.ref x),ρ (.int many),ρ (.ref B),ρ (.ref dl),v4]/\t dl=ρ (.dK (bG (cE (lF g r ss ls many n f) (ls.take j))))/\a7 H t) ⟨τ,rfl,a6,s0⟩ (λj σ t _ {_,_,_,b}=>b _ _ l) ?_ ?_
 .rintro j y σ t hy ⟨v4,rfl,z,b⟩
  let{p,G,rfl,hj,u,sW}:=gj hy
  have d:=C.same b;have g3:=eQ.rd (k:=(Ã p:Key)) d;rw[dR,jH f ls p u]at g3
  let{a,ha,hv}:=j3 (mv:=M) (k:=p) (by rw[O];exact u)
  have R:=eQ.f (k:=(Ã p:Key)) (b _ _ l);rw[hv]at R;have I:=b _ _ (Y _ ha);have Rl:=jN g r ss ls n p;refine{2,B,1,g3,2,x,1,R,1,a,B,(bo g r ss ls n p).map (·.2),_,f,rfl,aL.of I,by rw[Á];lia,d,λe he=>?_,λH4 S=>?_}
  .let{q,hq,rfl}:=Å.mp he
   exact jH f ls _ (cY hq)
  have eb:(((bo g r ss ls n p).map (·.2)).map f).sum=fL g r ss ls n f p:=by delta fL;rw[Ì];rfl
  refine{1,_,1,rfl,{(),()},_,1,?_};have h4:=S _ _ z;have v:p∉(cE (lF g r ss ls many n f) (ls.take j)).map (·.1):=by rw[qQ];exact hH nd G
  refine{2,dl,1,mZ.k (k:=Ã p) h4 (by rw[j6];delta cE;rw[Á,â];exact bY ()),?_};refine{1,?_,λc oc e=>?_}
  .rw[a6,qN v,eb,sW];delta cE;rw[Û];rfl
  .rw[a9 (ae e m)];exact S _ _ (b _ _ e)
 .rintro σ t ⟨v4,rfl,z,b⟩;rw[Á,õ]at z;exact{_,rfl,k dl t b m z}
theorem AO(L:Lk K mg):aI P w K mg base cz 6 L.oA L.vA ["band","many","wide","most"] (Ke L.au):=by
 refine L.vF.F.d2 (N:=["band","many","wide","most","ends","weights","place","lower"]) (λgG A outer s H vs Q E nd hr h=>?_)
 let{x,many,n,most,g,v,ss,ls,rfl,B,Ji,U,X,Y,Te,k}:=h
 have hu:=fo hr;have Qi:(A.deeper (wcX "greatest" (ax (top 58)) s.heap.objs.size L.oA gG)).units<ú:=hr.ud
 refine{_,(a0 (bR (ag (iY L) L.cK (a5 (0) (a5 (1) (aB (2))))))
  (a0 (al (i:=4) (ag (wG L) L.q4 (a5 (0) (aB (2)))))
  (a0 (al (i:=5) dC)
  (a0 (forA (Ao (4)) (ay (i:=6)) (a8 (fu hu (5) (6) (3) rfl)))
  (a8 (j4 Ũ (bO dj) (a0 (al (i:=7) (ag (CJ L) L.yh (a5 (4) (a5 (1) (aB (5))))))
  (a0 (aQ (b8 (Mr Qi) (7) (5)) (a8 (aj (5))) aw)
  (a8 (al (i:=5) (7))))))))))),?_}
 ac_rfl
 let{Z,rb,rc,rd,re}:=id Y
 have Tg:g.length^n<=64:=by
  rw[ć]at re;have:((g.length^n:Nat):Int)<=64:=by rw[ŋ];exact re
  lia
 have nd:ls.Nodup:=B.nd.sublist B.lv.sub;have F4:ls.9<=900:=Õ B.lv.sub.length_le X;refine{3,x,many,n,g,v,ss,ls,rfl,B,U,Y,?_};refine{2,x,n,g,v,ss,ls,rfl,B,(),(),Ji,U,X,λd G H1 s1 T8 h1 ek er ef=>?_};have Xs:∀q∈G,q.2≠d:=λq hq z=>by have:=er q hq;rw[z,h1]at this;cases this
 refine λa b=>?_;have I:d≠a:=ae h1 b;have V2:(upd H1 a (.dK [])) d=ρ (.dK (cn G)):=a7.upd b _ _ h1;refine{1,d,1,.inl V2,λo H2 h2 l=>?_};have M:H2 a=ρ (.dK []):=by rw[l a (Ü I),a6]
 have s2:a7 H H2:=λc O e=>by
  rw[l c (ae e T8)];exact a7.upd b _ _ (s1 _ _ e)
 have R:∀m∈G,H2 m.2=ρ (.lst (((bo g v ss ls n m.1).map (·.2)).map V.str)):=λm r=>by
  rw[l _ (Xs m r)];exact a7.upd b _ _ (er m r)
 have t:H a=τ:=none_of s1 b;have J:=j5 d o (cn G);rw[gW,ek]at J;refine og J (λj σ u=>∃(v6:Option V),σ=[ρ (.ref x),ρ (.int many),ρ (.int (n:Int)),ρ (.int most),ρ (.ref d),ρ (.ref a),v6,τ]/\u a=ρ (.dK (bG (cE (λ_=>most) (ls.take j))))/\∀c O,H2 c=ρ O->c≠a->u c=ρ O) {τ,rfl,M,λc O e _=>e} (λj σ u _ {_,_,_,C}=>C _ _ h2 I) ?_ ?_
 .rintro j y σ u hy ⟨v6,rfl,h3,C⟩
  let{p,Oh,rfl,hj,CI,sW}:=gj hy
  have II:p∉(cE (λ_=>most) (ls.take j)).map (·.1):=by rw[qQ];exact hH nd Oh
  refine{3,a,1,mZ.k (k:=Ã p) h3 (by rw[j6];delta cE;rw[Á,â];exact bY ()),?_};refine{1,?_,λc O e hc=>by rw[a9 hc];exact C c O e hc};rw[a6,qN II,sW];delta cE;rw[Û];rfl
 rintro σ u ⟨v6,rfl,h3,C⟩;rw[Á,õ]at h3;have Tb:=C _ _ h2 I;have s3:a7 H u:=λc O e=>C _ _ (s2 _ _ e) (ae e t);have Ti:∀m∈G,m.2≠a:=λm r z=>by have:=R m r;rw[z,M]at this;cases this
 have Rj:∀m∈G,u m.2=ρ (.lst (((bo g v ss ls n m.1).map (·.2)).map V.str)):=λm r=>C _ _ (R m r) (Ti m r);clear C h2 M R er h1 l V2 J b
 refine{λq σ H4=>∃(a:Addr) (f:Str->Int) (v6 v7:Option V),q=(ls.map λp=>(f p).toNat).sum/\σ=[ρ (.ref x),ρ (.int many),ρ (.int (n:Int)),ρ (.int most),ρ (.ref d),ρ (.ref a),v6,v7]/\a7 u H4/\H a=τ/\H4 a=ρ (.dK (bG (cE f ls)))/\(∀p∈ls,0<=f p)/\(∀p∈ls,f p<=most)/\(∀h:Str->Int,(∀p∈ls,h p<=most)->Je g v ss ls many n h->∀p∈ls,h p<=f p),
  {_,a,λ_=>most,v6,τ,rfl,rfl,a7.refl _,t,h3,λ_ _=>Te,λ_ _=>Ţ _,λh hh _ p hp=>hh p hp},?_}
 rintro q σ H4 ⟨a,f,v6,v7,rfl,rfl,s4,t,h4,S,V3,V4⟩;refine{true,rfl,b6 ?_};refine{λσ' H'=>∃(dl:Addr) (v6 v7:Option V),σ'=[ρ (.ref x),ρ (.int many),ρ (.int (n:Int)),ρ (.int most),ρ (.ref d),ρ (.ref dl),v6,v7]/\a7 u H'/\H dl=τ/\H' dl=ρ (.dK (bG (cE (lF g v ss ls many n f) ls)))/\¬∀p∈ls,lF g v ss ls many n f p=f p,?_,?_}
 .rintro σ' H' ⟨dl,v6,v7,rfl,s',T,h',Mw⟩;exact{_,MS Z S Mw,dl,_,_,1,rfl,s',T,h',Hr Z S,λp hp=>wfu (Hq many n f p) (V3 p hp),λh hh D=>Et Z D (V4 h hh D)}
 .refine{3,d,a,many,n,o,G,f,g,v,ss,ls,rfl,s4 _ _ Tb,ek,λm r=>s4 _ _ (Rj m r),(),nd,F4,Z,rb,.inl h4,λdl H5 s5 T h5=>?_};have V5:=s5 _ _ h4;refine{2,dl,a,_,1,rfl,.inl h5,.inl V5,uB _,uB _,1,?_};refine yt (λhe=>?_) (λhe=>?_)
  .have e:=Lh.mp he;exact{1,k a f H5 ((s3.trans s4).trans s5) t V5 {S,V3,K5 Z e,V4}}
  .exact{1,dl,_,1,s4.trans s5,none_of s3 (none_of s4 T),h5,λe=>he (Lh.mpr e)}
theorem n8(L:Lk K mg):aI P w K mg base cz 7 L.hV L.i3 ["band","many","wide"] (N0 L.au):=by
 refine L.i9.F.d2 (N:=["band","many","wide","length"]) (λp A outer s H r Q E nd t h=>?_)
 let{x,many,n,g,bw,ss,ls,rfl,B,e,f,l,m,k}:=h
 refine{_,(a0 (al (i:=3) (ag (Fq L) L.Ay (a5 (0) (a5 (1) (a5 (2) (aB (bJ (v:=.int 24) (by rfl) L.vP.choose_spec {_,rfl})))))))
  (a8 (aQ (b8 gd (3) cm) bK aw))),?_}
 ac_rfl
 refine⟨_,rfl,_,rfl,_,rfl,x,many,(n:Int),24,g,bw,ss,ls,rfl,B,e,f,l,⋯,⋯,λv q s1 o=>?_⟩;rw[ć]at o
 cases o with
 |none a=>exact{1,rfl,false,rfl,aA (k q s1)}
 |some j a b c d=>exact absurd c (m j a b)
theorem kO(L:Lk K mg):aI P w K mg base cz 4 L.lS L.me ["sheet"] (HJ K L.aX):=by
 refine L.i7.F.d2 (N:=["sheet"]) (λC A outer s H vs Q E nd D h=>?_)
 let{x,G,I,l,rfl,S,n1,J,M,O,k}:=h
 refine{_,(a8 (aj (mJ L.AA (iR L) (D.mono ⋯) rfl L.DJ L.fX.b .nil ni (a5 (aM (0) rfl) (a5 (aM (0) rfl) (aB (aM (0) rfl))))))),?_}
 ac_rfl
 let{m,i,bw,cl,n,R,p,T}:=id S
 refine{1,x,L.aX,m,_,1,n,L.bg.cl,L.bg.iB,iA i bw cl,1,x,L.aX,m,_,1,n,L.bg.cl,L.bg.mL,wq i bw cl,1,x,L.aX,m,_,1,n,L.bg.cl,L.bg.fw,gi i bw cl,?_};intro y j q t U;have d:a7 H (upd (upd H j (.own y)) y (.ins L.aX j [])):=dU q t;refine{y,j,.ref i,.ref bw,.ref cl,G,I,l,rfl,a6,bQ.same d _ _ R,bQ.same d _ _ p,bQ.same d _ _ T,n1,J,M,O,λX Y Z a f q1 q2 q3 g=>{rfl,?_}};have u:a7 H a:=λc o e=>g _ _ (d _ _ e) (ae e q);have z:=λ(B:kS) (v:V) (r:bQ K (aH _ a) B v)=>bQ.same (fT d) B v r;exact k y a u {j,X,Y,Z,cG q f,z _ _ q1,z _ _ q2,z _ _ q3}
theorem wH(L:Lk K mg):aI P w K mg base cz 5 L.pE L.pO ["self"] (EH K L.aP L.aX):=by
 refine L.qe.F.d2 (N:=["self"]) (λe A outer s H u Q E nd v h=>?_)
 let{x,m,f,B,g,i,d,rfl,{j,a,b,c,z,l,ha,C,hc,S},n1,n,o,p,k}:=h
 refine{_,(a8 (aj (ag (kO L) L.i7 (aB (aM (0) rfl))))),?_}
 ac_rfl
 exact{1,x,L.aP,j,_,1,l,L.d5.cl,L.d5.GZ,BI a b c z,z,g,i,d,rfl,S,n1,n,o,p,λy q r t=>k y q r t}
theorem iS(L:Lk K mg):aI P w K mg base cz 1 L.jd L.jk ["self","row"] (N2 L.au):=by
 have T:=L.T;refine L.fV.F.d2 (N:=["self","row","number","sign"]) (λe A outer s H f Q E nd j h=>?_)
 let{x,g,l,ss,ls,rfl,B,k}:=h
 refine{_,(a8 (forA (vi (by rfl) T.enum (aB (1))) (eV rfl (aS (ay (i:=2)) (aS (ay (i:=3)) cW))) bK)),?_}
 ac_rfl
 refine{1,"",rfl,qV (λi σ a=>a7 H a/\∃b d,σ=[ρ (.ref x),ρ (.str ""),b,d]) {a7.refl _,τ,τ,rfl} ?_ ?_}
 .rintro i c σ a T hc _ _;cases hc
 .rintro σ a ⟨s2,b,d,rfl⟩;exact k a s2
theorem rn(L:Lk K mg):aI P w K mg base cz 2 L.kl L.ky ["self","row"] (N3 L.au):=by
 have T:=L.T;refine L.kK.F.d2 (N:=["self","row","place","number","sign"]) (λf A outer s H o Q E nd p h=>?_)
 let{x,g,j,ss,ls,rfl,B,k}:=h
 refine{_,(a0 (bR (F6 (0) L.aJ.cl L.fV (iS L) (aB (1))))
  (a0 (al (i:=2) ai)
  (a0 (forA (vi (by rfl) T.enum (aB (1))) (eV rfl (aS (ay (i:=3)) (aS (ay (i:=4)) cW))) bK)
  (a8 (aj (2)))))),?_}
 ac_rfl
 let{l,b,d,q,r,m,t,u,v,y,z}:=id B.ex
 refine{1,x,l,1,m,Ep _ _ _ _ ∅ ∅ ∅ ∅,1,x,g,j,ss,ls,rfl,B,λn s1=>?_};refine{1,"",rfl,qV (λi σ a=>a7 n a/\∃e v4,σ=[ρ (.ref x),ρ (.str ""),ρ (.str ""),e,v4]) {a7.refl _,τ,τ,rfl} ?_ ?_}
 .rintro i c σ a T hc _ _;cases hc
 .rintro σ a ⟨s2,e,v4,rfl⟩;exact{1,k a (s1.trans s2)}
theorem yl(L:Lk K mg):aI P w K mg base cz 2 L.As L.Ax ["things"] (MG K):=by
 have T:=L.T;refine L.vI.F.d2 (N:=["things"]) (λa A outer s H b Q E nd c h=>?_)
 let{l,rfl,hl,k}:=h
 refine{_,(a8 (aj (ui (b8 fq (A4 T.len (0)) af) (iy δ wel wem yD ai (aB (c6 rfl (az [] []) (aW (0)) (λ_ _ _ _ _ _=>bx) (λ_ _ _ _ _ _=>zA)))) ai))),?_}
 ac_rfl
 exact{1,l,1,.inl (aL.of hl),_,1,rfl,false,rfl,aA k}
theorem k6(L:Lk K mg):aI P w K mg base cz 1 L.rY L.sy ["word"] N6:=by
 have T:=L.T;refine L.iL.F.d2 (N:=["word"]) (λG A outer s H R Q E nd S h=>?_)
 let{a,rfl,hl,k}:=h
 refine{_,(a0 (aQ (PW.pt (cH (b8 kg (A3 T.len (0)) af) (dg (b8 fq (A3 T.len (0)) (bJ (v:=.int 60) (by rfl) L.sZ.choose_spec {_,rfl}))))) (a8 (aj dj)) aw)
  (a0 (aQ (PW.pt (jE (b8 bE (bI Gq (0) af (λ_ _=>rfl)) ai) (gH (b8 kZ (0) ai)))) (a8 (aj dj)) aw)
  (a8 (aj (aF (uv rfl) (by rfl) T.all MH (aB (c6 rfl (az [] []) (qL (0)) (λ_ _ _ _ _ _=>bx) (λ_ _ _ _ _ _=>(bc qI (0) (bJ (v:=.str (æ "0123456789")) (by rfl) L.CG.choose_spec {_,rfl}) rfl))))))))),?_}
 ac_rfl
 by_cases g:a.9<1
 .have e:iq a=false:=by delta iq;rw[decide_eq_true g];rfl
  rw[e]at k;exact{1,a,rfl,ak 1.0,_,1,rfl,true,congrArg V.bl (decide_eq_true 1.0),b6 (b6 (k H (a7.refl _)))}
 by_cases t:60<a.9
 .have e:iq a=false:=by delta iq;rw[decide_eq_true t,Bool.or_true];rfl
  rw[e]at k;exact{1,a,rfl,ak 1.0,_,1,rfl,false,congrArg V.bl (decide_eq_false 1.0),aA {1,a,rfl,ak 1.0,_,1,rfl,true,congrArg V.bl (decide_eq_true 1.0),b6 (k H (a7.refl _))}}
 refine{1,a,rfl,ak 1.0,_,1,rfl,false,congrArg V.bl (decide_eq_false 1.0),aA {1,a,rfl,ak 1.0,_,1,rfl,false,congrArg V.bl (decide_eq_false 1.0),aA ?_}}
 obtain⟨c,b,u⟩:∃c b,ch a=c::b:=by
  cases e:ch a with
  |nil=>exact absurd (by rw[<-aR,e];decide) g
  |cons c b=>exact⟨c,b,rfl⟩
 have m:yq a.cps.toList 0=ρ c:=by
  show yq (ch a) ((0:Nat):Int)=ρ c;rw[u];exact b5 rfl
 have n:iq a=(!(decide (c=48) && !decide (a="0"))&&(ch a).all λc=>FN ({#[c]}:Str) "0123456789"):=by
  delta iq;rw[decide_eq_false g,decide_eq_false t,u];rfl
 have all:((decide (c=48) && !decide (a="0"))=false)->∀o,a7 H o->Ml (Pg (λI H Q=>∃p bs,I=[V.ref p]/\aL K H p (đ V.bl bs)/\Q (V.bl (bs.all id)) H) (tV (L8 (OM (jz 0)) [] tX (wW (λx y H Q=>∃i j,x=V.str i/\y=V.str j/\Q (V.bl !(we2 j i 0 j.length 1).isEmpty) H) (jz 0) (tC (V.str (æ "0123456789"))))) wg)) (Ends.fn Q) [ρ (.str a)] o:=λJ o s1=>by
  rw[J]at n;refine{1,a,rfl,λl hl=>?_};refine comp_map (λv=>match v with |.str z=>.bl (FN z "0123456789") |_=>.non) (j1 a) hl (by unfold cD;rw[Á,aR];exact ak 1.0) (λ_ _=>trivial) (λy r U M B q=>?_) (λr B C=>?_)
  .let{d,hd,rfl}:=Å.mp (show y∈(ch a).map λc=>V.str {#[c]} from M)
   exact{1,_,1,rfl,q r (a7.refl _)}
  .have O:(cD a).map (λv=>match v with |.str z=>V.bl (FN z "0123456789") |_=>.non)=((ch a).map λc=>FN ({#[c]}:Str) "0123456789").map V.bl:=by
    unfold cD;rw[Ì,Ì];rfl
   rw[O]at C;refine{l,1,aL.of C,?_};have D:=k r (s1.trans B);rw[n]at D;rw[Χ];exact D
 by_cases hc:c=48
 .subst hc
  by_cases f:a="0"
  .exact⟨_,rfl,a,0,48,rfl,rfl,ak 1.0,m,rfl,true,∅,b6 {1,rfl,false,congrArg V.bl (by rw[f];decide+kernel),aA (all (by rw[decide_eq_true f];rfl) H (a7.refl _))}⟩
  .have e:iq a=false:=by rw[n,decide_eq_false f];rfl
   rw[e]at k;exact⟨_,rfl,a,0,48,rfl,rfl,ak 1.0,m,rfl,true,∅,b6 {1,rfl,true,congrArg V.bl (by rw[decide_eq_false (λz=>f (V.str.inj z))];rfl),b6 (k H (a7.refl _))}⟩
 .exact⟨_,rfl,a,0,c,rfl,rfl,ak 1.0,m,rfl,false,congrArg V.bl (decide_eq_false λz=>hc (by have:=congrArg ch (V.str.inj z);exact(ŵ (show [c]=[48] from this)).1)),aA (aA (all (by rw[decide_eq_false hc];rfl) H (a7.refl _)))⟩
theorem mD(L:Lk K mg):aI P w K mg base cz 2 L.nG L.nQ ["words"] (Kk K):=by
 have T:=L.T;refine L.iW.F.d2 (N:=["words"]) (λg A outer s H r Q E nd t h=>?_)
 let{a,os,rfl,c,hl,hw,k}:=h
 refine{_,(a8 (aj (aF (uv rfl) (by rfl) T.all MH (aB (c6 rfl (az [] []) (aW (0)) (λ_ _ _ _ _ _=>bx) (λ_ _ _ _ _ _=>(ag (k6 L) L.iL (aB (0))))))))),?_}
 ac_rfl
 refine{1,a,rfl,{_,c},λl b=>?_};refine comp_map (λv=>match v with |.str z=>.bl (iq z) |_=>.non) (aU K a _) b (by rw[Á];exact ak 1.0) (λu i=>i.seq c) (λy d x j e q=>?_) (λd e f=>?_)
 .let{z,m,rfl}:=Å.mp j
  exact{1,z,rfl,hw z m,λn o=>q n o}
 .have p:(os.map V.str).map (λv=>match v with |.str z=>V.bl (iq z) |_=>.non)=(os.map iq).map V.bl:=by
   rw[Ì,Ì];rfl
  rw[p]at f;refine{l,1,aL.of f,?_};rw[Χ];exact k d e
theorem qj(L:Lk K mg):aI P w K mg base cz 2 L.rZ L.sA ["word"] N7:=by
 have T:=L.T;refine L.mx.F.d2 (N:=["word"]) (λf A outer s H g Q E nd i h=>?_)
 let{c,rfl,hl,a,k}:=h
 refine{_,(a8 (aj (dD (ag (k6 L) L.iL (aB (0))) (fP (bc Gh (aY dY (by rfl) T.int wu (aB (0))) (bJ (v:=.int 200) (by rfl) L.wy.choose_spec {_,rfl}) (bH _)))))),?_}
 ac_rfl
 refine{1,c,rfl,1.0,λd s1=>{iq c,rfl,?_}}
 by_cases hn:iq c=true
 .rw[hn]
  obtain⟨n,e⟩:∃n,intText? c=ρ n:=by
   unfold xU at a;rw[hn]at a;exact wdF.mp a
  refine b6 {1,c,n,rfl,e,1.0,_,1,rfl,?_};have b:=k d s1;unfold Ab at b;rw[hn,e]at b;exact b
 .have hn:iq c=false:=by simpa using hn
  rw[hn];have b:=k d s1;unfold Ab at b;rw[hn]at b;exact aA b
theorem AQ(L:Lk K mg):aI P w K mg base cz 3 L.vp L.vB ["first","others"] (N8 K):=by
 have T:=L.T;refine L.vH.F.d2 (N:=["first","others"]) (λJ A outer s H O Q E nd R h=>?_)
 let{f,os,a,rfl,d,hl,hw,z,k}:=h
 refine{_,(a0 (aQ (b8 bE (0) ai) (a8 (aj (bc fq (A4 T.len (1)) af (bH _)))) aw)
  (a0 (aQ (b8 bE (0) ai) (a8 (aj (ag (mD L) L.iW (aB (1))))) aw)
  (a0 (aQ (eL gR (0) (eC (a5 ai (aB ai))) rfl) (a8 (aj (bc bE (A4 T.len (1)) af (bH _)))) aw)
  (a0 (aQ (b8 bE (0) ai) (a8 (aj (dD (bc bE (A4 T.len (1)) af (bH _)) (fP (ag (qj L) L.mx (aB (bI bj (1) af (λ_ _=>rfl)))))))) aw)
  (a0 (aQ (b8 bE (0) ai) (a8 (aj (dD (bc bE (A4 T.len (1)) af (bH _)) (dD (ag (qj L) L.mx (aB (bI bj (1) af (λ_ _=>rfl)))) (fP (ag (k6 L) L.iL (aB (bI bj (1) af (λ_ _=>rfl))))))))) aw)
  (a0 (aQ (eL gR (0) (eC (a5 ai (aB ai))) rfl) (a8 (aj (dD (bc bE (A4 T.len (1)) af (bH _)) (fP (ag (mD L) L.iW (aB (1))))))) aw)
  (a8 (aj dj)))))))),?_}
 ac_rfl
 have g:∀w∈os,w.9<=1000:=λw h=>by have:=hw w h;omega
 by_cases f1:f="band"
 .subst f1;refine{1,rfl,true,∅,b6 {1,a,1,.inl d,_,1,rfl,?_}}
  have e:cq "band" os=decide ((0:Int)<((os.map V.str).9:Int)):=by
   rw[Á];exact(if_pos rfl).trans (decide_eq_decide.mpr 1.0)
  have m:=k H (a7.refl _);rw[e]at m;exact m
 have n:∀w∈os,xU w=true:=í.mp (z.resolve_left f1);refine{_,rfl,rfl,false,hA f1,aA ?_}
 by_cases f2:f="write"
 .subst f2;exact{1,rfl,true,∅,b6 {_,rfl,a,os,rfl,d,hl,g,k}}
 refine{_,rfl,rfl,false,hA f2,aA ?_};refine{1,by show 2<=sizeLine;decide,λt M=>?_}
 let{s1,C}:=bz (H:=H) (o:=.tup [.str "number",.str "read"]) M
 generalize upd H t _=p at s1 C;refine{t,1,.inr (gF.of C),rfl,rfl,_,congrArg V.bl UN,?_}
 by_cases i:f="number"\/f="read"
 .rw[decide_eq_true i];refine b6 {1,a,1,.inl (s1.seq d),rfl,?_}
  have e:cq f os=decide (V.int ((os.map V.str).9:Int)=V.int 1):=by
   delta cq;rw[if_neg f1,if_neg f2,if_pos i];exact JU
  have m:=k p s1;rw[e]at m;exact m
 rw[decide_eq_false i];refine aA ?_
 by_cases l:f="count"
 .refine{1,rfl,true,by rw[l];decide+kernel,b6 {1,a,1,.inl (s1.seq d),rfl,1,?_}}
  have e:cq f os=(decide (os.9=1)&&Ab (os.getD 0 "")):=by
   delta cq;rw[if_neg f1,if_neg f2,if_neg i,if_pos l]
  rw[e,JU]at k
  by_cases b:os.9=1
  .have hd:decide (V.int ((os.map V.str).9:Int)=V.int 1)=true:=by rw[<-JU];exact decide_eq_true b
   rw[hd]at k ⊢;have j:0<os.9:=1.0;exact b6 {1,a,_,_,1,rfl,s1.seq d,at_getD j,1,hw _ (mem_getD j),n _ (mem_getD j),λq r=>k q (s1.trans r)}
  .have hd:decide (V.int ((os.map V.str).9:Int)=V.int 1)=false:=by rw[<-JU];exact decide_eq_false b
   rw[hd]at k ⊢;exact aA (k p s1)
 refine{_,rfl,rfl,false,hA l,aA ?_}
 by_cases u:f="row"
 .refine{1,rfl,true,by rw[u];decide+kernel,b6 {1,a,1,.inl (s1.seq d),rfl,1,?_}}
  have e:cq f os=(decide (os.9=2)&&(Ab (os.getD 0 "")&&iq (os.getD 1 ""))):=by
   delta cq;rw[if_neg f1,if_neg f2,if_neg i,if_neg l,if_pos u]
  rw[e,Ej]at k
  by_cases b:os.9=2
  .have hd:decide (V.int ((os.map V.str).9:Int)=V.int 2)=true:=by rw[<-Ej];exact decide_eq_true b
   rw[hd]at k ⊢;have j:0<os.9:=1.0;have v:1<os.9:=1.0;refine b6 {1,a,_,_,1,rfl,s1.seq d,at_getD j,1,hw _ (mem_getD j),n _ (mem_getD j),λx s2=>{1,?_}}
   cases D:Ab (os.getD 0 "") with
   |true=>
    rw[D]at k;exact b6 {1,a,_,_,1,rfl,(s1.trans s2).seq d,at_getD v,1,g _ (mem_getD v),λq r=>k q (s1.trans (s2.trans r))}
   |false=>
    rw[D]at k;exact aA (k x (s1.trans s2))
  .have hd:decide (V.int ((os.map V.str).9:Int)=V.int 2)=false:=by rw[<-Ej];exact decide_eq_false b
   rw[hd]at k ⊢;exact aA (k p s1)
 refine{_,rfl,rfl,false,hA u,aA ?_};refine{1,by show 2<=sizeLine;decide,λG B=>?_}
 let{s2,I}:=bz (H:=p) (o:=.tup [.str "rate",.str "touched"]) B
 generalize upd p G _=x at s2 I;have c:=s1.trans s2;refine{G,1,.inr (gF.of I),rfl,rfl,_,congrArg V.bl UN,?_}
 by_cases y:f="rate"\/f="touched"
 .rw[decide_eq_true y];refine b6 {1,a,1,.inl (c.seq d),rfl,1,?_}
  have e:cq f os=(decide (os.9=2)&&os.all iq):=by
   delta cq;rw[if_neg f1,if_neg f2,if_neg i,if_neg l,if_neg u,if_pos y]
  rw[e,Ej]at k
  by_cases b:os.9=2
  .have hd:decide (V.int ((os.map V.str).9:Int)=V.int 2)=true:=by rw[<-Ej];exact decide_eq_true b
   rw[hd]at k ⊢;exact b6 {1,a,os,rfl,c.seq d,hl,g,λq r=>k q (c.trans r)}
  .have hd:decide (V.int ((os.map V.str).9:Int)=V.int 2)=false:=by rw[<-Ej];exact decide_eq_false b
   rw[hd]at k ⊢;exact aA (k x c)
 rw[decide_eq_false y]
 have e:cq f os=false:=by
  delta cq;rw[if_neg f1,if_neg f2,if_neg i,if_neg l,if_neg u,if_neg y]
 rw[e]at k;exact aA (k x c)
theorem ro(L:Lk K mg):aI P w K mg base cz 1 L.gy L.kD ["self"] (Nn L.aK):=by
 refine L.kM.F.d2 (N:=["self"]) (λb A outer s H f Q E nd g h=>?_)
 let{x,a,rfl,d,k}:=h
 refine{_,(a0 (c7 (0) cm rfl)
  (a8 (c7 (0) cm rfl))),?_}
 ac_rfl
 refine{1,x,L.aK,a,[],rfl,d,L.aN.cl,L.aN.eW,(show 0<1000 by decide),?_};rw[PH];refine{1,x,L.aK,a,1,a6,L.aN.cl,L.aN.bN,(show 1<1000 by decide),?_};rw[PL];exact k _ (λc o e n=>by rw[a9 n,a9 n];exact e) a6
noncomputable abbrev NF(L:Lk K mg):List (Addr×Str):=[(L.dM,"NoForm"),(L.dN,"NoBand"),(L.cy,"NoWriter"),(L.jY,"NoLength"),(L.bC,"NoNumber"),(L.cj,"NoRate"),(L.tT,"NoRow"),(L.aT,"NoData"),(L.qg,"Barred"),(L.mW,"NoPlace"),(L.mU,"NoSigns"),(L.mX,"NoSplit"),(L.qf,"NoWord"),(L.rk,"Open"),(L.gn,"Scarce"),(L.mV,"TooMany")]
theorem AR(L:Lk K mg):aI P w K mg base cz 1 L.vr L.vD ["_law_k"] MC:=by
 have T:=L.T;refine L.vJ.F.d2 (N:=["_law_k","_law_rows","_law_many"]) (λgG A outer s H vs Q E nd hr h=>?_)
 let{n,rfl,k}:=h
 refine{_,(a0 (al (i:=1) (bM (a5 ai (a5 ai (a5 ai (a5 ai (a5 ai (a5 ai (a5 ai (a5 ai (a5 ai (a5 ai (aB ai)))))))))))))
  (a0 (al (i:=1) (aD gq (1) (bM (a5 ai (a5 ai (a5 ai (a5 (aD b9 ai (aD tK ai af)) (a5 ai (a5 ai (a5 ai (aB ai)))))))))))
  (a0 (al (i:=1) (aD gq (1) (bM (a5 ai (a5 ai (a5 (aD b9 ai (aD tK ai af)) (a5 ai (a5 ai (a5 ai (aB ai))))))))))
  (a0 (bR (iy Ħ ő ŧ f5 (1) (aB ai)))
  (a0 (al (i:=1) (aD gq (1) (bM (a5 ai (a5 ai (a5 ai (a5 ai (a5 ai (a5 ai (a5 ai (aB ai)))))))))))
  (a0 (al (i:=1) (aD gq (1) (bM (a5 ai (a5 ai (a5 ai (a5 ai (a5 ai (a5 ai (aB ai))))))))))
  (a0 (al (i:=2) (aD tK ai af))
  (a0 (al (i:=1) (aD gq (1) (bM (a5 (aD b9 ai (2)) (a5 (aD b9 (aD b9 ai (2)) ai) (a5 (aD b9 ai (2)) (aB (aD b9 (aD b9 ai (2)) ai))))))))
  (a0 (al (i:=1) (aD gq (1) (bM (a5 (aD b9 ai (2)) (aB ai)))))
  (a8 (aj (bI bj (1) (aD eB (0) (A4 T.len (1))) (λ_ _=>rfl))))))))))))),?_}
 ac_rfl
 refine{by show 11<=sizeLine;decide,λl1 l=>?_};generalize m:upd H l1 _=p;have t1:a7 H p:=m ▸ a7.upd l;have g1:=(congrFun m.symm l1).trans a6;clear m;refine⟨_,rfl,"1",61,rfl,rfl,yQ,_,_,rfl,rfl,ak ∅,by show 8<=sizeLine;decide,λq r=>?_⟩;generalize t:upd p q _=u;have x:a7 p u:=t ▸ a7.upd r;have q2:=(congrFun t.symm q).trans a6;clear t;refine{l1,q,_,1,rfl,x _ _ g1,q2,by show 19<=sizeLine;decide,λy B=>?_};generalize C:upd u y _=D;have t2:a7 u D:=C ▸ a7.upd B;have g2:=(congrFun C.symm y).trans a6;clear C;refine⟨_,rfl,"1",61,rfl,rfl,yQ,_,_,rfl,rfl,ak ∅,by show 7<=sizeLine;decide,λG I=>?_⟩;generalize J:upd D G _=M;have O:a7 D M:=J ▸ a7.upd I;have q3:=(congrFun J.symm G).trans a6;clear J;refine{y,G,_,1,rfl,O _ _ g2,q3,by show 26<=sizeLine;decide,λb d=>?_};generalize R:upd M b _=H3;have t3:a7 M H3:=R ▸ a7.upd d;have g3:=(congrFun R.symm b).trans a6;clear R;have s3:=t1.trans (x.trans (t2.trans (O.trans t3)));have f3:H b=τ:=none_of (t1.trans (x.trans (t2.trans O))) d;refine{1,.inl {rfl,_,aL.of g3},b,_,1,rfl,g3,by show 26<sizeLine;decide,?_};generalize S:upd H3 b _=U;have s4:a7 H U:=S ▸ λc o e=>by rw[a9 (ae e f3)];exact s3 _ _ e
 have g4:=(congrFun S.symm b).trans a6;clear S;refine{1,by show 8<=sizeLine;decide,λX Y=>?_};generalize Z:upd U X _=J5;have w5:a7 U J5:=Z ▸ a7.upd Y;have q5:=(congrFun Z.symm X).trans a6;clear Z;refine{b,X,_,1,rfl,w5 _ _ g4,q5,by show 35<=sizeLine;decide,λl5 Tj=>?_};generalize u5:upd J5 l5 _=H5;have t5:a7 J5 H5:=u5 ▸ a7.upd Tj;have g5:=(congrFun u5.symm l5).trans a6;clear u5;refine{1,by show 7<=sizeLine;decide,λm6 Xu=>?_};generalize v6:upd H5 m6 _=J6;have w6:a7 H5 J6:=v6 ▸ a7.upd Xu;have q6:=(congrFun v6.symm m6).trans a6;clear v6;refine{l5,m6,_,1,rfl,w6 _ _ g5,q6,by show 42<=sizeLine;decide,λl6 Xv=>?_};generalize u6:upd J6 l6 _=H6;have t6:a7 J6 H6:=u6 ▸ a7.upd Xv;have g6:=(congrFun u6.symm l6).trans a6;clear u6;refine⟨"1",61,rfl,rfl,yQ,?_⟩;refine{2,_,1,rfl,ak ∅,1,_,1,rfl,ak ∅,_,1,rfl,ak ∅,1,_,1,rfl,ak ∅,1,_,1,rfl,ak ∅,_,1,rfl,ak ∅,by show 4<=sizeLine;decide,λm7 Xw=>?_};generalize v7:upd H6 m7 _=J7;have w7:a7 H6 J7:=v7 ▸ a7.upd Xw;have q7:=(congrFun v7.symm m7).trans a6;clear v7;refine{l6,m7,_,1,rfl,w7 _ _ g6,q7,by show 46<=sizeLine;decide,λl7 Xx=>?_};generalize u7:upd J7 l7 _=H7;have t7:a7 J7 H7:=u7 ▸ a7.upd Xx;have g7:=(congrFun u7.symm l7).trans a6;clear u7;refine{2,_,1,rfl,ak ∅,by show 2<=sizeLine;decide,λm8 Th=>?_};generalize v8:upd H7 m8 _=J8;have w8:a7 H7 J8:=v8 ▸ a7.upd Th;have q8:=(congrFun v8.symm m8).trans a6;clear v8;refine{l7,m8,_,1,rfl,w8 _ _ g7,q8,by show 48<=sizeLine;decide,λf Pk=>?_};generalize u8:upd J8 f _=H8;have t8:a7 J8 H8:=u8 ▸ a7.upd Pk;have g8:=(congrFun u8.symm f).trans a6;clear u8;have g9:H8 f=ρ (.lst ((lB.map (Ó SP)).map V.str)):=g8.trans (congrArg (λz=>ρ (HO.lst z)) ∅);have s8:=s4.trans (w5.trans (t5.trans (w6.trans (t6.trans (w7.trans (t7.trans (w8.trans t8)))))));have a:((lB.map (Ó SP)).map V.str).9=48:=by rw[Á,Á,Dq]
 have m0:=Š n (show (48:Int)≠0 by decide);have m1:=ş n (show (0:Int)<48 by decide);have g:(n%48).toNat<lB.9:=by rw[Dq];omega
 refine{3,f,1,.inl (aL.of g9),_,1,rfl,by rw[a];decide,?_};rw[a];refine{f,_,_,1,rfl,aL.of g9,?_,k lB[(n%48).toNat] H8 (ă g) s8};have:=b5 (xs:=(lB.map (Ó SP)).map V.str) (j:=(n%48).toNat) (v:=.str (Ó SP lB[(n%48).toNat])) (by rw[Ê,Ê,È g];rfl);rwa[show (((n%48).toNat:Nat):Int)=n%48 by omega]at this
set_option genInjectivity true in
inductive jv(L:Lk K mg):Addr->Str->Nat->Prop
 |form:jv L L.dM "NoForm" 0
 |band:jv L L.dN "NoBand" 1
 |writer:jv L L.cy "NoWriter" 2
 |number:jv L L.bC "NoNumber" 4
 |rate:jv L L.cj "NoRate" 5
 |data:jv L L.aT "NoData" 7
theorem jv.u{L:Lk K mg}{C:Addr}{nm:Str}{g:Nat}(h:jv L C nm g):bf K C L.aG nm:=by
 cases h
 .exact L.vM
 .exact L.vN
 .exact L.oF
 .exact L.jX
 .exact L.ju
 .exact L.dJ
theorem jv.y{L:Lk K mg}{C:Addr}{nm:Str}{g:Nat}(h:jv L C nm g):pz K C:=by
 cases h
 .exact L.IB
 .exact L.IC
 .exact L.CC
 .exact L.Cy
 .exact L.Iw
 .exact L.AF
theorem jv.nm{L:Lk K mg}{C:Addr}{nm:Str}{g:Nat}(h:jv L C nm g):g<8/\nm=B6.getD g "":=by
 cases h<;>exact{⋯,rfl}
theorem jv.c{L:Lk K mg}{C r:Addr}{nm l:Str}{p g:Nat}(h:jv L C nm p)(h':jv L r l g)(e:nm=l):C=r:=by
 have hi:p=g:=by
  have a:=h.nm;have b:=h'.nm;rw[a.2,b.2]at e;exact(by decide+kernel:∀i j:Fin 8,B6.getD i.1 ""=B6.getD j.1 ""->i.1=j.1) ⟨p,a.1⟩ ⟨g,b.1⟩ e
 cases h<;>cases h'<;>first |rfl |exact absurd hi ⋯
set_option genInjectivity true in
inductive ib(L:Lk K mg)(S:Sp)(H:Hp)(x:Addr)(r:Str):Hd->Prop
 |ans (P:Str->Prop) (_:∀(Q:VK) (E:XK),(∀t H',P t->a7 H H'->Q (.str t) H')->S [.ref x,.str r] H Q E):ib L S H x r (.ans P)
 |err (C:Addr) (nm:Str) (ix:Nat) (_:jv L C nm ix) (_:∀(Q:VK) (E:XK),(∀H',a7 H H'->E (.ref C) τ H')->S [.ref x,.str r] H Q E):ib L S H x r (.err ix)
 |dat (_:∀(Q:VK) (E:XK),Ln L.aT (.int (0:Nat)) H E->S [.ref x,.str r] H Q E):ib L S H x r .dat
set_option genInjectivity true in
inductive ic(L:Lk K mg)(H:Hp):Hd->V->V->Prop
 |ans (P:Str->Prop) (t:Str) (_:P t):ic L H (.ans P) (.str t) .non
 |err (e C:Addr) (nm:Str) (ix:Nat) (_:jv L C nm ix) (_:H e=ρ (XC e C τ)):ic L H (.err ix) .non (.ref e)
 |dat (e d:Addr) (_:H e=ρ (XC e L.aT (ρ d))) (_:H d=ρ (.xd [("number",.int (0:Nat))])):ic L H .dat .non (.ref e)
abbrev Ql(L:Lk K mg):Sp:=Il K L.aG (NF L)
theorem Qm{c:Nat}(h:c∈[4,5,6,9]):He 1 c=.err 2:=by
 rcases Þ.mp h with rfl |h
 .rfl
 rcases Þ.mp h with rfl |h
 .rfl
 rcases Þ.mp h with rfl |h
 .rfl
 .rw[Ï.mp h];rfl
theorem rp{a b:Str}{c:Bool}(h:decide (a=b)=c):V.bl (decide (V.str a=V.str b))=V.bl c:=by
 rw[<-h];exact congrArg V.bl (decide_eq_decide.mpr {λz=>V.str.inj z,λz=>congrArg V.str z})
theorem KC{a b:Str}{c:Bool}(h:(!decide (a=b))=c):V.bl (!decide (V.str a=V.str b))=V.bl c:=by
 rw[<-h];exact congrArg (λz=>V.bl (!z)) (decide_eq_decide.mpr {λz=>V.str.inj z,λz=>congrArg V.str z})
theorem Qn{L:Lk K mg}{H:Hp}{st:Int}{c:Nat}{g j:V}(l:st=1\/st=2)(r:st=1->c∉[4,5,6,9])(C:¬c=8)(I:¬c=3)(J:¬c=9)(p:¬(c=5\/c=6))(T:c<=9)(G:ic L H (He st c) g j):∃t,g=.str t/\j=.non/\(PR c).getD (.str t)=.str t:=by
 match c,T with
 |0,_=>cases G with |ans _ t h=>exact⟨t,rfl,rfl,h ▸ rfl⟩
 |1,_=>cases G with |ans _ t h=>exact⟨t,rfl,rfl,h ▸ rfl⟩
 |2,_=>cases G with |ans _ t h=>exact⟨t,rfl,rfl,h ▸ rfl⟩
 |3,_=>exact absurd rfl I
 |4,_=>
  obtain rfl:st=2:=l.resolve_left λz=>r z ⋯;have G:ic L H (.ans λ_=>True) g j:=G;cases G with |ans _ t h=>exact⟨t,rfl,rfl,rfl⟩
 |5,_=>exact absurd (.inl rfl) p
 |6,_=>exact absurd (.inr rfl) p
 |7,_=>cases G with |ans _ t h=>exact⟨t,rfl,rfl,rfl⟩
 |8,_=>exact absurd rfl C
 |9,_=>exact absurd rfl J
 |n+10,h=>omega
theorem gQ(L:Lk K mg):aI P w K mg base cz 1 L.se L.sC ["_law_script","_law_place"] (MQ K):=by
 have T:=L.T;refine L.gm.F.d2 (N:=["_law_script","_law_place"]) (λd A outer s H i Q E nd l h=>?_)
 let{a,ns,p,rfl,c,m,k}:=h
 refine{_,(a0 (aQ (b8 zB (1) (A4 T.len (0))) (a8 (aj af)) aw)
  (a8 (aj (bI bj (0) (1) (λ_ _=>rfl))))),?_}
 ac_rfl
 refine{2,a,1,.inl c,_,1,rfl,1,?_};rw[Á]
 by_cases h:(ns.9:Int)<=p
 .refine OG (by simpa using h) ?_
  have e:iD ns p=0:=by
   delta iD;rw[ï,wdj 1.0];rfl
  rw[e]at k;exact k
 .refine DV (by simpa using h) ?_;have b:p.toNat<ns.9:=1.0
  have f:ns[p.toNat]?=ρ (iD ns p):=by
   delta iD;rw[ï];simp[b]
  have g:yq (ns.map V.int) p=ρ (.int (iD ns p)):=by
   have:=b5 (xs:=ns.map V.int) (j:=p.toNat) (v:=.int (iD ns p)) (by rw[Ê,f];rfl);rwa[show ((p.toNat:Nat):Int)=p by omega]at this
  exact{2,a,_,_,1,rfl,c,g,k}
theorem k8(L:Lk K mg):aI P w K mg base cz 1 L.sf L.sD ["_law_cell_here","_law_turn","_law_many"] ML:=by
 have T:=L.T;refine L.iM.F.d2 (N:=["_law_cell_here","_law_turn","_law_many","_law_digits","_law_step","_law_number"]) (λe A outer s H o Q E nd p h=>?_)
 let{c,t,m,rfl,f,g,a,k}:=h
 refine{_,(a0 (aQ (PW.pt (jE (b8 bE (aD eB (0) af) af) (gH (b8 fq (0) (aD Mp af af))))) (a0 (al (i:=3) (aD gK (0) af))
  (a0 (forA (cR rfl T.range (aB (1))) (ay (i:=4)) (a8 (al (i:=3) (aD gK (3) af))))
  (a8 (aj (aD eB (aD eB (3) af) (2)))))) aw)
  (a0 (al (i:=5) (aD eU (aD eU (aD eB (0) af) (aD lq af (1))) af))
  (a8 (aj (aD eB (aD eB (aD eU (aD eB (aD lq (5) (5)) af) (aD gK (5) af)) af) (2)))))),?_}
 ac_rfl
 have rest:Bu (E1 (wW (FK λi j=>.int (i+j)) (wW (FK λi j=>.int (i+j)) (wW (rI (λ_ j=>0<j) λi j=>.int (i%j)) (jz 0) (tC (.int 2147483629))) (wW (rI DT λi j=>.int (i*j)) (tC (.int 1009)) (jz 1))) (tC (.int 17))) (cA 5))
  (Ml (wW (rI (λ_ j=>0<j) λi j=>.int (i%j)) (wW (rI (λ_ j=>0<j) λi j=>.int (i%j)) (wW (FK λi j=>.int (i+j)) (wW (rI (λ_ j=>0<j) λi j=>.int (i%j)) (wW (rI DT λi j=>.int (i*j)) (jz 5) (jz 5)) (tC (.int 999999937))) (wW (rI LN λi j=>.int (i/j)) (jz 5) (tC (.int 65536)))) (tC (.int 1000003))) (jz 2)))
  {nx:=λ_ l=>Q .non l,rt:=Q} [ρ (.int c),ρ (.int t),ρ (.int m),τ,τ,τ] H:=by
  refine{1,_,1,rfl,(by show (0:Int)<2147483629;decide),1,_,1,rfl,.inl {⋯,⋯},_,1,rfl,_,1,rfl,?_};refine{2,_,1,rfl,.inl {?_,?_},_,1,rfl,(by show (0:Int)<999999937;decide),1,_,1,rfl,{⋯,⋯},_,1,rfl,_,1,rfl,(by show (0:Int)<1000003;decide),1,_,1,rfl,a,k _ (Š _ 1.0) (ş _ a)}
  .have:=Š c (show (2147483629:Int)≠0 by decide);omega
  .have:=ş c (show (0:Int)<2147483629 by decide);omega
 refine{1,_,1,rfl,(by show (0:Int)<2;decide),rfl,1,?_};refine yt (λ_=>?_) (λ_=>aA rest);refine{1,_,1,rfl,{⋯,⋯,⋯},_,1,rfl,1,?_};refine yt (λ_=>?_) (λ_=>rest);refine{1,_,1,rfl,{⋯,⋯},?_};refine{2,1.0,1.0,cP (lo:=0) (n:=t.toNat) (λi σ b=>b=H/\∃d v4,σ=[ρ (.int c),ρ (.int t),ρ (.int m),ρ (.int d),v4,τ]) {rfl,_,τ,rfl} ?_ ?_}
 .rintro i σ b hi ⟨rfl,d,v4,rfl⟩;exact{1,_,1,rfl,{⋯,⋯},rfl,_,1}
 .rintro σ b ⟨rfl,d,v4,rfl⟩;exact{1,_,1,rfl,(by show (0:Int)<4999;decide),1,_,1,rfl,a,k _ (Š _ 1.0) (ş _ a)}
theorem wI(L:Lk K mg):aI P w K mg base cz 2 L.pH L.pT ["_law_cell_here"] JZ:=by
 have T:=L.T;refine L.qa.F.d2 (N:=["_law_cell_here","_law_pool","_law_found","_law_turn","_law_sign"]) (λl A outer s H t Q E nd u h=>?_)
 let{c,rfl,k}:=h
 refine{_,GC (i:=1) nd rfl rfl (xD (PS.P8 (al (i:=2) ai))
  (xD (JD Ũ rfl (cR rfl T.range (aB (aD eU af (aD eB (0) af)))) (ay (i:=3))
    (E9 (a:=1) (b:=4) (c:=2) nd rfl rfl rfl rfl rfl rfl (ag (k8 L) L.iM (a5 (aD gK (0) af) (a5 (3) (aB (A3 T.len (1)))))) rfl (λ_ _=>rfl)))
  (Gn (PS.P8 (aj (2)))))),?_}
 have m:=Š c (show (3:Int)≠0 by decide);have o:=ş c (show (0:Int)<3 by decide);refine{1,_,1,rfl,(by show (0:Int)<3;decide),_,1,rfl,1,1.0,1.0,?_};refine cP (lo:=0) (n:=(2+c%3).toNat) (λi σ f=>a7 H f/\∃d found g v4,σ=[ρ (.int c),ρ (.str d),ρ (.str found),g,v4]/\jK i d found) {a7.refl _,iC,"",τ,τ,rfl,jK.zero ∅} ?_ ?_
 .rintro i σ f hi ⟨s2,d,found,g,v4,rfl,D⟩;have p:=D.pl;have q:=D.fl;refine{d,found,rfl,rfl,?_};refine{1,_,1,rfl,{⋯,⋯},2,d,rfl,ak 1.0,c/3,0+(i:Int),d.9,rfl,1.0,1.0,1.0,λe v x=>?_};have hd:e.toNat<(ch d).9:=by rw[aR];omega
  have r:(ch d)[e.toNat]?=ρ (ch d)[e.toNat]:=by simp[hd]
  have j:=b5 r;rw[show ((e.toNat:Nat):Int)=e by omega]at j;refine{e,1,1.0,1.0,j,s2,_,_,_,1,?_};exact D.step ∅ (ă hd)
 .rintro σ f ⟨s2,d,found,g,v4,rfl,D⟩;exact{1,k found f (D.signs 1.0 1.0) s2}
theorem zg(L:Lk K mg):aI P w K mg base cz 2 L.sh L.sE ["_law_cell_here","_law_signs_here"] MM:=by
 have T:=L.T;refine L.sM.F.d2 (N:=["_law_cell_here","_law_signs_here","_law_long"]) (λB A outer s H V Q E nd X h=>?_)
 let{c,g,rfl,C,D,k}:=h
 refine{_,(a0 (al (i:=2) (bI bj (bM (a5 af (a5 af (a5 af (a5 af (a5 af (a5 af (a5 af (aB af))))))))) (ag (k8 L) L.iM (a5 (0) (a5 af (aB af)))) (λ_ _=>rfl)))
  (a8 (aj (iy δ wel wem yD ai (aB (c6 rfl (az ["_law_signs_here","_law_cell_here"] [1,0]) (cR rfl T.range (aB (2))) (λ_ _ _ _ _ _=>bx) (λ_ _ _ _ _ _=>(bI Gq (1) (ag (k8 L) L.iM (a5 (2) (a5 (aD eU af (aD lq af (0))) (aB (A3 T.len (1)))))) (λ_ _=>rfl))))))))),?_}
 ac_rfl
 refine{⋯,λp G=>?_};refine⟨_,rfl,c,5,8,rfl,⋯,⋯,⋯,λd r u=>?_⟩
 let{n,hn,n1,Y}:=PZ d r u
 refine{p,_,d,1,rfl,aL.of a6,hn,?_};refine{rfl,1,n,rfl,1.0,1.0,λl hl=>?_};refine Gb (λy=>∃t,y=.str t/\∃o,t={#[o]}/\o∈ch g) (o8 0 n.toNat) hl (by rw[Á,ŉ];exact ak 1.0) (λ_ _=>trivial) (λx I Z J s3 q=>?_) (λys M O a v j=>?_)
 .let{i,hi,rfl}:=Å.mp J
  have R:i<n.toNat:=Ŗ.mp hi;refine{3,_,1,rfl,.inl {⋯,⋯},_,1,rfl,1,g,rfl,ak 1.0,c,11+7*(0+(i:Int)),g.9,rfl,1.0,1.0,1.0,λf r u=>?_};have hd:f.toNat<(ch g).9:=by rw[aR];omega
  have S:(ch g)[f.toNat]?=ρ (ch g)[f.toNat]:=by simp[hd]
  have z:=b5 S;rw[show ((f.toNat:Nat):Int)=f by omega]at z;exact{g,f,1,rfl,ak 1.0,z,q _ I {_,rfl,1,ă hd} (a7.refl _)}
 .let{b,rfl,e}:=D2 v
  rw[Á,Á,ŉ]at a
  have m:(b.map (·.9)).sum=b.9:=by
   clear a j v
   induction b with
   |nil=>rfl
   |cons t b U=>
    let{o,rfl,_}:=e t (Ù ..)
    rw[Í,ÿ,U λt h=>e t (Ø _ h),å];show 1+b.9=_;omega
  refine{_,l,b,rfl,rfl,aL.of j,?_,?_}
  .rw[m];show b.9+b.9*0<=16777216;omega
  .exact k _ M (Em ∅ 1.0 1.0 e) ((a7.upd G).trans O)
theorem wJ(L:Lk K mg):aI P w K mg base cz 3 L.pI L.pU ["_law_script","_law_at","_law_signs_here","_law_most"] (K4 K):=by
 have T:=L.T;refine L.qc.F.d2 (N:=["_law_script","_law_at","_law_signs_here","_law_most","_law_found","_law_k","_law_cell_here","_law_word_here"]) (λgG A outer s H vs Q E nd hr h=>?_)
 let{a,ns,p,g,m,rfl,hS,hp,Te,V0,Xy,Ji,k}:=h
 refine{_,(a0 (al (i:=4) (bM jB))
  (a0 (forA (cR rfl T.range (aB (aD eB (ag (gQ L) L.gm (a5 (0) (aB (1)))) (aD eU (3) af)))) (ay (i:=5)) (a0 (al (i:=6) (ag (gQ L) L.gm (a5 (0) (aB (aD eU (aD eU (1) af) (5))))))
  (a0 (al (i:=7) (ag (zg L) L.sM (a5 (6) (aB (2)))))
  (a0 (aQ (PW.pt (jE (b8 fq (5) af) (gH (b8 bE (aD eB (6) af) af)))) (a8 (al (i:=7) (dA oh (aD b9 (dA oh (bI bj (4) (Gg Bw af) (λ_ _=>rfl)) (eM af) gb) (7)) gb (eM af)))) aw)
  (a0 (aQ (PW.pt (jE (b8 fq (5) af) (gH (b8 bE (aD eB (6) af) af)))) (a8 (al (i:=7) (bI bj (4) af (λ_ _=>rfl)))) aw)
  (a8 (bR (iy Ħ ő ŧ f5 (4) (aB (7))))))))))
  (a8 (aj (4))))),?_}
 ac_rfl
 refine{à _,λl hl=>?_};have s0:a7 H (upd H l (.lst [])):=a7.upd hl;have hq:=Š (iD ns p) (show m+1≠0 by omega);have V6:=ş (iD ns p) (show 0<m+1 by omega);refine{2,a,ns,p,rfl,s0.seq hS,hp,1,_,1,rfl,_,1,rfl,(by show 0<m+1;omega),1,1.0,1.0,?_}
 refine cP (lo:=0) (n:=(iD ns p%(m+1)).toNat) (λi σ H2=>∃(ws:List Str) (v5 v6 v7:Option V),σ=[ρ (.ref a),ρ (.int p),ρ (.str g),ρ (.int m),ρ (.ref l),v5,v6,v7]/\a7 H H2/\H2 l=ρ (.lst (ws.map V.str))/\ws.9=i/\∀w∈ws,fh g w)
  {[],τ,τ,τ,rfl,s0,a6,rfl,(λw h=>nomatch h)} ?_ ?_
 .rintro i σ H2 hi ⟨ws,v5,v6,v7,rfl,s2,h2,Jd,Qo⟩;refine{2,_,1,rfl,1,_,1,rfl,a,ns,1,s2.seq hS,1.0,?_};generalize iD ns (p+1+(0+(i:Int)))=cc;refine{2,cc,g,rfl,Xy,Ji,λwd H3 KD s3=>?_};have h3:=s3 _ _ h2;have Oi:a7 H H3:=s2.trans s3
  have fin:∀(wd:Str),fh g wd->Gj (QZ K "list" yr (jz 4) (tV (jz 7) wg)) {nx:=λσ H2=>∃(ws:List Str) (v5 v6 v7:Option V),σ=[ρ (.ref a),ρ (.int p),ρ (.str g),ρ (.int m),ρ (.ref l),v5,v6,v7]/\a7 H H2/\H2 l=ρ (.lst (ws.map V.str))/\ws.9=i+1/\∀w∈ws,fh g w,rt:=Q,ct:=λσ H2=>∃(ws:List Str) (v5 v6 v7:Option V),σ=[ρ (.ref a),ρ (.int p),ρ (.str g),ρ (.int m),ρ (.ref l),v5,v6,v7]/\a7 H H2/\H2 l=ρ (.lst (ws.map V.str))/\ws.9=i+1/\∀w∈ws,fh g w}
   [ρ (.ref a),ρ (.int p),ρ (.str g),ρ (.int m),ρ (.ref l),ρ (.int (0+(i:Int))),ρ (.int cc),ρ (.str wd)] H3:=by
   intro wd KD;refine{1,.inl {rfl,_,aL.of h3},1,l,_,1,rfl,h3,by rw[Á];exact bY 1.0,?_};refine{ws++[wd],_,_,1,λb o e=>?_,?_,by simp[Jd],λw hw=>?_}
   .rw[a9 (ae e hl)];exact Oi _ _ e
   .rw[a6,Û];rfl
   .rcases ñ.mp hw with z |z
    .exact Qo w z
    .have:w=wd:=by simpa using z
     subst this;exact KD
  have second:∀(wd:Str),fh g wd->Bu (P9 (Oq (CZ (wW (FK λi j=>.bl (decide (j<i))) (jz 5) (tC (.int 0)))) (CZ (wW Uq (wW (rI (λ_ j=>0<j) λi j=>.int (i%j)) (jz 6) (tC (.int 16))) (tC (.int 2))))) (E1 (wW (LQ K) (jz 4) (tC (.int 0))) (cA 7)) La)
   (Gj (QZ K "list" yr (jz 4) (tV (jz 7) wg))) {nx:=λσ H2=>∃(ws:List Str) (v5 v6 v7:Option V),σ=[ρ (.ref a),ρ (.int p),ρ (.str g),ρ (.int m),ρ (.ref l),v5,v6,v7]/\a7 H H2/\H2 l=ρ (.lst (ws.map V.str))/\ws.9=i+1/\∀w∈ws,fh g w,rt:=Q,ct:=λσ H2=>∃(ws:List Str) (v5 v6 v7:Option V),σ=[ρ (.ref a),ρ (.int p),ρ (.str g),ρ (.int m),ρ (.ref l),v5,v6,v7]/\a7 H H2/\H2 l=ρ (.lst (ws.map V.str))/\ws.9=i+1/\∀w∈ws,fh g w}
   [ρ (.ref a),ρ (.int p),ρ (.str g),ρ (.int m),ρ (.ref l),ρ (.int (0+(i:Int))),ρ (.int cc),ρ (.str wd)] H3:=by
   intro wd KD;refine{1,_,1,rfl,1,?_};refine yt (λCr=>?_) (λ_=>aA (fin wd KD));have Xz:0<i:=by have:(0:Int)<0+(i:Int):=of_decide_eq_true Cr;omega
   refine{1,_,1,rfl,(by show (0:Int)<16;decide),rfl,1,?_};refine yt (λ_=>?_) (λ_=>fin wd KD);have KB:0<ws.9:=1.0;have e1:ws[0]?=ρ ws[0]:=by simp[KB]
   have e2:yq (ws.map V.str) ((0:Nat):Int)=ρ (.str ws[0]):=b5 (by rw[Ê,e1];rfl);exact{1,l,_,_,1,rfl,aL.of h3,e2,fin _ (Qo _ (ă KB))}
  refine{1,_,1,rfl,1,?_};refine yt (λCr=>?_) (λ_=>aA (second wd KD));have Xz:0<i:=by have:(0:Int)<0+(i:Int):=of_decide_eq_true Cr;omega
  refine{1,_,1,rfl,(by show (0:Int)<4;decide),rfl,1,?_};refine yt (λ_=>?_) (λ_=>second wd KD)
  obtain⟨V7,wl,Tl⟩:∃V7 wl,ws=V7++[wl]:=by
   refine{ws.dropLast,ws.getLast (by intro z;rw[z]at Jd;simp at Jd;omega),(wcv _).symm}
  have Qp:fh g wl:=Qo wl (by rw[Tl];exact ü _ (Ï.mpr rfl));have e2:yq (ws.map V.str) (-1)=ρ (.str wl):=by rw[Tl,Û];exact zu _ _
  have Tn:=ν wl (ρ 1) τ;have To:=Qp.hi;have Zy:=KD.hi;refine{2,l,_,_,1,rfl,aL.of h3,e2,1,wl,rfl,ak 1.0,1,_,1,rfl,ak 1.0,2,ak ?_,?_}
  .rw[<-aR,aV,Ò,aR,aR];omega
  .exact second _ (Hg Qp KD)
 .rintro σ H2 ⟨ws,v5,v6,v7,rfl,s2,h2,Jd,Qo⟩;exact{_,rfl,k l ws H2 s2 hl h2 1.0 Qo}
theorem rq(L:Lk K mg):aI P w K mg base cz 4 L.kq L.kE ["_law_script","_law_at"] (Nf K):=by
 refine L.kI.F.d2 (N:=["_law_script","_law_at","_law_signs_here","_law_words_here"]) (λy A outer s H G Q E nd I h=>?_)
 let{a,ns,p,rfl,j,z,k}:=h
 refine{_,(a0 (al (i:=2) (ag (wI L) L.qa (aB (ag (gQ L) L.gm (a5 (0) (aB (1)))))))
  (a0 (al (i:=3) (ag (wJ L) L.qc (a5 (0) (a5 (aD eU (1) af) (a5 (2) (aB af))))))
  (a8 (aj (eC (a5 (2) (a5 (3) (aB (iy δ wel wem yD ai (aB (aD gq (bM (a5 ai (aB (2)))) (3)))))))))))),?_}
 ac_rfl
 refine{2,a,ns,p,rfl,j,z,1,λg J d s1=>?_};have g2:=d.lo;have M:=d.hi;refine⟨_,rfl,_,rfl,_,_,rfl,rfl,_,rfl,a,ns,p+1,g,3,rfl,s1.seq j,1.0,⋯,⋯,1.0,1.0,λl b m s2 f2 n B c=>?_⟩;refine{2,rfl,1,by show 2<=sizeLine;decide,λq e=>?_};have r:a7 m (upd m q (.lst [.str "band",.str g])):=a7.upd e;refine{1,q,l,_,1,rfl,a6,r _ _ n,by rw[Á];exact ak (by show 2+b.9<=_;omega),λC f=>?_};have u:=r.trans (a7.upd (o:=.lst ((("band":Str)::g::b).map V.str)) f);refine{_,C,"band" :: g::b,rfl,rfl,aL.of a6,?_,?_}
 .have v:=uY c;simp only[Í,ÿ,å];rw[show (æ " ").9=1 from rfl,show (æ "band").9=4 from rfl];omega
 .have D:ż (æ " ") ("band" :: g::b)=Ó SP ("band" :: g::b):=by
   rw[PU];exact StrLaws.glued_eq_join _ _
  rw[D];refine{by show 3<=sizeLine;decide,λt x=>?_};exact k t l g b _ (s1.trans (s2.trans (u.trans (a7.upd x)))) a6 ((u.trans (a7.upd x)) _ _ n) d 1.0 c
theorem DK{K:À}{H H':Hp}{a x C j:Addr}{fs:List (Str×V)}{xs:List V}(h:aL K H a xs)(g:H x=ρ (.ins C j fs))(kp:∀c o,H c=ρ o->c≠x->H' c=ρ o):aL K H' a xs:=by
 rcases h with(h |⟨o,h⟩) |h
 .exact .inl (.inl (kp _ _ h λz=>by rw[z,g]at h;cases h))
 .exact .inl (.inr {o,kp _ _ h λz=>by rw[z,g]at h;cases h})
 .exact .inr h
theorem vV{H H':Hp}{a x C g:Addr}{fs:List (Str×V)}{xs:List V}(h:H a=ρ (.lst xs))(j:H x=ρ (.ins C g fs))(kp:∀c o,H c=ρ o->c≠x->H' c=ρ o):H' a=ρ (.lst xs):=kp _ _ h λz=>by rw[z,j]at h;cases h
theorem zh:∀(l:List Str) (y:Str),ch (Ó SP (y::l))=ch y++(l.map λz=>32::ch z).flatten
 |[],y=>by rw[Ů,List.flatten_nil,û];rfl
 |z::l,y=>by rw[lM,zh l z];rfl
theorem IJ(l:List Str)(y:Str):(Ó SP (y::l)).9=y.9+(l.map λz=>1+z.9).sum:=by
 rw[<-aR,zh,Ò,aR,List.length_flatten,Ì];refine congrArg (y.9+whl ·) (ļ λz _=>?_);show (32::ch z).9=_;rw[å,aR,wfj]
theorem vW(g:Str)(bw ss:List Str)(wd:∀w∈bw,fh g w):∀j:List Nat,(j.filterMap λc=>if bears bw (("":Str)++{#[c]})=true then τ else ρ (lend ss (("":Str)++{#[c]}))).9=(j.filter λc=>!jy (.str {#[c]}) (bw.map V.str)).9
 |[]=>rfl
 |c::j=>by
  have e:bears bw (("":Str)++{#[c]})=jy (.str {#[c]}) (bw.map V.str):=by
   rw[fm,Ds,Ξ,decide_eq_true_iff];delta bears;rw[ķ];refine{λ⟨w,hw,h⟩=>?_,λh=>{_,h,(yT _ _).mpr (List.infix_refl _)}};have h:=(yT w _).mp h;have lo:=(wd w hw).lo;rw[<-aR]at lo;have a:(ch ({#[c]}:Str)).length=1:=rfl;have hl:=h.length_le;have:w={#[c]}:=eE (h.eq_of_length 1.0);exact this ▸ hw
  rw[ĕ,e]
  by_cases b:jy (.str {#[c]}) (bw.map V.str)=true
  .rw[if_pos b,į (by rw[b];decide)];exact vW g bw ss wd j
  .rw[if_neg b,Ċ (by rw[Bool.not_eq_true]at b;rw[b];rfl),å,å,vW g bw ss wd j]
theorem KG(g:Str)(bw ss:List Str)(wd:∀w∈bw,fh g w):dW g bw ss 1 ""=(((ch g).filter λc=>!jy (.str {#[c]}) (bw.map V.str)).9:Int):=by
 rw[<-vW g bw ss wd];show ((d1 g bw ss "").map λ_=>(1:Int)).sum=_;rw[qP,Int.mul_one];rfl
theorem Qq{c:Int}:LN c 2:={⋯,⋯}
end
section
variable{K:À}{C D CB:Addr}{nm nmD Cq:Str}
theorem rU(U:bf K C CB nm)(g:bf K D CB nmD)(T:z7 K CB Cq)(j:¬nmD=Cq)(l:nm=nmD->C=D):Œ K (.ref C) (.ref D)=ρ (decide (nm=nmD)):=by
 by_cases e:nm=nmD
 .rw[l e,decide_eq_true e];exact Ig
 .rw[decide_eq_false e];exact Ii U g T j e
end
end K61
namespace _S
open PySem.Spec PyProof.Rows
section
variable{K:À}{C CB D:Addr}{nm zp Cq:Str}
theorem kP.ne(U:bf K C CB nm)(V:kP K D CB zp)(h:¬nm=zp):C≠D:=λe=>by
 subst e
 let{q,N,bs,m,sub,ab,d,n,p,r,s,t,u,l1}:=U.lk
 let{v,w,f,g,b,i,c,j,x,k,y,z,A,a}:=V.lk
 rw[l1]at a;have:=congrArg (λo=>match o with |some (⟨_,_,.cls l,_⟩:Obj)=>l.name |_=>nm) a;exact h this
theorem kP.neT(V:kP K D CB zp)(T:z7 K CB Cq)(h:¬zp=Cq):D≠CB:=λe=>by
 subst e
 let{q,N,bs,n,sub,ab,d,p,r,s,t,u,v,l1}:=V.lk
 let{w,x,f,g,i,b,j,c,k,y,l,z,A,B,a}:=T.lk
 rw[l1]at a;have:=congrArg (λo=>match o with |some (⟨_,_,.cls m,_⟩:Obj)=>m.name |_=>zp) a;exact h this
theorem kP.cls(V:kP K D CB zp):(clsIn K D).isSome=true/\typeIn K (.ref D)=ρ (.type "type"):=by
 let{h,i,d,e,b,f,c,g,j,l1,k,l,m,a}:=V.lk
 refine{by unfold clsIn;rw[a];rfl,?_};show Option.map (λx=>x.cls) (K.lookup D)=ρ (.type "type");rw[a];rfl
theorem Fs(U:bf K C CB nm)(V:kP K D CB zp)(T:z7 K CB Cq)(g:¬zp=Cq)(e:¬nm=zp):kitOne K (.ref C) (.ref D)=ρ false:=by
 unfold kitOne;have ne:=kP.ne U V e;rw[if_neg (by simpa using ne)]
 let{q,N,bs,f,sub,ab,a,h,i,j,k,l,m,lk}:=U.lk
 let{b,c}:=V.cls
 unfold kitCls;dsimp only;rw[b,c,if_pos (by rfl)];unfold subIn mroIn clsIn;dsimp only;rw[lk];show ρ ((Ä C::oz CB).contains (.ref D))=ρ false;have n1:(Ä D==Ä C)=false:=by simpa using Ü ne
 have d:(Ä D==Ä CB)=false:=by simpa using V.neT T g
 simp only[Ψ,n1,d,Ű];rfl
end
end _S
namespace _L
open PySem.Spec PyProof.Rows
section
variable{X:Cx}
theorem NI(I:Inv X g σ H s)(h:H a=ρ (.dK [])):∃o ep,s.heap.get? a=ρ o/\o.cls=.type "dict"/\o.data=.dict #[] ep/\(a==Ĉ)=false:=by
 let{_,e,m,rel,o,c,ep,f,i,j,k}:=(show bL X.prog X.w H s.heap a (.dK []) from I.b7 a _ h)
 cases rel;have d:=k.2.1
 have:c=#[]:=wef.mp (by
  cases l:c.toList with
  |nil=>rfl
  |cons a b=>rw[l]at d;cases d)
 subst this;exact⟨o,ep,f,i.1,j,e⟩
theorem Ft{K:À}(J:X.K=K):Jb X "list.index" (λx xs H Q=>∃l g k i,x=.ref l/\xs=[.str k]/\aL K H l (đ V.str g)/\g.9<=1000/\g[i]?=ρ k/\(∀j:Nat,j<i->g[j]?≠ρ k)/\Q (.int (i:Nat)) H):=by
 subst J;intro A s σ H x xs v Z Q I E G h
 let{l,g,k,i,rfl,rfl,L,M,hi,f,q}:=h
 cases E
 let{u,rfl,N,rfl}:=G.one
 let{a,B,pl,hz}:=I.list L
 let{{cls,O,data,R},C,hc,n,hd}:=pl.isList
 simp only at hc hd;subst hc hd;have c:=B.9;rw[Á]at c;have S:i<g.9:=(Ô.mp hi).1
 have at_:∀m (b:m<a.9),∃t,a[m]=.str (g[m]'1.0) t:=λm b=>by
  let{w,D,T}:=B.get (i:=m) (x:=.str (g[m]'1.0)) (by rw[Ê,È 1.0];rfl)
  rw[È b]at D
  let{t,rfl}:=T
  exact{t,Î D}
 refine Ļ π {_,C,rfl} wdT (wdD _ _)
  (wdU l a.toArray n O R (.str k N) (λw=>match w with |.str z _=>z==k |_=>false) i (by simp;omega) 1.0 ?_ ?_) {C,λy U=>?_,?_}
 .let{t,e}:=at_ i 1.0
  have Y:g[i]=k:=(Ô.mp hi).2;simp only[υ];rw[e,Y];simp
 .intro m b o;have p:m<a.9:=by simpa using b
  let{t,e}:=at_ m p
  simp only[υ];rw[e];have d:=f m o;rw[È 1.0]at d;simp only[beq_eq_false_iff_ne,ne_eq];exact λz=>d (by rw[z])
 .have r:y∈a:=by simpa using U
  let{m,b,rfl}:=Μ r
  let{t,e}:=at_ m b
  rw[e];exact wfX _ _ _ _
 .exact{.int (i:Nat),H,I.tok _,{_,rfl},q}
theorem Fu{K:À}(J:X.K=K):Jb X "list.index" (λx xs H Q=>∃l g k i,x=.ref l/\xs=[.int k]/\aL K H l (đ V.int g)/\g.9<=1000/\g[i]?=ρ k/\(∀j:Nat,j<i->g[j]?≠ρ k)/\Q (.int (i:Nat)) H):=by
 subst J;intro B s σ H x xs v us Q I G L h
 let{l,g,k,i,rfl,rfl,M,N,hi,o,q}:=h
 cases G
 let{u,rfl,O,rfl}:=L.one
 let{a,C,pl,hz}:=I.list M
 let{{cls,R,data,S},D,hc,n,hd}:=pl.isList
 simp only at hc hd;subst hc hd;have d:=C.9;rw[Á]at d;have T:i<g.9:=(Ô.mp hi).1
 have b:∀m (c:m<a.9),∃t,a[m]=.int (g[m]'1.0) t:=λm c=>by
  let{w,E,U}:=C.get (i:=m) (x:=.int (g[m]'1.0)) (by rw[Ê,È 1.0];rfl)
  rw[È c]at E
  let{t,rfl}:=U
  exact{t,Î E}
 refine Ļ π {_,D,rfl} wdT (wdD _ _)
  (wdU l a.toArray n R S (.int k O) (λw=>match w with |.int z _=>z==k |_=>false) i (by simp;omega) 1.0 ?_ ?_) {D,λy Y=>?_,?_}
 .let{t,e}:=b i 1.0
  have Z:g[i]=k:=(Ô.mp hi).2;simp only[υ];rw[e,Z];simp
 .intro m c p;have r:m<a.9:=by simpa using c
  let{t,e}:=b m r
  simp only[υ];rw[e];have f:=o m p;rw[È 1.0]at f;simp only[beq_eq_false_iff_ne,ne_eq];exact λz=>f (by rw[z])
 .have A:y∈a:=by simpa using Y
  let{m,c,rfl}:=Μ A
  let{t,e}:=b m c
  rw[e];exact wfW _ _ _ _
 .exact{.int (i:Nat),H,I.tok _,{_,rfl},q}
theorem Fv{K:À}(J:X.K=K):Jb X "list.index" (λx xs H Q=>∃l g k i,x=.ref l/\xs=[.bl k]/\aL K H l (đ V.bl g)/\g.9<=1000/\g[i]?=ρ k/\(∀j:Nat,j<i->g[j]?≠ρ k)/\Q (.int (i:Nat)) H):=by
 subst J;intro t s σ H x xs v U Q I D E h
 let{l,g,k,i,rfl,rfl,G,L,hi,f,q}:=h
 cases D
 let{u,rfl,rfl}:=E.one
 let{a,A,pl,Y}:=I.list G
 let{{cls,M,data,N},B,hc,n,hd}:=pl.isList
 simp only at hc hd;subst hc hd;have d:=A.9;rw[Á]at d;have O:i<g.9:=(Ô.mp hi).1
 have b:∀m (c:m<a.9),a[m]=.bool (g[m]'1.0):=λm c=>by
  let{w,C,R}:=A.get (i:=m) (x:=.bl (g[m]'1.0)) (by rw[Ê,È 1.0];rfl)
  rw[È c]at C;cases R;exact Î C
 refine Ļ π {_,B,rfl} wdT (wdD _ _)
  (wdU l a.toArray n M N (.bool k) (λw=>match w with |.bool z=>z==k |_=>false) i (by simp;omega) 1.0 ?_ ?_) {B,λy S=>?_,?_}
 .have T:g[i]=k:=(Ô.mp hi).2;simp only[υ];rw[b i 1.0,T];simp
 .intro m c o;have p:m<a.9:=by simpa using c
  simp only[υ];rw[b m p];have e:=f m o;rw[È 1.0]at e;simp only[beq_eq_false_iff_ne,ne_eq];exact λz=>e (by rw[z])
 .have r:y∈a:=by simpa using S
  let{m,c,rfl}:=Μ r
  rw[b m c];exact wfx _ _
 .exact{.int (i:Nat),H,I.tok _,{_,rfl},q}
end
section
variable{M:ė}{A:Around}{E:Value->Shared->Prop}{s:Shared}{base:Heap}{env:Env}{outer:List Env}{L e C:Addr}{od:Option Addr}{lo:Nat}{H:Hp}
theorem vX{Q:Unit->Shared->Prop}
 (M5:A.frames=ρ (env::outer)) (hl:s.heap.FunFrames base (env::outer)) (hf:env.frame=ρ L) (OX:lo<=s.8) (p:∀b,s.8<=b->H b=τ) (I:lo<=e) (J:H e=τ)
 (he:s.heap.get? e=ρ t) (T:t.cls=.ref C) (U:t.dict=od) (hd:t.data=.fields vs) (hsz:1<vs.size)
 (h:∀h',qW lo H h' e C od .none->yy lo H ((env::outer).filterMap (·.frame)) s.heap h'->Q .unit {s with heap:=h'}) :
 wpAny M A (do let a <-frameOf env;let pl <-entryPlaceOf L Jz;let b <-wdx head a .none (rawInt L) .none pl;setField (.ref e) 1 b) (λ_ s'=>wpAny M A (ń (.ref e) τ) Q E s') E s:=by
 have m:e∉(env::outer).filterMap (·.frame):=λy=>by
  let{_,o,B,i}:=hl.mem y
  rw[he]at B;injection B with B;subst B;exact i vs hd
 refine Â (wpAny_frameOf_fun M5 hl hf λf g=>?_);refine Â (wpAny_entryPlaceOf λpl D=>?_);unfold wdx newFields;refine Â (we5 ?_ (D.sizeOk5 _ _ _ _ _));have j:f.get? e=ρ t:=(g.2.1 e m).trans he;have l:=Ð (h:=f) {cls:=.type "traceback",dict:=τ,data:=.fields ([head,.ref L,.none,rawInt L,.none]++(if pl.isEmpty then Ú 6 ä else pl)).6} j;refine ū l hd hsz ?_;have w:f.objs.size≠e:=Ŀ (Æ j);have n:=œ hd (·.setIfInBounds 1 (Ä f.7));have q:=ō (č (·.setIfInBounds 1 (Ä f.7))) l (wcE n)
 have r:=(þ (f.push {cls:=.type "traceback",dict:=τ,data:=.fields ([head,.ref L,.none,rawInt L,.none]++(if pl.isEmpty then Ú 6 ä else pl)).6})
  (č (·.setIfInBounds 1 (Ä f.7))) (Ü w)).trans (ç f rfl)
 have keep:∀b o,b≠e->f.get? b=ρ o ->
  ((f.push {cls:=.type "traceback",dict:=τ,data:=.fields ([head,.ref L,.none,rawInt L,.none]++(if pl.isEmpty then Ú 6 ä else pl)).6}).update e (č (·.setIfInBounds 1 (Ä f.7)))).get? b=ρ o:=λb o G u=>by
  rw[þ _ _ (Ü G)];exact Ð _ u
 refine iE (lo:=lo) (H:=H) (C:=C) (od:=od) (fl:=rawInt L) τ {I,J,vs.setIfInBounds 1 (.ref f.7),t.slots,f.7,_,_,?_,by simpa using hsz,by simp[hsz],by rw[g.1];exact OX,p _ (by rw[g.1];exact Ç _),w,r,rfl,by simp} λh' O k=>h h' O {λb o u v i=>?_,λb o u y=>?_}
 .show Heap.get? _ e=_;rw[q]
  let{c,d,S,N}:=t
  dsimp only at T U hd;subst T U hd;rfl
 .refine k b o (keep b o ?_ ((g.2.1 b i).trans u)) (v.elim .inl λz=>.inr (.inl z));rintro rfl;rcases v with v |v
  .exact absurd (Ö v I) (ò _)
  .exact v J
 .let{N,R}:=g.2.2 b o u
  let{_,V,x,i}:=hl.mem y
  rw[u]at x;cases x;exact{N,k b _ (keep b _ (λz=>m (z ▸ y)) R) (.inr (.inr i))}
theorem Fw{Q:Unit->Shared->Prop}(p:A.frames=ρ (env::outer))(hl:s.heap.FunFrames base (env::outer))(I:env.frame=ρ L)(r:lo<=s.8)(g:∀b,s.8<=b->H b=τ)
 (F:DW lo H s.heap e C od) (h:∀h',qW lo H h' e C od .none->yy lo H ((env::outer).filterMap (·.frame)) s.heap h'->Q .unit {s with heap:=h'}) :
 wpAny M A (Β (.ref e) env) (λ_ s'=>wpAny M A (ń (.ref e) τ) Q E s') E s:=by
 let{m,n,z,N,v,t,k}:=F
 unfold Β;simp only[I];rcases k with k |⟨T,O,B,G,u,x,y,w,i,k⟩
 .refine Â (Ď v rfl k ?_);rw[if_neg ⋯];exact vX p hl I r g m n v rfl rfl rfl t h
 .refine Â (Ď v rfl G ?_);rw[if_pos (show (Ä T != ä)=true from by simp)];refine Â (Ď w i k ?_);rw[if_neg (show ¬((ä==rawInt L)=true) from by simp[rawInt])];refine Â (ū w i (wcJ.mp k).1 ?_);have other:∀b,b≠T->(s.heap.update T (č (·.setIfInBounds 3 ä))).get? b=s.heap.get? b:=λb a=>þ _ _ (Ü a)
  have c:∀b o,s.heap.get? b=ρ o->(∀z,o.data≠.fields z)->b≠T:=λb o a d q=>by
   rw[q,w]at a;injection a with a;subst a;exact d B i
  have f:(s.heap.update T (č (·.setIfInBounds 3 ä))).7=s.8:=wfK ..;refine vX (s:={s with heap:=s.heap.update T (č (·.setIfInBounds 3 ä))}) p (hl.of_keeps λb o a d=>{o,(other b (c b o a d)).trans a,rfl}) I (by show lo<=_;rw[f];exact r) (λb a=>g b (by rw[<-f];exact a)) m n ((other e (Ü y)).trans v) rfl rfl rfl t λh' J P=>h h' J {λb o a l hn=>P.keep b o ((other b ?_).trans a) l hn,λb o a D=>P.slot b o ((other b ?_).trans a) D}
  .rintro rfl;rcases l with l |l
   .exact absurd (Ö l u) (ò _)
   .exact l x
  .rintro rfl
   let{_,R,j,d}:=hl.mem D
   rw[w]at j;injection j with j;subst j
   exact d B i
end
section
variable{M:ė}{A:Around}{E:Value->Shared->Prop}{e C C1 CB:Addr}{nm q:Str}{N:Addr}{bs:List Value}{hdct:Bool}{sn:List Str}{sub:List Value}{ab:Bool}{col:Option Bool}{dd:Option Addr}{k0 k1 k2 k3 k5:Option Value}{zp q':Str}{N':Addr}{XA:List Value}{Qr:Bool}{XE:List Str}{Tp:List Value}{XF:Bool}{Tq:Option Bool}{XG:Option Addr}{XH XI XJ XM XO:Option Value}
theorem qk{h:Heap}{g:Array ĳ}{d:Drawn}{t:Nat}{os:ë}{I:Obj}{Q:Bool->Shared->Prop}(j:h.get? C1=ρ (Ă zp q' C1 N' XA (oz CB) Qr XE Tp XF Tq XG XH XI XJ XM XO "ValueError.__new__"))
 (J:h.get? C=ρ (Ă nm q C N bs (oz CB) hdct sn sub ab col dd k0 k1 k2 k3 k5 "ValueError.__new__"))
 (he:h.get? e=ρ I) (l:I.cls=.ref C) (p:C1≠C) (r:C1≠CB) (T:Q false ⟨h,g,d,t,os⟩) :
 wpAny M A (wgi (.ref e) (.ref C1)) Q E ⟨h,g,d,t,os⟩:=by
 have a:(Ä C1::oz CB).contains (.type "BaseException")=true:=by simp[Ψ,oz]
 have b:(Ä C::oz CB).contains (.ref C1)=false:=by simp[Ψ,oz,p,r]
 have f:=tc_notTuple;unfold wgi
 repeat (first |(with_reducible refine Č he ?_;rw[l]) |with_reducible refine Č j ?_ |with_reducible refine Č J ?_ |(with_reducible refine Ŝ J ?_;rw[b]) |(with_reducible refine Ŝ j ?_;rw[a]) |wp_step)
 exact T
end
section
variable{X:Cx}{CB C1 C2:Addr}{Rm nmD nm zp:Str}{n1 n2:Option Str}{body b1 b2:List Stmt}{tb:JA}{E:XK}{p1 Cr q1 Tr pos:Pos}
theorem KH(g:X.stack=X.5::X.outer/\X.env.frame=ρ X.env.locals)(hT:HS X E)(j:Mh X body tb)(hg:Gl X Rm)(hm:X.mg Rm=ρ (.ref C1))(J:Gl X nmD)(T:X.mg nmD=ρ (.ref C2))(U:bf X.K C1 CB nm)(U':bf X.K C2 CB zp)(XQ:C1≠CB)(l:C2≠CB)
 (SY:(Rm==("__debug__":Str))=false:=by decide) (r:(nmD==("__debug__":Str))=false:=by decide) :
 PS X (.Try body [.ExceptHandler (ρ (.Name Rm p1)) n1 b1 Cr,.ExceptHandler (ρ (.Name nmD q1)) n2 b2 Tr] [] [] pos) (Qc X.K CB C1 C2 E tb):=by
 refine{?_};intro a s σ H D I h;refine wpAny_Try_except (ß (j a s σ H D _ I h) (λf s1 q=>?_) λev s1 q=>?_)
 .cases f with
  |next=>exact Ĭ q
  |ret v=>exact q
  |brk=>exact q
  |cont=>exact q
 let{k,H0,s0,d,e,C',od,x,rfl,c,bare,un,b7,F,C,SZ,y,UC,A,B,hE}:=q
 cases y;have S:Inv X a k x s1:=d.xx c un b7 bare λb z=>absurd z (by simp);have G:(X.5::X.outer).filterMap (·.frame)=oI X.stack:=by rw[g.1];rfl
 have m:=S.mI
 have n:s0.8<=s1.8:=wfs λz=>by
  let{L,_,vs,sl,he,_}:=F
  exact absurd (Ö (ĺ L (Æ he)) (wev z)) (ò _)
 refine Fw (lo:=s0.8) (H:=x) (base:=X.base) (outer:=X.outer) (by rw[<-g.1];exact d.ok.frames) (by rw[<-g.1];exact S.stack) g.2 n (λb j=>b7.fresh j) F λV Y p=>?_;rw[G]at p
 let{M,t,J2}:=d.yF c bare un b7 p m
 have i:=J2 s1.toks
 let{qC,NC,WY,WZ,Z,X1,T1,X2,c0,c1,c2,c3,c5,N}:=U.lk
 let{qD,ND,Zz,ZA,XR,ZB,XS,ZC,e0,e1,e2,e3,e5,O}:=U'.lk
 let{qX,NX,ZD,ZE,XU,ZF,XV,ZG,x0,x1,x2,x3,x5,u}:=UC.lk
 let{UQ,X5,T2,ZH,ZI,w,_}:=id Y.ob
 refine weH (wek (ft (X:=X.marked e) (i.marked (e:=e)) hg hm ?_ SY)) (by intro z;cases z);refine qk (i.fJ _ _ N) (i.fJ _ _ u) w rfl A XQ ?_;refine weH (wek (ft (X:=X.marked e) (i.marked (e:=e)) J T ?_ r)) (by intro z;cases z);refine qk (i.fJ _ _ O) (i.fJ _ _ u) w rfl B l ?_;refine wpAny_handleBy_nil (HW Y λh3 F3 k3=>?_);have Q:yy s0.heap.objs.size x (oI X.stack) V h3:={λb o q j _=>k3 b o q (j.elim .inl λz=>.inr (.inl z)),λb o q j=>{o.slots,k3 b o q (.inl ?_)}}
 rotate_left
 .have:∃o,s0.heap.get? b=ρ o:=by
   let{_,o,R,_}:=d.stack.mem j
   exact⟨o,R⟩
  let{o,R}:=this
  exact Æ R
 let{X7,T3,J3}:=d.yF (s1:={s1 with heap:=V}) c bare M t Q m
 have I3:=J3 s1.toks;rw[g.2]at F3;exact hT a k x _ e _ _ od g.2 I3 (F3.low d.sz) hE
end
end _L
namespace K61
section
variable{P:É}{w:World}{K:À}{mg:Str->Option Value}{base:Heap}
theorem rx(L:Lk K mg):aI P w K mg base cz 4 L.gw L.ku ["self","signs","barred"] (MZ K L.au):=by
 have T:=L.T;refine L.kJ.F.d2 (N:=["self","signs","barred","places","place"]) (λgG A outer s H vs Q E nd hr h=>?_)
 let{x,t,g,a,ws,rfl,hx,hS,sg,hl,hw,k}:=h
 have Z:∀w∈ws,w.9<=5:=λw h=>(hw w h).hi;have hu:=fo hr
 refine{_,(a0 (aQ (cQ (bO (ag (zb L) L.sH (aB (1))))) bK aw)
  (a0 (bR (ag (tj L) L.mq (a5 (2) (aB (1)))))
  (a0 (c7 (0) (1) rfl)
  (a0 (c7 (0) (aY dQ (by rfl) T.list ki (aB (2))) rfl)
  (a0 (c7 (0) dC rfl)
  (a0 (al (i:=3) (ag (rm L) L.kF (aB (2))))
  (a0 (forA (aW (3)) (ay (i:=4)) (a8 (fu hu (aM (0) rfl) (4) (ag (wB L) L.pV (a5 (4) (a5 (1) (a5 (2) (aB (3)))))) rfl)))
  (a8 (c7 (0) (ag (wD L) L.pX (aB (aM (0) rfl))) rfl))))))))),?_}
 ac_rfl
 refine{1,g,rfl,sg,λH1 s1=>{true,rfl,aA ?_}};refine{2,a,g,ws,rfl,s1.seq hS,hl,hw,λH2 s2=>?_};have D:a7 H H2:=s1.trans s2;have XW:=D _ _ hx;refine{2,x,L.au,t,1,XW,L.aJ.cl,L.aJ.tR,⋯,?_};rw[MK];have Qs:∀(o:HO) b ob,H b=ρ ob->b≠x->(upd H2 x o) b=ρ ob:=λo b ob e hb=>by rw[a9 hb];exact D _ _ e
 have G:∀{H':Hp} (h:∀b o,H b=ρ o->b≠x->H' b=ρ o),aL K H' a (ws.map V.str):=λ{H'} h=>by
  have V8:∀o,H a=ρ o->(∀fs,o≠.ins L.au t fs)->a≠x:=λo e ne z=>by
   subst z;rw[hx]at e;exact ne [] (Î e).symm
  rcases hS with(e |⟨o,e⟩) |e
  .exact .inl (.inl (h _ _ e (V8 _ e (λ_ z=>by cases z))))
  .exact .inl (.inr {o,h _ _ e (V8 _ e (λ_ z=>by cases z))})
  .exact .inr e
 refine{1,a,1,.inl (G (Qs _)),λb hb=>?_};have v:x≠b:=ae a6 hb;have Ts:H2 b=τ:=by rw[a9 v.symm]at hb;exact hb
 refine{1,x,L.au,t,Ra g,rfl,by rw[a9 v,a6],L.aJ.cl,L.aJ.Ad,(show 1<1000 by decide),?_};rw[put2];intro d hd;have r:x≠d:=ae a6 hd
 have Tu:b≠d:=by
  intro z;subst z;rw[a9 v.symm,a6]at hd;cases hd
 have I:H2 d=τ:=by rw[a9 r.symm,a9 Tu.symm,a9 r.symm]at hd;exact hd
 refine{1,x,L.au,t,Rb g b,rfl,by rw[a9 r,a6],L.aJ.cl,L.aJ.mO,(show 2<1000 by decide),?_};rw[put3];generalize J:upd (upd (upd (upd (upd H2 x (.ins L.au t (Ra g))) b (.lst (ws.map V.str))) x (.ins L.au t (Rb g b))) d (.dK [])) x (.ins L.au t (MJ g b d))=H3;have x3:H3 x=ρ (.ins L.au t (MJ g b d)):=by rw[<-J,a6]
 have d3:H3 d=ρ (.dK []):=by rw[<-J,a9 r.symm,a6]
 have b3:H3 b=ρ (.lst (ws.map V.str)):=by rw[<-J,a9 v.symm,a9 Tu,a9 v.symm,a6]
 have k3:∀c o,H c=ρ o->c≠x->H3 c=ρ o:=λc o e hc=>by
  have e2:=D _ _ e;rw[<-J,a9 hc,a9 (ae e2 I),a9 hc,a9 (ae e2 Ts),a9 hc];exact e2
 clear J;refine{1,a,ws,rfl,G k3,hl,Z,λl ss H4 s4 R h4 hp XX=>?_};have Tv:ss.Nodup:=hp.nodup_iff.mpr (rL ws);have IE:ss.9<=25:=by have:=mM (ws:=ws) (e:="") (us:=ws) Z;rw[hp.length_eq];lia
 have Qt:∀p∈ss,p.9<=5:=λp CI=>Es Z p (hp.mem_iff.mp CI);have Tw:("":Str)∈ss:=hp.mem_iff.mpr (cp ws);have Rk:l≠d:=λz=>by rw[z,d3]at R;cases R
 have ZJ:l≠x:=λz=>by rw[z,x3]at R;cases R
 refine{1,l,rfl,{_,aL.of h4},eG (K:=K) (a:=l) (xs:=ss.map V.str) (λi σ S=>∃v4 B,σ=[ρ (.ref x),ρ (.str g),ρ (.ref a),ρ (.ref l),v4]/\S d=ρ (.dK (cn B))/\B.map (·.1)=ss.take i/\(∀m∈B,S m.2=ρ (.dK (rowOf g ws ss m.1)))/\(∀m∈B,H4 m.2=τ)/\(∀c o,H4 c=ρ o->c≠d->S c=ρ o))
  {τ,[],rfl,s4 _ _ d3,rfl,λm u=>(nomatch u),λm u=>(nomatch u),λc o e _=>e} (λi σ S _ {_,_,_,_,_,_,_,M}=>aL.of (M _ _ h4 Rk)) ?_ ?_}
 .rintro i y σ S hy ⟨v4,B,rfl,C,n,f,M5,M⟩
  obtain⟨p,U,rfl⟩:∃p,ss[i]?=ρ p/\y=.str p:=by
   rw[Ê]at hy
   cases e:ss[i]? with
   |none=>rw[e]at hy;cases hy
   |some z=>rw[e]at hy;exact{z,rfl,(Î hy).symm}
  have hi:i<ss.9:=(Ô.mp U).1;have CI:p∈ss:=ê U
  have k5:∀c o,H c=ρ o->c≠x->S c=ρ o:=λc o e hc=>M _ _ (s4 _ _ (k3 c o e hc)) (λz=>by
   subst z;have:=D _ _ e
   rw[I]at this;cases this)
  have x5:S x=ρ (.ins L.au t (MJ g b d)):=M _ _ (s4 _ _ x3) r;refine{4,p,g,a,l,ws,ss,rfl,G k5,aL.of (M _ _ h4 Rk),Tw,by have:=Qt p CI;lia,by have:=sg.hi;lia,sg.nd,(),λe H6 O X h6=>?_};have d6:=O _ _ C
  have II:p∉B.map (·.1):=by
   rw[n];intro u
   let{j,hj,ej}:=weB.mp u
   rw[wf8]at ej;rw[â]at hj;have e1:ss[i]=p:=(Ô.mp U).2;have:=(Ρ Tv).mp (ej.trans e1.symm)
   lia
  have Y:B.9<=25:=by have:=congrArg Ĳ n;rw[Á,â]at this;lia
  refine{1,x,L.au,t,_,1,O _ _ x5,L.aJ.cl,L.aJ.mO,lC g b d,1,d,1,mZ.k (k:=Ã p) d6 (by unfold cn;rw[Á];exact bY ()),?_};have Oj:e≠d:=λz=>by rw[z,C]at X;cases X
  have e4:H4 e=τ:=by
   cases q:H4 e with
   |none=>rfl
   |some o=>
    have:=M _ _ q Oj;rw[this]at X;cases X
  refine{_,B++[(p,e)],rfl,?_,?_,?_,?_,?_}
  .rw[a6,gg _ (om II)];unfold cn;rw[Û];rfl
  .rw[Û,n];have:ss.take (i+1)=ss.take i++[p]:=by rw[Ē,U];rfl
   rw[this];rfl
  .intro m u;rcases ñ.mp u with z |z
   .have nm:m.2≠d:=λq=>by
     have:=f m z;rw[q,C]at this;have:=M5 m z;rw[q]at this;rw[s4 _ _ d3]at this;cases this
    rw[a9 nm];exact O _ _ (f m z)
   .have:m=(p,e):=by simpa using z
    subst this;rw[a9 Oj];exact h6
  .intro m u;rcases ñ.mp u with z |z
   .exact M5 m z
   .have:m=(p,e):=by simpa using z
    subst this;exact e4
  .intro c o hc V9;rw[a9 V9];exact O _ _ (M c o hc V9)
 .rintro σ S ⟨v4,B,rfl,C,n,f,M5,M⟩;rw[Á,õ]at n;have x5:S x=ρ (.ins L.au t (MJ g b d)):=M _ _ (s4 _ _ x3) r;have Y:B.9<=1000:=by have:=congrArg Ĳ n;rw[Á]at this;lia
  refine{1,x,L.au,t,_,1,x5,L.aJ.cl,L.aJ.mO,lC g b d,d,B,rowOf g ws ss,rfl,C,Y,f,λkx=>C7 g ws ss kx,λkx=>by rw[Ex];have:=sg.hi;lia,λq ls H6 O hq h6 lv=>?_};refine{1,x,L.au,t,1,O _ _ x5,L.aJ.cl,L.aJ.rg,(show 3<1000 by decide),?_};rw[Eo];have Tx:q≠x:=λz=>by rw[z,x5]at hq;cases hq
  have SZ:∀m∈B,m.2≠x:=λm u z=>by
   have:=f m u;rw[z,x5]at this;cases this
  refine k ss ls _ {{t,b,d,q,B,a6,?_,?_,n,λm u=>?_,?_},hp,XX,by rw[n]at lv;exact lv} λc o e hc=>?_
  .rw[a9 v.symm];exact O _ _ (M _ _ (s4 _ _ b3) Tu)
  .rw[a9 r.symm];exact O _ _ C
  .rw[a9 (SZ m u)];exact O _ _ (f m u)
  .rw[a9 Tx];exact h6
  .rw[a9 hc]
   exact O _ _ (M _ _ (s4 _ _ (k3 c o e hc)) (λz=>by
    subst z;have:=D _ _ e
    rw[I]at this;cases this))
theorem mE(L:Lk K mg):aI P w K mg base cz 5 L.nE L.nO ["band","many","wide","weights"] (Kf K L.au L.aX):=by
 refine L.iV.F.d2 (N:=["band","many","wide","weights","homes","lines","place","blocks"]) (λgG A outer s H vs Q E nd hr h=>?_)
 let{x,d,many,n,m,f,g,u,ss,ls,rfl,B,Ji,IG,IE,Qu,hd,hw,k}:=h
 have hu:=fo hr
 refine{_,(a0 (bR (ag (iY L) L.cK (a5 (0) (a5 (1) (aB (2))))))
  (a0 (al (i:=4) (c6 rfl (az ["weights"] [3]) (aW (n7 (0) L.aJ.cl L.iO (jZ L))) (λ_ _ _ _ _ _=>gL (b8 fq (dk hu (1) (0) (λ_ _=>rfl)) af)) (λ_ _ _ _ _ _=>(0))))
  (a0 (al (i:=5) (bM jB))
  (a0 (forA (aW (4)) (ay (i:=6)) (a0 (al (i:=7) (ag (mC L) L.iU (a5 (0) (a5 (6) (aB (2))))))
  (a8 (bR (iy Ħ ő ŧ f5 (5) (aB (hO rfl (az ["homes"] [4]) (az ["homes"] [4]) ⋯ (aW (7)) (λ_ _ _ _ _ _=>gL (eL (jD (K:=K) rfl) (1) (2) rfl)) (λ_ _ _ _ _ _=>(eC (a5 (0) (aB (Ij (K:=K) rfl Ħ π we3 (Ft (K:=K) rfl) (2) (aB (1))))))))))))))
  (a8 (aj (mJ L.AA (iR L) (hr.mono ⋯) rfl L.DJ L.fX.b .nil ni (a5 (4) (a5 (c6 rfl (az ["weights"] [3]) (aW (4)) (λ_ _ _ _ _ _=>bx) (λ_ _ _ _ _ _=>(dk hu (1) (0) (λ_ _=>rfl)))) (aB (5))))))))))),?_}
 ac_rfl
 let{ra,rb,rc,rd,re}:=id Qu
 have Tg:g.length^n<=64:=by
  rw[ć]at re;have:((g.length^n:Nat):Int)<=64:=by rw[ŋ];exact re
  lia
 have F4:ls.9<=900:=Õ B.lv.sub.length_le IE;refine{3,x,many,n,g,u,ss,ls,rfl,B,IG,Qu,?_}
 let{{dx,b,d0,q,mv,h1,h2,h3,h4,h5,h6},pm,_,_}:=id B
 refine{1,x,dx,1,h1,Ep _ _ _ _ ∅ ∅ ∅ ∅,x,g,u,ss,ls,rfl,B,λlv H1 s1 f1 hv=>?_};refine{lv,rfl,{_,aL.of hv},λS Tz=>?_};refine da (λv=>match v with |.str p=>decide (0<f p) |_=>false) (λv=>v) (aU K lv (ls.map V.str)) Tz (by rw[Á];exact ak ()) (λH' s'=>aL.of (s' _ _ hv)) (λz J Q' hz s2 Y=>?_) (λz J Q' hz _ s2 Y=>{1,Y J (a7.refl _)}) (λJ s2 hh=>?_)
 .let{p,hp,rfl}:=Å.mp hz
  have g3:=eQ.rd (k:=(Ã p:Key)) (hd.same (s1.trans s2));rw[dR,hw p hp]at g3;have q2:Q' (decide (0<f p)) J:=Y J (a7.refl _);exact{2,d,1,g3,_,1,rfl,1,q2}
 have XY:((ls.map V.str).filter (λv=>match v with |.str p=>decide (0<f p) |_=>false)).map (λv=>v)=(av ls f).map V.str:=by
  rw[΢,Ŭ];rfl
 rw[XY]at hh;have Va:(av ls f).9<=900:=Õ (ě _ _) F4;have Qv:∀p∈av ls f,p∈ls:=λp hp=>(é.mp hp).1;have Rn:=s1.trans s2;refine{à _,λC D=>?_};have sb:a7 J (upd J C (.lst [])):=a7.upd D;have Z:(upd J C _) C=ρ (.lst []):=a6;generalize upd J C _=Hb at sb Z;have XZ:S≠C:=ae hh D
 refine{1,S,rfl,{_,aL.of (sb _ _ hh)},eG (K:=K) (a:=S) (xs:=(av ls f).map V.str) (λj σ H3=>∃(v6 v7:Option V) (as:List V),σ=[ρ (.ref x),ρ (.int many),ρ (.int (n:Int)),ρ (.ref d),ρ (.ref S),ρ (.ref C),v6,v7]/\H3 C=ρ (.lst as)/\(∀c o,Hb c=ρ o->c≠C->H3 c=ρ o)/\cF K (aH Hb H3) (((av ls f).take j).map λp=>ee (eF g u ss ls n (av ls f) p)) as)
  {τ,τ,[],rfl,Z,λc o e _=>e,rfl} (λj σ H3 _ {_,_,_,_,_,kk,_}=>aL.of (kk _ _ (sb _ _ hh) XZ)) ?_ ?_}
 .rintro j y σ H3 hy ⟨v6,v7,as,rfl,TC,kk,hR⟩
  let{p,Oh,rfl,hj,CI,sW}:=gj hy
  have M:a7 J H3:=λc o e=>kk _ _ (sb _ _ e) (ae e D);have B3:=B.same (Rn.trans M);refine{3,x,p,n,g,u,ss,ls,rfl,B3,Qv p CI,(),(),Ji,IG,λlb rb T G f4 R4=>?_};have I:=G _ _ TC;have Rl:=jN g u ss ls n p
  have Y0:as.9=j:=by
   rw[hR.len,Á,â]
   lia
  refine{1,.inl {rfl,_,aL.of I},1,lb,rfl,{_,aL.of R4.l},λlc Qw=>?_};have O:T S=ρ (.lst ((av ls f).map V.str)):=G _ _ (M _ _ hh);refine jc (prs:=(bo g u ss ls n p).map oR) (λq=>jy q.2 ((av ls f).map V.str)) (λq=>.tup [.at q.1,.at (.int (match q.2 with |.str e=>((av ls f).idxOf e:Nat) |_=>0))]) (aU K lb (rb.map V.ref)) (by rw[Á,Á,R4.len]) (λi q U=>?_) Qw (by rw[Á,R4.len];exact ak ()) (λH' s'=>aL.of (s' _ _ R4.l)) (λq R Q' U X Y=>?_) (λq R Q' U Y1 X Y=>?_) (λR X r5=>?_)
  .have hi:i<rb.9:=by have:=(Ô.mp U).1;rw[Á,<-R4.len]at this;exact this
   rw[Ê]at U
   cases e:(bo g u ss ls n p)[i]? with
   |none=>rw[e]at U;cases U
   |some z=>
    rw[e]at U;cases U;refine{rb[i],by rw[Ê,È hi];rfl,gF.of (R4.t.2 i rb[i] (lx z) (È hi) (by rw[Ê,e];rfl))}
  .let{z,hz,rfl}:=Å.mp U
   exact{2,S,1,.inl (aL.of (X _ _ O)),rfl,eZ _,1,Y R (a7.refl _)}
  .let{z,hz,rfl}:=Å.mp U
   have hm:z.2∈av ls f:=by
    have:jy (.str z.2) ((av ls f).map V.str)=true:=Y1;rw[fm]at this;exact of_decide_eq_true this
   let{i1,i2}:=qY hm
   refine{2,.inl {rfl,_,aL.of (X _ _ O)},1,S,av ls f,z.2,(av ls f).idxOf z.2,rfl,rfl,aL.of (X _ _ O),(),i1,i2,by show 2<=sizeLine;decide,λr hr=>?_};exact Y _ _ (a7.upd hr) (lI hr (z.1,(av ls f).idxOf z.2))
  have el:((((bo g u ss ls n p).map oR).filter λq=>jy q.2 ((av ls f).map V.str)).map λq=>kS.tup [.at q.1,.at (.int (match q.2 with |.str e=>((av ls f).idxOf e:Nat) |_=>0))])=(eF g u ss ls n (av ls f) p).map Dt:=by
   unfold eF;rw[Ŭ,Ì,Ì]
   have ep:((λq:V×V=>jy q.2 ((av ls f).map V.str)) ∘ oR)=λq:Str×Str=>decide (q.2∈av ls f):=by
    funext q;exact fm q.2 _
   rw[ep];rfl
  rw[el]at r5;refine{C,_,1,rfl,X _ _ I,by rw[Y0];exact ĺ (show j<=900 by lia) (by rw[Ę];decide),?_};have Vb:=G.trans X;have Vc:=X _ _ I;have kp:∀c o,R c=ρ o->c≠C->(upd R C (.lst (as++[.ref lc]))) c=ρ o:=λc o e hc=>by rw[a9 hc];exact e
  refine{_,_,as++[.ref lc],rfl,a6,λc o e hc=>kp _ _ (Vb _ _ (kk c o e hc)) hc,?_};rw[sW,Û];refine xi (cF.same ((oy Vb).trans (cb Z kp)) _ _ hR) ?_
  have old:a7 (aH T R) (aH Hb R):=λc o e=>by
   unfold aH at e ⊢
   cases q:Hb c with
   |none=>
    cases q2:T c with
    |none=>rw[q2]at e;exact e
    |some z=>rw[q2]at e;cases e
   |some z=>
    by_cases hc:c=C
    .rw[hc,I]at e;cases e
    .rw[G _ _ (kk _ _ q hc)]at e;cases e
  exact bQ.same (old.trans (cb Z kp)) _ _ r5
 .rintro σ H3 ⟨v6,v7,as,rfl,TC,kk,hR⟩;rw[Á,õ]at hR;have M:a7 J H3:=λc o e=>kk _ _ (sb _ _ e) (ae e D);have Oi:=Rn.trans M;have TF:=M _ _ hh;refine{2,S,rfl,{_,aL.of TF},λlw Y2=>?_};refine comp_map (Jx f) (aU K S ((av ls f).map V.str)) Y2 (by rw[Á];exact ak ()) (λH' s'=>aL.of (s' _ _ TF)) (λz T Q' hz G Y=>?_) (λT G Qx=>?_)
  .let{p,hp,rfl}:=Å.mp hz
   have g3:=eQ.rd (k:=(Ã p:Key)) (hd.same (Oi.trans G));rw[dR,hw p (Qv p hp)]at g3;exact{2,d,1,g3,Y T (a7.refl _)}
  rw[qG]at Qx;have I:=G _ _ TC;have Y3:=G _ _ TF;refine{1,λy dy ny TH Y4=>?_};have sm:a7 T (upd (upd T dy (.own y)) y (.ins L.aX dy [])):=dU ny TH;refine{y,dy,.ref S,.ref lw,.ref C,av ls f,(av ls f).map f,cJ g u ss ls n (av ls f),rfl,a6,uT (sm _ _ Y3),lH (sm _ _ Qx),?_,(),by rw[Á];lia,by unfold cJ;rw[Á];lia,?_,λa' b' c' R TK r1 r2 r3 Y5=>{rfl,?_}}
  .have Y6:cF K T ((av ls f).map λp=>ee (eF g u ss ls n (av ls f) p)) as:=cF.same ((dP _ _).trans G) _ _ hR;refine{C,as,rfl,.inl (sm _ _ I),?_}
   have e:(cJ g u ss ls n (av ls f)).map ee=(av ls f).map λp=>ee (eF g u ss ls n (av ls f) p):=by
    unfold cJ;rw[Ì];rfl
   rw[e];exact cF.same sm _ _ Y6
  .intro l hl
   let{p,1}:=Å.mp hl
   have:=C5 g u ss ls n (av ls f) p
   lia
  .have X:a7 T R:=λc o e=>Y5 _ _ (sm _ _ e) (ae e ny);refine k y R (Oi.trans (G.trans X)) ?_;have Y7:H y=τ:=none_of (Oi.trans G) ny;have nw:=λ(d:kS) (v:V) (r:bQ K (aH _ R) d v)=>bQ.same (fT ((Oi.trans G).trans sm)) d v r;exact{dy,a',b',c',cG Y7 TK,nw _ _ r1,nw _ _ r2,nw _ _ r3}
theorem bS(L:Lk K mg):aI P w K mg base cz 1 L.si L.sF ["_law_e"] (Il K L.aG (NF L)):=by
 have T:=L.T;refine L.bX.F.d2 (N:=["_law_e","_law_some","_law_others"]) (λgG A outer s H vs Q E nd hr h=>?_)
 let{e,C,nm,od,ix,rfl,hE,hD,U,Y,hk,O,hn,k}:=h
 refine{_,(a0 (al (i:=1) (bM (a5 (aF bF (by rfl) T.sY gu (a5 (0) (aB (bJ (v:=.ref L.dM) (by rfl) L.AH rfl)))) (a5 (aF bF (by rfl) T.sY gu (a5 (0) (aB (bJ (v:=.ref L.dN) (by rfl) L.AI rfl)))) (a5 (aF bF (by rfl) T.sY gu (a5 (0) (aB (bJ (v:=.ref L.cy) (by rfl) L.vO rfl)))) (aB (aF bF (by rfl) T.sY gu (a5 (0) (aB (bJ (v:=.ref L.jY) (by rfl) L.Cz rfl))))))))))
  (a0 (al (i:=1) (aD gq (1) (bM (a5 (aF bF (by rfl) T.sY gu (a5 (0) (aB (bJ (v:=.ref L.bC) (by rfl) L.oE rfl)))) (a5 (aF bF (by rfl) T.sY gu (a5 (0) (aB (bJ (v:=.ref L.cj) (by rfl) L.AB rfl)))) (a5 (aF bF (by rfl) T.sY gu (a5 (0) (aB (bJ (v:=.ref L.tT) (by rfl) L.Ky rfl)))) (aB (aF bF (by rfl) T.sY gu (a5 (0) (aB (bJ (v:=.ref L.aT) (by rfl) L.vK rfl)))))))))))
  (a0 (al (i:=2) (bM (a5 (aF bF (by rfl) T.sY gu (a5 (0) (aB (bJ (v:=.ref L.qg) (by rfl) L.Iu rfl)))) (a5 (aF bF (by rfl) T.sY gu (a5 (0) (aB (bJ (v:=.ref L.mW) (by rfl) L.Fi rfl)))) (a5 (aF bF (by rfl) T.sY gu (a5 (0) (aB (bJ (v:=.ref L.mU) (by rfl) L.Fe rfl)))) (aB (aF bF (by rfl) T.sY gu (a5 (0) (aB (bJ (v:=.ref L.mX) (by rfl) L.Fm rfl))))))))))
  (a0 (al (i:=2) (aD gq (2) (bM (a5 (aF bF (by rfl) T.sY gu (a5 (0) (aB (bJ (v:=.ref L.qf) (by rfl) L.Iq rfl)))) (a5 (aF bF (by rfl) T.sY gu (a5 (0) (aB (bJ (v:=.ref L.rk) (by rfl) L.IA rfl)))) (a5 (aF bF (by rfl) T.sY gu (a5 (0) (aB (bJ (v:=.ref L.gn) (by rfl) L.AD rfl)))) (aB (aF bF (by rfl) T.sY gu (a5 (0) (aB (bJ (v:=.ref L.mV) (by rfl) L.Fg rfl)))))))))))
  (a0 (aQ (PW.pt (cH (b8 kZ (A4 T.len (c6 rfl (az [] []) (aW (1)) (λ_ _ _ _ _ _=>gL (bO (0))) (λ_ _ _ _ _ _=>(0)))) af) (cH (bO (aF (ur rfl) (by rfl) T.any MI (aB (2)))) (dg (cQ (bO (aF bF (by rfl) T.sY gu (a5 (0) (aB (gJ (v:=.ty "ValueError") (by rfl) T.ValueError WC rfl)))))))))) (a8 (aj (Gg Bw af))) aw)
  (a8 (aj (iy Ħ π we3 (Fv (K:=K) rfl) (1) (aB dj))))))))),?_}
 ac_rfl
 let{f1,f2,f3,f4}:=JV ⟨ix,O⟩
 rw[<-hn]at f1 f2 f3 f4;have a:∀{m:Hp},a7 H m->∀{D:Addr} {b:Bool},Œ K (.ref C) (.ref D)=ρ b->Fa K m (.ref e) (.ref D) b:=@λm c D b kk=>.exc (c _ _ hE) (λd hd=>let ⟨fs,h⟩:=hD d hd;{fs,c _ _ h}) U Y kk;have s0:=a7.refl H;refine{1,_,_,1,a s0 (hk 0 _ rfl),1,_,_,1,a s0 (hk 1 _ rfl),1,_,_,1,a s0 (hk 2 _ rfl),1,_,_,1,a s0 (hk 3 _ rfl),by show 4<=sizeLine;decide,λl1 R=>?_}
 let{r,g1}:=bz (H:=H) (o:=.lst ((fR nm ["NoForm","NoBand","NoWriter","NoLength"]).map V.bl)) R
 show cA 1 (V.ref l1) _ (upd H l1 (.lst ((fR nm ["NoForm","NoBand","NoWriter","NoLength"]).map V.bl))) _;generalize upd H l1 _=B at r g1;refine{2,_,_,1,a r (hk 4 _ rfl),1,_,_,1,a r (hk 5 _ rfl),1,_,_,1,a r (hk 6 _ rfl),1,_,_,1,a r (hk 7 _ rfl),by show 4<=sizeLine;decide,λm1 S=>?_}
 let{X,v1}:=bz (H:=B) (o:=.lst ((fR nm ["NoNumber","NoRate","NoRow","NoData"]).map V.bl)) S
 refine{l1,m1,(fR nm ["NoForm","NoBand","NoWriter","NoLength"]).map V.bl,(fR nm ["NoNumber","NoRate","NoRow","NoData"]).map V.bl,rfl,rfl,X _ _ g1,v1,by show 8<=sizeLine;decide,λn f=>?_};have f:(upd B m1 (.lst ((fR nm ["NoNumber","NoRate","NoRow","NoData"]).map V.bl))) n=τ:=f;show cA 1 (V.ref n) _ (upd (upd B m1 (.lst ((fR nm ["NoNumber","NoRate","NoRow","NoData"]).map V.bl))) n (.lst ((fR nm B6).map V.bl))) _;generalize upd B m1 _=H2 at X v1 f
 let{t2,g2}:=bz (H:=H2) (o:=.lst ((fR nm B6).map V.bl)) f
 generalize upd H2 n _=m at t2 g2;have c:=r.trans (X.trans t2);refine{1,_,_,1,a c (hk 8 _ rfl),1,_,_,1,a c (hk 9 _ rfl),1,_,_,1,a c (hk 10 _ rfl),1,_,_,1,a c (hk 11 _ rfl),by show 4<=sizeLine;decide,λG Z=>?_}
 let{t4,g4}:=bz (H:=m) (o:=.lst ((fR nm ["Barred","NoPlace","NoSigns","NoSplit"]).map V.bl)) Z
 show cA 2 (V.ref G) _ (upd m G (.lst ((fR nm ["Barred","NoPlace","NoSigns","NoSplit"]).map V.bl))) _;generalize upd m G _=I at t4 g4;have J:=c.trans t4;refine{2,_,_,1,a J (hk 12 _ rfl),1,_,_,1,a J (hk 13 _ rfl),1,_,_,1,a J (hk 14 _ rfl),1,_,_,1,a J (hk 15 _ rfl),by show 4<=sizeLine;decide,λM TL=>?_}
 let{u3,v3}:=bz (H:=I) (o:=.lst ((fR nm ["NoWord","Open","Scarce","TooMany"]).map V.bl)) TL
 refine{G,M,(fR nm ["Barred","NoPlace","NoSigns","NoSplit"]).map V.bl,(fR nm ["NoWord","Open","Scarce","TooMany"]).map V.bl,rfl,rfl,u3 _ _ g4,v3,by show 8<=sizeLine;decide,λu g=>?_};have g:(upd I M (.lst ((fR nm ["NoWord","Open","Scarce","TooMany"]).map V.bl))) u=τ:=g;show cA 2 (V.ref u) _ (upd (upd I M (.lst ((fR nm ["NoWord","Open","Scarce","TooMany"]).map V.bl))) u (.lst ((fR nm R9).map V.bl))) _;generalize upd I M _=H5 at u3 v3 g
 let{t6,g6}:=bz (H:=H5) (o:=.lst ((fR nm R9).map V.bl)) g
 generalize upd H5 u _=H6 at t6 g6;have x:=t4.trans (u3.trans t6);have s6:=c.trans x;have l:=x _ _ g2;have Pk:(fR nm B6).length=8:=by delta fR;rw[Á];rfl
 refine{1,n,rfl,{_,aL.of l},λlc Qw=>?_};refine da (λv=>match v with |.bl b=>b |_=>false) (λv=>v) (aU K n _) Qw (by rw[Á,Pk];exact ak ⋯) (λH' s'=>aL.of (s' _ _ l)) (λy z Q' hy t q=>?_) (λy z Q' hy _ t q=>{1,q z (a7.refl _)}) (λz t h7=>?_)
 .let{b,1}:=Å.mp hy
  exact{1,b,rfl,q z (a7.refl _)}
 have e7:((((fR nm B6).map V.bl).filter λv=>match v with |.bl b=>b |_=>false).map λv=>v).9=1:=by
  rw[Á,Ŭ,Á];exact f1
 refine{lc,1,.inl (aL.of h7),rfl,false,congrArg V.bl (by rw[e7];rfl),aA ?_};refine{1,u,fR nm R9,rfl,aL.of (t _ _ g6),false,congrArg V.bl f2,aA ?_};have p:=s6.trans t;refine{1,_,_,true,rfl,.val (p _ _ hE) (λd hd=>let ⟨fs,h⟩:=hD d hd;{fs,p _ _ h}) U Y (F9 U),true,rfl,aA ?_};refine{1,.inl {rfl,_,aL.of (t _ _ l)},n,fR nm B6,true,ix,rfl,rfl,aL.of (t _ _ l),1.0,f3,λj hj=>f4 {j,1.0} hj,k z p}
theorem jv.ne{L:Lk K mg}{C:Addr}{nm:Str}{g:Nat}(h:jv L C nm g):∀x∈[("NoLength":Str),"NoRow","Barred","NoPlace","NoSigns","NoSplit","NoWord","TooMany","Open","Scarce"],¬nm=x:=by
 cases h<;>decide+kernel
end
section
variable{K:À}{C D CB:Addr}{nm nmD Cq:Str}
theorem rR(U:bf K C CB nm)(g:kP K D CB nmD)(T:z7 K CB Cq)(j:¬nmD=Cq)(e:¬nm=nmD):Œ K (.ref C) (.ref D)=ρ (decide (nm=nmD)):=by
 rw[decide_eq_false e];exact Fs U g T j e
end
section
variable{K:À}{mg:Str->Option Value}
theorem Lr{L:Lk K mg}{C:Addr}{nm:Str}{g:Nat}(h:jv L C nm g):∀(i:Nat) p,(NF L)[i]?=ρ p->Œ K (.ref C) (.ref p.1)=ρ (decide (nm=p.2)):=by
 have U:=h.u;have ne:=h.ne;intro i p a;have hi:i<16:=by have:=(Ô.mp a).1;exact this
 match i,hi,a with
 |0,_,a=>cases a;exact rU (nmD:="NoForm") U L.vM L.XT ∅ λe=>h.c .form e
 |1,_,a=>cases a;exact rU (nmD:="NoBand") U L.vN L.XT ∅ λe=>h.c .band e
 |2,_,a=>cases a;exact rU (nmD:="NoWriter") U L.oF L.XT ∅ λe=>h.c .writer e
 |3,_,a=>cases a;exact rR (nmD:="NoLength") U L.CA L.XT ∅ (ne "NoLength" ∅)
 |4,_,a=>cases a;exact rU (nmD:="NoNumber") U L.jX L.XT ∅ λe=>h.c .number e
 |5,_,a=>cases a;exact rU (nmD:="NoRate") U L.ju L.XT ∅ λe=>h.c .rate e
 |6,_,a=>cases a;exact rR (nmD:="NoRow") U L.Kz L.XT ∅ (ne "NoRow" ∅)
 |7,_,a=>cases a;exact rU (nmD:="NoData") U L.dJ L.XT ∅ λe=>h.c .data e
 |8,_,a=>cases a;exact rR (nmD:="Barred") U L.Iv L.XT ∅ (ne "Barred" ∅)
 |9,_,a=>cases a;exact rR (nmD:="NoPlace") U L.Fj L.XT ∅ (ne "NoPlace" ∅)
 |10,_,a=>cases a;exact rR (nmD:="NoSigns") U L.Ff L.XT ∅ (ne "NoSigns" ∅)
 |11,_,a=>cases a;exact rR (nmD:="NoSplit") U L.Fn L.XT ∅ (ne "NoSplit" ∅)
 |12,_,a=>cases a;exact rR (nmD:="NoWord") U L.Ir L.XT ∅ (ne "NoWord" ∅)
 |13,_,a=>cases a;exact rU (nmD:="Open") U L.za L.XT ∅ λe=>absurd e (ne "Open" ∅)
 |14,_,a=>cases a;exact rU (nmD:="Scarce") U L.qh L.XT ∅ λe=>absurd e (ne "Scarce" ∅)
 |15,_,a=>cases a;exact rR (nmD:="TooMany") U L.Fh L.XT ∅ (ne "TooMany" ∅)
theorem mF{L:Lk K mg}{H:Hp}{g:Nat}{l j:V}(G:ic L H (.err g) l j):∃e,j=.ref e/\∀(Q:VK) (E:XK),(∀H',a7 H H'->Q (.int (g:Int)) H')->Ql L [.ref e] H Q E:=by
 cases G with
 |err e C nm g h a=>exact{e,rfl,λQ E k=>{e,C,nm,τ,g,rfl,a,(λd h=>nomatch h),h.u,h.y,Lr h,h.nm.1,h.nm.2,k}}
theorem KI{L:Lk K mg}{H:Hp}{j g:V}(G:ic L H .dat j g):∃e d,g=.ref e/\H e=ρ (XC e L.aT (ρ d))/\H d=ρ (.xd [("number",.int (0:Nat))])/\∀(Q:VK) (E:XK),(∀H',a7 H H'->Q (.int 7) H')->Ql L [.ref e] H Q E:=by
 cases G with
 |dat e d a hd=>exact{e,d,rfl,a,hd,λQ E k=>⟨e,L.aT,"NoData",ρ d,7,rfl,a,(λb h=>by cases h;exact{_,hd}),L.dJ,L.AF,Lr .data,⋯,rfl,k⟩}
end
end K61
namespace _B
structure Reach(dq:List (List (Str×Nat)))(rs:List Nat):Prop where
 cl:∀d∈rs,∀q∈dq.getD d [],q.2∈rs
 lt:∀d∈rs,d<dq.9
 ne:rs≠[]
 nd:rs.Nodup
theorem Fx{g:Str}{ws ss ls:List Str}{n:Nat}{many:Int}{f:Str->Int}{rs:List Nat}(hn:∀p∈ls,0<=f p)(l:Je g ws ss ls many n f)(R:Reach (cJ g ws ss ls n (av ls f)) rs) :
 Je g ws ss ls many n (cN (rs.map λd=>(av ls f).getD d "") f):=by
 intro p m
 by_cases h:p∈rs.map λd=>(av ls f).getD d ""
 .let{d,hd,rfl}:=Å.mp h
  have b:=R.lt d hd;have c:d<(av ls f).9:=by unfold cJ at b;rwa[Á]at b
  have j:(cJ g ws ss ls n (av ls f)).getD d []=eF g ws ss ls n (av ls f) ((av ls f).getD d ""):=by
   unfold cJ;rw[ï,Ê,È c,ï,È c];rfl
  have e:fL g ws ss ls n (cN (rs.map λd=>(av ls f).getD d "") f) ((av ls f).getD d "")=fL g ws ss ls n f ((av ls f).getD d ""):=by
   delta fL;refine congrArg whl (ļ λq i=>?_);delta cN
   by_cases a:q.2∈rs.map λd=>(av ls f).getD d ""
   .rw[if_pos a]
   .rw[if_neg a]
    by_cases o:0<f q.2
    .exfalso;have k:q.2∈av ls f:=é.mpr {cY i,decide_eq_true o}
     have r:(q.1,(av ls f).idxOf q.2)∈(cJ g ws ss ls n (av ls f)).getD d []:=by
      rw[j];unfold eF;exact Å.mpr {q,é.mpr {i,decide_eq_true k},rfl}
     have:=R.cl d hd _ r;refine a (Å.mpr {_,this,?_});show (av ls f).getD ((av ls f).idxOf q.2) ""=q.2;rw[ï,(qY k).1];rfl
    .have:=hn _ (cY i)
     lia
  rw[e];delta cN;rw[if_pos h];exact l _ m
 .have e:cN (rs.map λd=>(av ls f).getD d "") f p=0:=by delta cN;rw[if_neg h]
  rw[e,Int.mul_zero];delta fL;exact uC λq i=>uH hn _ (cY i)
structure Qy(many:Int)(n:Nat)(wl:List (List (Str×Nat))):Prop where
 ne:wl≠[]
 ln:∀l∈wl,(l.9:Int)=many
 e:∀l∈wl,∀q∈l,q.2<wl.9
 wd:∀l∈wl,∀q∈l,q.1.9=n
theorem DL{many:Int}{n:Nat}{wl:List (List (Str×Nat))}(g:Qy many n wl):∀(ts:List Nat) (s:Str×Nat),s.2<wl.9->(∀t∈ts,(t:Int)<many)->(ts.foldl (xW wl) s).2<wl.9/\(ts.foldl (xW wl) s).1.9=s.1.9+n*ts.9
 |[],s,h,_=>⟨h,rfl⟩
 |t::ts,s,h,c=>by
  have j:=c t (Ù ..);have hl:=ê (gU h);have f:=g.ln _ hl;have d:=ê (Eh (l:=wl.getD s.2 []) (t:=t) ())
  let{a,b}:=DL g ts (xW wl s t) (g.e _ hl ((wl.getD s.2 []).getD t ("",0)) d) λx i=>c x (Ø _ i)
  refine{a,?_};rw[wdA,b];show (s.1++_).9+_=_;rw[len_app,g.wd _ hl _ d,å,Nat.mul_add,Nat.mul_one]
  lia
theorem zi{many:Int}{n:Nat}{wl:List (List (Str×Nat))}(W:Qy many n wl){d:Nat}(hd:d<wl.9){ts:List Nat}(g:∀t∈ts,(t:Int)<many):(eJ wl d ts).2<wl.9/\(eJ wl d ts).1.9=n*ts.9:=by
 let{a,b}:=DL W ts ("",d) hd g
 refine{a,b.trans ?_};show 0+_=_
 lia
theorem AU(B:aE C H j g bw ss ls)(t:H x=ρ (.ins I J fs))(hn:j≠x):aE C (fj H x) j g bw ss ls:=by
 let{{f,b,d,q,u,v,h,i,w,k,r},p,o,l}:=B
 have ne:∀{c:Addr} {o:HO},H c=ρ o->(∀a b e,o≠.ins a b e)->c≠x:=λe n z=>by rw[z,t]at e;exact n _ _ _ (Î e).symm
 exact{{f,b,d,q,u,fk v hn,fk h (ne h λ_ _ _ z=>by cases z),fk i (ne i λ_ _ _ z=>by cases z),w,λm s=>fk (k m s) (ne (k m s) λ_ _ _ z=>by cases z),fk r (ne r λ_ _ _ z=>by cases z)},p,o,l}
end _B
namespace K61
section
variable{P:É}{w:World}{K:À}{mg:Str->Option Value}{base:Heap}
theorem hF.Vd(F:hF g many n bw ss ls p r t ws j):Qy many n (sX j r many.toNat):=by
 let{f,h}:=F
 have c:=MA f;have hl:=mR g;have hi:cM [0] (dF g)=dF g:=ċ.mpr λq b=>decide_eq_true (Ï.mpr (r9 g q b))
 have key:∀l∈sX [dF g] [0] (2:Int).toNat,l=((dF g).take 2).map λq=>(q.1,[0].idxOf q.2):=λl a=>by
  let{d,hd,rfl}:=Å.mp a
  rw[Ï.mp hd];show oS [0] 2 (dF g)=_;delta oS;rw[hi]
 refine{λz=>(nomatch z),λl a=>?_,λl a q b=>?_,λl a q b=>?_}
 .rw[key l a,Á,â,hl];have:(4:Int)<=((g.length^2:Nat):Int):=by rw[ŋ];exact c
  omega
 .rw[key l a]at b
  let{z,e,rfl}:=Å.mp b
  show [0].idxOf z.2<1;rw[r9 g z (wcO e)];decide
 .rw[key l a]at b
  let{z,e,rfl}:=Å.mp b
  exact C9 g z (wcO e)
structure NK(R:Wr):Prop where
 w:Qy R.many R.n R.wl
 m1:1<=R.many
 m8:R.many<=8
 n1:1<=R.n
 IK:R.n<=10
 b1:R.b<=1000
 c1:R.c<=1000
 hl:R.hk.9=R.wl.9
 l1:R.wl.9<=40
 bh:oY R.bw R.n R.b
 hw:∀w∈R.bw,1<=w.9/\w.9<=900
 bl:R.bw.9<=1000
 gl:R.g.9<=10
structure k9(K:À)(C CB CP:Addr)(H:Hp)(x:Addr)(R:Wr):Prop where
 ex:∃dx p xb a l dp wa wb wc wz ys,H x=ρ (.ins C dx (ph p xb R.many (R.n:Int) a l R.o.1 (R.o.2:Int)))/\H p=ρ (.ins CP dp (uJ wa wb wc wz))/\aL K H wb ys/\ys.9=R.c/\bQ K H (lG R.wl) (.ref l)/\aL K H a (R.hk.map V.str)/\aE CB H xb R.g R.bw R.ss R.ls
 ok:NK R
theorem k9.same{C CB g:Addr}{H H':Hp}{x:Addr}{R:Wr}(h:k9 K C CB g H x R)(s:a7 H H'):k9 K C CB g H' x R:=by
 let{{b,p,c,a,l,dp,d,e,f,i,j,k,m,n,o,q,r,t},u}:=h
 exact{{b,p,c,a,l,dp,d,e,f,i,j,s _ _ k,s _ _ m,s.seq n,o,bQ.same s _ _ q,s.seq r,t.same s},u}
inductive CK(K:À)(C CB CP:Addr)(u:Wr->V)(vs:List V)(H:Hp)(Q:VK)(d8:XK):Prop
 |mk (x R) (_:vs=[.ref x]) (_:k9 K C CB CP H x R) (_:Q (u R) H)
theorem gA(L:Lk K mg):aI P w K mg base cz 1 L.lU L.mi ["self"] (CK K L.ao L.au L.aP (λR=>.int (R.c:Int))):=by
 have T:=L.T;refine L.fF.F.d2 (N:=["self"]) (λd A outer s H r Q E nd t h=>?_)
 let{x,R,rfl,{{e,p,u,a,l,dp,f,b,g,i,j,m,n,o,q,_},_},k}:=h
 refine{_,(a8 (aj (A4 T.len (aM (aM (0) rfl) rfl)))),?_}
 ac_rfl
 refine{1,x,L.ao,e,_,1,m,L.aq.cl,L.aq.pk,yZ ..,p,L.aP,dp,_,1,n,L.d5.cl,L.d5.zX,yM f b g i,b,j,rfl,.inl o,?_};rw[q];exact k
theorem mG(L:Lk K mg):aI P w K mg base cz 1 L.nF L.nP ["self"] (CK K L.ao L.au L.aP (λR=>.str R.o.1)):=by
 refine L.iX.F.d2 (N:=["self"]) (λb A outer s H e Q E nd f h=>?_)
 let{x,R,rfl,{{c,p,g,a,l,dp,i,j,m,n,q,d,_},_},k}:=h
 refine{_,(a8 (aj (aM (0) rfl))),?_}
 ac_rfl
 exact{1,x,L.ao,c,_,1,d,L.aq.cl,L.aq.ri,nu ..,k}
theorem tm(L:Lk K mg):aI P w K mg base cz 1 L.lV L.mj ["self"] (CK K L.ao L.au L.aP (λR=>.int (R.wl.9:Int))):=by
 have T:=L.T;refine L.mz.F.d2 (N:=["self"]) (λb A outer s H f Q E nd g h=>?_)
 let{x,R,rfl,{{c,p,i,a,l,dp,j,m,n,o,q,d,_,_,_,_,e,_},ok},k}:=h
 refine{_,(a8 (aj (A4 T.len (aM (0) rfl)))),?_}
 ac_rfl
 refine{1,x,L.ao,c,_,1,d,L.aq.cl,L.aq.iB,A7 ..,a,1,.inl e,?_};rw[Á,ok.hl];exact k
inductive IL(K:À)(C CB CP:Addr)(vs:List V)(H:Hp)(Q:VK)(d8:XK):Prop
 |mk (x:Addr) (R:Wr) (d:Nat) (_:vs=[.ref x,.int (d:Int)]) (_:k9 K C CB CP H x R) (_:d<R.wl.9) (_:∀y H',a7 H H'->bQ K (aH H H') (ee (R.wl.getD d [])) y->Q y H')
theorem tq(L:Lk K mg):aI P w K mg base cz 1 L.lW L.ml ["self","desk"] (IL K L.ao L.au L.aP):=by
 refine L.mB.F.d2 (N:=["self","desk"]) (λD A outer s H Y Q E nd e h=>?_)
 let{x,R,d,rfl,{{G,p,Z,a,l,dp,wa,wb,wc,wz,ys,I,_,_,_,hl,_},ok},hd,k}:=h
 refine{_,(a8 (aj (hO rfl (az [] []) (az [] []) ⋯ (aW (bI bj (aM (0) rfl) (1) (λ_ _=>rfl))) (λ_ _ _ _ _ _=>bx) (λ_ _ _ _ _ _=>(eC (a5 (0) (aB (1)))))))),?_}
 ac_rfl
 let{l',J,M,f,g}:=id hl
 cases M;have c:=gU hd
 let{v,j,rd}:=g.at (i:=d) (d:=ee (R.wl.getD d [])) (by rw[Ê,c];rfl)
 have O:=ok.w.ln _ (ê c);have m8:=ok.m8
 let{u,S,rfl,y,b,T}:=jP rd
 have m:=b;rw[Á]at m;refine{1,x,L.ao,G,_,1,I,L.aq.cl,L.aq.fw,rN ..,1,l,J,_,1,rfl,.inl f,b5 j,u,rfl,{_,y},λlc n=>?_};refine jc (prs:=(R.wl.getD d []).map iz) (λ_=>true) (λq=>.tup [.at q.1,.at q.2]) (aU K u S) b (λi q c=>let ⟨r,U,V⟩:=T i q c;{r,U,gF.of V}) n (ak ()) (λB o=>o.seq y) (λq C X _ _ t=>t C (a7.refl _)) (λq C X c _ s3 t=>?_) (λB o r=>?_)
 .let{z,hz,rfl}:=Å.mp c
  exact{2,by show 2<=sizeLine;decide,λr e=>t _ _ (a7.upd e) (lI e z)}
 .rw[ċ.mpr (λ_ _=>rfl),Ì]at r;exact k _ B o r
inductive KJ(K:À)(C CB CP CN:Addr)(vs:List V)(H:Hp)(Q:VK)(E:XK):Prop
 |ok (x a:Addr) (R:Wr) (ts:List Nat) (_:vs=[.ref x,.ref a]) (_:k9 K C CB CP H x R) (_:H a=ρ (.lst ((nI ts).map V.int))) (_:∀t∈ts,(t:Int)<R.many) (_:ts.9<=10000) (_:∀H',a7 H H'->Q (.str (Qf R.wl R.b R.c ts)) H')
 |no (x a:Addr) (R:Wr) (q:Int) (_:vs=[.ref x,.ref a]) (_:k9 K C CB CP H x R) (_:H a=ρ (.lst [.int q])) (_:R.many<=q) (_:Ln CN (.int (0:Nat)) H E)
theorem IM{H:Hp}{x:Addr}{R:Wr}{Q:VK}{E:XK}(W:k9 K C CB j H x R)(k:∀H',a7 H H'->Q (.int (R.b:Int)) H'):HM C CB [.ref x] H Q E:=by
 let{{a,p,c,h,i,dp,l,m,o,q,r,d,_,_,_,s,_,B},ok}:=W
 exact{x,c,a,_,R.n,R.g,R.bw,R.ss,R.ls,rfl,d,uU ..,jQ ..,B,ok.n1,ok.IK,λw hw=>(ok.hw w hw).2,ok.bl,λb H' e f=>by rw[_B.oY.one f ok.bh];exact k H' e}
structure AV(K:À)(C CB CP CR:Addr)(H:Hp)(z:Addr)(R:Wr):Prop where
 ex:∃dz x a,H z=ρ (.ins CR dz (Ju x a))/\gN H a R.wl/\k9 K C CB CP H x R
theorem AV.same{C CB g CR:Addr}{H H':Hp}{z:Addr}{R:Wr}(h:AV K C CB g CR H z R)(s:a7 H H'):AV K C CB g CR H' z R:=by
 let{b,x,a,c,d,e}:=h
 exact{b,x,a,s _ _ c,d.same s,e.same s}
inductive Fy(K:À)(C CB CP:Addr)(vs:List V)(H:Hp)(Q:VK)(d8:XK):Prop
 |mk (x R) (_:vs=[.ref x]) (_:k9 K C CB CP H x R) (_:∀a H',a7 H H'->gN H' a R.wl->Q (.ref a) H')
theorem ry{R:Wr}(ok:NK R):∀k,k<=R.wl.9->(cZ R.wl k).9<=k*8
 |0,_=>à _
 |k+1,h=>by
  have a:=ry ok k ();have:=ok.w.ln _ (ê (gU (show k<R.wl.length by lia)));have:=ok.m8;rw[uR,Ò,Á]
  lia
theorem rz(L:Lk K mg):aI P w K mg base cz 2 L.km L.kz ["writer"] (Fy K L.ao L.au L.aP):=by
 have T:=L.T;refine L.kG.F.d2 (N:=["writer","steps","desk","word","end"]) (λgG A outer s H vs Q E nd m h=>?_)
 let{x,R,rfl,I,k}:=h
 refine{_,(a0 (al (i:=1) dC)
  (a0 (forA (cR rfl T.range (aB (n7 (0) L.aq.cl L.mz (tm L)))) (ay (i:=2)) (a8 (forA (aW (F6 (0) L.aq.cl L.mB (tq L) (aB (2)))) (eV rfl (aS (ay (i:=3)) (aS (ay (i:=4)) cW))) (a8 (bR (iy Ħ ő ŧ f5 (Cw (1) (3) (bM jB) ⟨rfl,rfl,rfl,rfl⟩) (aB (eC (a5 (2) (aB (4)))))))))))
  (a8 (aj (1))))),?_}
 ac_rfl
 refine λa ha=>?_;have s0:a7 H (upd H a (.dK [])):=a7.upd ha
 let{{dx,p,xb,aa,ll,dp,wa,wb,wc,wz,ys,hx,_},ok}:=id I
 have Tn:=ok.l1;have m8:=ok.m8;refine{1,x,dx,1,s0 _ _ hx,dG _ _ _ _ _ _ _ _ ∅,x,R,rfl,I.same s0,?_};refine{(R.wl.9:Int),rfl,(),(),?_};rw[ć];refine cP (lo:=0) (n:=R.wl.9) (λi σ d=>i<=R.wl.9/\dm H d a (cZ R.wl i)/\∃J f v4,σ=[ρ (.ref x),ρ (.ref a),J,f,v4]) {à _,dm.start ha,τ,τ,τ,rfl} ?_ ?_
 .rintro i σ d hi ⟨_,M,J,f,v4,rfl⟩;show cA 2 (V.int (0+(i:Int))) _ _ _;rw[Int.zero_add];refine{1,x,dx,1,M.s _ _ hx,dG _ _ _ _ _ _ _ _ ∅,1,x,R,i,rfl,I.same M.s,hi,λy t s3 r3=>?_}
  let{yb,o,rfl,hS,O}:=j9 r3
  have S:=ok.w.ln _ (ê (gU hi));have U:=ry ok i ();have u:o.9=(R.wl.getD i []).9:=by rw[O.1,Á,Á]
  have MB:=M.over s3;have X:a7 (aH d t) (lA H d t):=HR;have sO:a7 H (lA H d t):=HQ M.s;have c:=uR R.wl i;generalize lA H d t=B at MB X sO;generalize R.wl.getD i []=b at O S u c;refine{yb,rfl,{_,(dP _ _).seq hS},eG (K:=K) (a:=yb) (xs:=o.map V.ref) (λj σ G=>dm B G a (cZ R.wl i++(b.take j).map λq=>(i,q.1,q.2))/\∃f v4,σ=[ρ (.ref x),ρ (.ref a),ρ (.int (i:Int)),f,v4]) {by rw[wg7,Ů,û];exact MB,f,v4,rfl} (λj σ G _ q=>(X.trans q.1.s).seq hS) ?_ ?_}
  .rintro j y σ G Y ⟨g,f,v4,rfl⟩;have hj:j<o.9:=by have:=(Ô.mp Y).1;rwa[Á]at this
   have z:j<b.9:=();rw[Ê,È hj]at Y;cases Y;have C:(aH d t) o[j]=ρ (.tup [.str b[j].1,.int (b[j].2:Int)]):=O.2 j o[j] (nc (iz b[j])) (È hj) (by rw[Ê,Ê,È z];rfl);have e:cZ R.wl i++(b.take (j+1)).map (λq=>(i,q.1,q.2))=(cZ R.wl i++(b.take j).map λq=>(i,q.1,q.2))++[(i,b[j].1,b[j].2)]:=by rw[Ē,È z,Û,ā];rfl
   have Z:(cZ R.wl i++(b.take j).map λq=>(i,q.1,q.2)).9<=400:=by rw[Ò,Á,â];lia
   generalize b[j]=q at C e;generalize cZ R.wl i++(b.take j).map (λq=>(i,q.1,q.2))=done at g e Z;refine{o[j],1,gF.of (X.trans g.s _ _ C),rfl,_,1,_,1,rfl,?_}
   let{_,_,ZK,Y8,_}:=id g
   refine{1,a,rfl,.inl {_,.inl Y8},1,à _,λl0 KB=>?_}
   let{D,k1,k2,k3,k4}:=g.step KB q.1 i q.2
   refine{D,Ã q.1,k1,rfl,?_,λv hv=>?_,λhn=>?_}
   .have:=gf D (Ã q.1:Key) (.ref l0);exact ak ()
   .let{l,Rf,rfl,a1,a2,a3}:=k3 v hv
    refine{.inl {rfl,_,aL.of a1},2,by show 2<=sizeLine;decide,λr m=>{l,_,1,rfl,a7.upd m _ _ a1,by rw[Á];exact bY (),?_}};rw[e];exact{a3 r m,_,1}
   .let{a1,a3}:=k4 hn
    refine{.inl {rfl,_,aL.of a1},2,by show 2<=sizeLine;decide,λr m=>{l0,_,1,rfl,a7.upd m _ _ a1,by show 0<sizeLine;decide,?_}};rw[e];exact{a3 r m,_,1}
  .rintro σ G ⟨g,f,v4,rfl⟩;rw[Á,u,õ,<-c]at g;exact{hi,g.back sO,_,_,1}
 .rintro σ d ⟨_,M,J,f,v4,rfl⟩;have U:=ry ok _ (Ç _);exact{1,k a d M.s (M.done ())}
inductive Fz(K:À)(C CB CP CE:Addr)(vs:List V)(H:Hp)(Q:VK)(d8:XK):Prop
 |mk (z dz x R) (_:vs=[.ref z,.ref x]) (_:H z=ρ (.ins CE dz [])) (_:k9 K C CB CP (fj H z) x R) (_:∀H',(∀c o,H c=ρ o->c≠z->H' c=ρ o)->AV K C CB CP CE H' z R->Q .non H')
theorem ie(L:Lk K mg):aI P w K mg base cz 3 L.fy L.iI ["self","writer"] (Fz K L.ao L.au L.aP L.b4):=by
 refine L.fD.F.d2 (N:=["self","writer"]) (λj A outer s H n Q E nd p h=>?_)
 let{z,b,x,R,rfl,l,g,k}:=h
 refine{_,(a0 (c7 (0) (1) rfl)
  (a8 (c7 (0) (ag (rz L) L.kG (aB (1))) rfl))),?_}
 ac_rfl
 refine{2,z,L.b4,b,[],rfl,l,L.aO.cl,L.aO.bN,(show 0<1000 by decide),?_};rw[L6];have g2:(upd H z _) z=ρ (.ins L.b4 b (D6 x)):=a6;have d:∀c o,H c=ρ o->c≠z->(upd H z (.ins L.b4 b (D6 x))) c=ρ o:=λc o e hc=>by rw[a9 hc];exact e
 generalize upd H z _=q at g2 d;refine{1,x,R,rfl,g.same (eN d),λa m f P3=>?_};refine{1,z,L.b4,b,1,f _ _ g2,L.aO.cl,L.aO.JR,(show 1<1000 by decide),?_};rw[L7];have i:∀c o,H c=ρ o->c≠z->(upd m z (.ins L.b4 b (Ju x a))) c=ρ o:=λc o e hc=>by rw[a9 hc];exact f _ _ (d c o e hc)
 exact k _ i {b,x,a,a6,P3.put (f _ _ g2) _,g.same (eN i)}
inductive KL(K:À)(C CB CP CE:Addr)(u:Wr->V)(vs:List V)(H:Hp)(Q:VK)(d8:XK):Prop
 |mk (z R) (_:vs=[.ref z]) (_:AV K C CB CP CE H z R) (_:∀H',a7 H H'->Q (u R) H')
theorem zj(L:Lk K mg):aI P w K mg base cz 6 L.rW L.sv ["band","row"] (N4 L.au):=by
 have T:=L.T;refine L.sJ.F.d2 (N:=["band","row","table","number","place","taken","sign","counts","ahead"]) (λp A outer s H z Q E nd C h=>?_)
 let{x,g,j,ss,ls,rfl,B,e,f,k}:=h
 refine{_,(a0 (bR (F6 (0) L.aJ.cl L.kK (rn L) (aB (1))))
  (a0 (al (i:=2) (ag (eP L) L.dH (a5 (0) (aB (A3 T.len (1))))))
  (a0 (al (i:=3) af)
  (a0 (al (i:=4) ai)
  (a0 (forA (vi (by rfl) T.enum (aB (1))) (eV rfl (aS (ay (i:=5)) (aS (ay (i:=6)) cW))) bK)
  (a8 (aj (3)))))))),?_}
 ac_rfl
 let{r,b,d,q,D,t,G,I,J,M,O}:=id B.ex
 refine{1,x,r,1,t,Ep _ _ _ _ ∅ ∅ ∅ ∅,1,x,g,j,ss,ls,rfl,B,λR s1=>?_};refine⟨_,rfl,_,rfl,"",rfl,ak ∅,x,0,g,j,ss,ls,rfl,B.same s1,e,f,⋯,⋯,λl S u s2 f2 hl v U=>?_⟩;refine{1,"",rfl,qV (λi σ a=>a7 u a/\∃m v6 n o,σ=[ρ (.ref x),ρ (.str ""),ρ (.ref l),ρ (.int 0),ρ (.str ""),m,v6,n,o]) {a7.refl _,τ,τ,τ,τ,rfl} ?_ ?_}
 .rintro i c σ a T hc _ _;cases hc
 .rintro σ a ⟨y,m,v6,n,o,rfl⟩;exact{1,k a (s1.trans (s2.trans y))}
inductive NM(K:À)(C CB CP CE:Addr)(vs:List V)(H:Hp)(Q:VK)(d8:XK):Prop
 |mk (z R) (_:vs=[.ref z,.int 0]) (_:AV K C CB CP CE H z R) (_:Aa R) (_:Q (.int 0) H)
theorem ig(L:Lk K mg):aI P w K mg base cz 2 L.iG L.iJ ["self","length"] (NM K L.ao L.au L.aP L.b4):=by
 have T:=L.T;refine L.fE.F.d2 (N:=["self","length","signs","words"]) (λl A outer s H t Q E nd u h=>?_)
 let{z,R,rfl,{e,x,a,f,v,W},N,k}:=h
 refine{_,(a0 (al (i:=2) (aD uo (1) (A3 T.len (n7 (aM (0) rfl) L.aq.cl L.iX (mG L)))))
  (a0 (al (i:=3) (aD uo (aD gK (2) (aM (aM (0) rfl) rfl)) (n7 (aM (0) rfl) L.aq.cl L.fF (gA L))))
  (a0 (aQ (PW.pt (cH (b8 kZ (aD eB (2) (aM (aM (0) rfl) rfl)) af) (dg (b8 kg (3) af)))) bK aw)
  (a8 (aj (3)))))),?_}
 ac_rfl
 let{{g,p,y,B,C,dp,D,G,I,J,M,j,_},ok}:=id W
 have n1:=ok.n1;have IK:=ok.IK;have m:R.o.1="":=by delta Wr.o;rw[N.b];rfl
 have d:=gO x a;refine{2,z,L.b4,e,_,1,f,L.aO.cl,L.aO.bN,d,x,g,1,j,dG _ _ _ _ _ _ _ _ ∅,x,R,rfl,W,?_};rw[m];refine{"",rfl,ak ∅,_,1,rfl,?_};show cA 2 (V.int (0-0)) _ _ _;refine{2,z,L.b4,e,_,1,f,L.aO.cl,L.aO.bN,d,x,L.ao,g,_,1,j,L.aq.cl,L.aq.uZ,jQ ..,_,1,rfl,{(),()},?_};refine{1,z,L.b4,e,_,1,f,L.aO.cl,L.aO.bN,d,x,g,1,j,dG _ _ _ _ _ _ _ _ ∅,x,R,rfl,W,?_};rw[N.c];refine{_,1,rfl,?_};have q:(0-0:Int)/(R.n:Int)-((0:Nat):Int)=0:=by simp
 have r:(0-0:Int)%(R.n:Int)=0:=by simp
 show cA 3 (V.int ((0-0:Int)/(R.n:Int)-((0:Nat):Int))) _ _ _;rw[q];refine{2,z,L.b4,e,_,1,f,L.aO.cl,L.aO.bN,d,x,L.ao,g,_,1,j,L.aq.cl,L.aq.uZ,jQ ..,_,1,rfl,by show 0<(R.n:Int);lia,rfl,false,?_,aA {1,_,1,rfl,false,rfl,aA {_,rfl,k}}};rw[r];rfl
inductive NN(K:À)(C CB CP CE:Addr)(vs:List V)(H:Hp)(Q:VK)(d8:XK):Prop
 |mk (z R) (_:vs=[.ref z,.str ""]) (_:AV K C CB CP CE H z R) (_:Aa R) (_:∀l H',a7 H H'->H' l=ρ (.lst [])->Q (.ref l) H')
inductive NP(K:À)(C CB CP CE CN:Addr)(vs:List V)(H:Hp)(Q:VK)(E:XK):Prop
 |mk (z R) (_:vs=[.ref z,.int 0,.int 0]) (_:AV K C CB CP CE H z R) (_:Aa R) (_:∀H',a7 H H'->E (.ref CN) τ H')
theorem ql(L:Lk K mg):aI P w K mg base cz 6 L.jh L.jq ["self","signs","barred"] (Np K L.aK L.au):=by
 refine L.jt.F.d2 (N:=["self","signs","barred"]) (λB A outer s H R Q E nd C h=>?_)
 let{x,t,a,v,S,g,D,rfl,l,G,I,m,p,k}:=h
 refine{_,(a0 (c7 (0) (mJ L.Kv (rx L) (C.mono ⋯) rfl L.Nx L.kJ.b .nil ni (a5 (1) (aB (2)))) rfl)
  (a0 (c7 (0) cm rfl)
  (a8 (aj ai)))),?_}
 ac_rfl
 refine{2,λi f d j u=>?_};have y:a7 H (upd (upd H f (.own i)) i (.ins L.au f [])):=dU d j;refine{i,f,g,a,D,rfl,a6,y.seq G,I,m,p,λss ls J M q=>{rfl,?_}};have s1:a7 H J:=λb o e=>q b o (y _ _ e) (ae e d);have r:i≠x:=λz=>by rw[z,l]at d;cases d
 have O:=AU M (s1 _ _ l) r;refine{1,x,L.aK,t,1,s1 _ _ l,L.aN.cl,L.aN.eW,(show 2<1000 by decide),?_};rw[PN];refine{1,x,L.aK,t,1,a6,L.aN.cl,L.aN.bN,(show 2<1000 by decide),?_};rw[Li];refine k i ss ls _ (λc o e n=>by rw[a9 n,a9 n];exact s1 _ _ e) a6 ?_;rw[yN,yN];exact O
theorem ym{C x:Addr}{v u:V}{H H':Hp}(h:EI C x v u H)(s:a7 H H'):EI C x v u H':=by
 let{g,a,ss,ls,B,b,c,d,e,hn}:=h
 exact{g,a,ss,ls,B.same s,b,c,d.same s,e.same s,hn}
theorem TN{g:Str}(j:2<=g.9)(l:g.9<=4):NK (uX g):=by
 have F:hF g 2 2 [] [""] [""] [] [0] [""] [1] [dF g]:=.mk j l;exact{F.Vd,(show (1:Int)<=2 by decide),(show (2:Int)<=8 by decide),(show 1<=2 by decide),(show 2<=10 by decide),(show 0<=1000 by decide),(show 0<=1000 by decide),rfl,(show 1<=40 by decide),⟨(show 0<=1000 by decide),0,{(λw h=>nomatch h),.inl ⟨rfl,rfl⟩},(show (0:Int)=((if (0:Int)>0-1 then 0 else 0-1)+2-1)/2 by decide)⟩,(λw h=>nomatch h),(show 0<=1000 by decide),by show g.9<=10;omega}
inductive NQ(K:À)(C CB CW CP CR:Addr)(vs:List V)(H:Hp)(Q:VK)(E:XK):Prop
 |ok (x dx xb:Addr) (w:V) (g:Str) (ss ls:List Str) (_:vs=[.ref x,.int 2,.int 2]) (_:H x=ρ (eD C dx (.ref xb) w)) (_:aE CB (fj H x) xb g [] ss ls) (_:eI g) (_:∀(xw:Addr) (H':Hp),(∀c o,H c=ρ o->c≠x->H' c=ρ o)->H' x=ρ (eD C dx (.ref xb) (.ref xw))->k9 K CW CB CP (fj H' x) xw (uX g)->Q (.str "ok") H')
 |no (x dx xb:Addr) (w v u:V) (_:vs=[.ref x,v,u]) (_:H x=ρ (eD C dx (.ref xb) w)) (_:EI CB xb v u H) (_:∀H',a7 H H'->E (.ref CR) τ H')
inductive IP(K:À)(C CB CP CN CD:Addr)(vs:List V)(H:Hp)(Q:VK)(E:XK):Prop
 |wr (x a:Addr) (R:Wr) (os:List Str) (ts:List Nat) (_:vs=[.ref x,.str "write",.ref a]) (_:aL K H a (os.map V.str)) (_:k9 K C CB CP H x R) (_:os.map intText?=(nI ts).map ρ) (_:∀w∈os,w.9<=600) (_:os.9<=1000) (_:∀t∈ts,(t:Int)<R.many) (_:∀H',a7 H H'->Q (.str (Qf R.wl R.b R.c ts)) H')
 |wno (x a:Addr) (R:Wr) (w:Str) (q:Int) (_:vs=[.ref x,.str "write",.ref a]) (_:aL K H a [.str w]) (_:k9 K C CB CP H x R) (_:intText? w=ρ q) (_:w.9<=600) (_:R.many<=q) (_:Ln CD (.int (0:Nat)) H E)
 |rd (x a:Addr) (R:Wr) (_:vs=[.ref x,.str "read",.ref a]) (_:aL K H a [.str ""]) (_:k9 K C CB CP H x R) (_:Aa R) (_:∀H',a7 H H'->Q (.str "none") H')
 |tc (x a:Addr) (R:Wr) (w u:Str) (_:vs=[.ref x,.str "touched",.ref a]) (_:aL K H a [.str w,.str u]) (_:intText? w=ρ 0) (_:intText? u=ρ 0) (_:w.9<=600) (_:u.9<=600) (_:k9 K C CB CP H x R) (_:Aa R) (_:∀H',a7 H H'->E (.ref CN) τ H')
inductive Ls(K:À)(CD CB CW CP CF TQ TR CN TU CR:Addr)(H:Hp)(Q:VK)(E:XK)(x dx:Addr)(v wv:V)(f:Str)(os:List Str):Prop
 |nof (_:cq f os=false) (_:∀H',a7 H H'->E (.ref CF) τ H')
 |nob (_:cq f os=true) (_:¬f="band") (_:v=.non) (_:∀H',a7 H H'->E (.ref TQ) τ H')
 |band (g:Str) (ws:List Str) (_:f="band") (_:os=g::ws) (_:eI g) (_:ws.9<=6) (_:∀w∈ws,fh g w) (_:∀(xb:Addr) (ss ls:List Str) (H':Hp),(∀c o,H c=ρ o->c≠x->H' c=ρ o)->H' x=ρ (eD CD dx (.ref xb) .non)->aE CB (fj H' x) xb g ws ss ls->Q (.str "ok") H')
 |ask (xb:Addr) (_:v=.ref xb) (_:cq f os=true) (_:f="count"\/f="row"\/f="number") (_:∀a H',a7 H H'->aL K H' a (os.map V.str)->HN K CB CN [.ref xb,.str f,.ref a] H' Q E)
 |rno (xb:Addr) (w u:Str) (m n:Int) (_:v=.ref xb) (_:f="rate") (_:os=[w,u]) (_:cq f os=true) (_:intText? w=ρ m) (_:intText? u=ρ n) (_:EI CB xb (.int m) (.int n) H) (_:∀H',a7 H H'->E (.ref CR) τ H')
 |rok (xb:Addr) (w u g:Str) (ss ls:List Str) (_:v=.ref xb) (_:f="rate") (_:os=[w,u]) (_:cq f os=true) (_:intText? w=ρ 2) (_:intText? u=ρ 2) (_:aE CB (fj H x) xb g [] ss ls) (_:eI g) (_:∀(xw:Addr) (H':Hp),(∀c o,H c=ρ o->c≠x->H' c=ρ o)->H' x=ρ (eD CD dx (.ref xb) (.ref xw))->k9 K CW CB CP (fj H' x) xw (uX g)->Q (.str "ok") H')
 |now (xb:Addr) (_:v=.ref xb) (_:wv=.non) (_:cq f os=true) (_:f="write"\/f="read"\/f="touched") (_:∀H',a7 H H'->E (.ref TR) τ H')
 |wr (xb xw:Addr) (_:v=.ref xb) (_:wv=.ref xw) (_:cq f os=true) (_:f="write"\/f="read"\/f="touched") (_:∀a H',a7 H H'->aL K H' a (os.map V.str)->IP K CW CB CP CN TU [.ref xw,.str f,.ref a] H' Q E)
inductive CL(K:À)(CD CB CW CP CF TQ TR CN TU CR:Addr)(vs:List V)(H:Hp)(Q:VK)(E:XK):Prop
 |mk (x dx v wv r f os) (_:vs=[.ref x,.str r]) (_:H x=ρ (eD CD dx v wv)) (_:r=Ó SP (f::os)) (_:∀p∈f::os,32∉ch p) (_:r.9<=1000) (_:os.9<=900) (_:∀w∈os,w.9<=600) (_:f="band"\/os.all xU=true) (_:Ls K CD CB CW CP CF TQ TR CN TU CR H Q E x dx v wv f os)
set_option genInjectivity true in
inductive jw(L:Lk K mg)(H:Hp)(x:Addr)(g:Str)(bw:List Str):Int->Prop
 |s0 (dx:Addr) (_:H x=ρ (eD L.aK dx .non .non)):jw L H x g bw 0
 |s1 (dx xb:Addr) (ss ls:List Str) (_:H x=ρ (eD L.aK dx (.ref xb) .non)) (_:aE L.au (fj H x) xb g bw ss ls) (_:eI g) (_:bw.9<=6) (_:∀w∈bw,fh g w):jw L H x g bw 1
 |s2 (dx xb xw:Addr) (ss ls:List Str) (_:H x=ρ (eD L.aK dx (.ref xb) (.ref xw))) (_:aE L.au (fj H x) xb g bw ss ls) (_:eI g) (_:bw=[]) (_:k9 K L.ao L.au L.aP (fj H x) xw (uX g)):jw L H x g bw 2
theorem jw.same{L:Lk K mg}{H H':Hp}{x:Addr}{g:Str}{bw:List Str}{st:Int}(h:jw L H x g bw st)(s:a7 H H'):jw L H' x g bw st:=by
 cases h with
 |s0 d h=>exact .s0 d (s _ _ h)
 |s1 d e ss ls h B a b c=>exact .s1 d e ss ls (s _ _ h) (B.same (lJ s)) a b c
 |s2 d e f ss ls h B a b c=>exact .s2 d e f ss ls (s _ _ h) (B.same (lJ s)) a b (c.same (lJ s))
theorem jw.IQ{L:Lk K mg}{H:Hp}{x:Addr}{g:Str}{bw:List Str}{st:Int}(h:jw L H x g bw st):∃j v l,H x=ρ (eD L.aK j v l):=by
 cases h with
 |s0 j h=>exact{_,_,_,h}
 |s1 j d ss ls h B a b c=>exact{_,_,_,h}
 |s2 j d e ss ls h B a b c=>exact{_,_,_,h}
abbrev kR(L:Lk K mg):Sp:=CL K L.aK L.au L.ao L.aP L.dM L.dN L.cy L.bC L.aT L.cj
theorem gE{L:Lk K mg}{H:Hp}{x g:Addr}{v j:V}{f:Str}{os:List Str}{Q:VK}{E:XK}(l:H x=ρ (eD L.aK g v j))(b7:EK (f::os)=true)(S:Ls K L.aK L.au L.ao L.aP L.dM L.dN L.cy L.bC L.aT L.cj H Q E x g v j f os):kR L [.ref x,.str (Ó SP (f::os))] H Q E:=by
 unfold EK at b7;simp only[ś,í,decide_eq_true_eq,wf0,weL,wh5]at b7
 let{a,b,c,d,e}:=b7
 refine{x,g,v,j,_,f,os,rfl,l,rfl,λp h hc=>?_,b,by rw[å]at c;omega,d,.inr (í.mpr e),S};have:=a p h;rw[List.contains_eq_mem,decide_eq_true hc]at this;cases this
abbrev TV(L:Lk K mg):Sp:=Im (kR L) L.aK L.aG L.aT K
theorem qm{L:Lk K mg}{H:Hp}{x g:Addr}{v j:V}{r:Str}{I:Hd}{Q:VK}{E:XK}(l:H x=ρ (eD L.aK g v j))(O:ib L (kR L) H x r I)(k:∀p J T H',a7 H H'->H' p=ρ (.tup [J,T])->ic L H' I J T->Q (.ref p) H'):TV L [.ref x,.str r] H Q E:=by
 cases O with
 |ans P h=>exact .v x g v j r P rfl l h λp t H' pt s a=>k p _ _ H' s a (.ans P t pt)
 |err C nm c e h=>exact .e x g v j r C nm rfl l h e.u λp f H' s a b=>k p _ _ H' s a (.err f C nm c e b)
 |dat h=>exact .d x g v j r "NoData" rfl l h L.dJ λp e d H' s a b hd=>k p _ _ H' s a (.dat e d b hd)
theorem NR{L:Lk K mg}{H:Hp}{x:Addr}{g:Str}{bw:List Str}{Q:VK}{E:XK}(A:jw L H x g bw 2)(k:∀H',a7 H H'->Q (.str "") H'):kR L [.ref x,.str "write"] H Q E:=by
 cases A with
 |s2 i c b ss ls h B j l R=>
  exact gE (f:="write") (os:=[]) h ∅ (.wr c b rfl rfl ∅ (.inl rfl) λa H' s d=>.wr b a (uX g) [] [] rfl d ((R.same lK).same s) rfl (λw h=>nomatch h) ⋯ (λt h=>nomatch h) λe s2=>k e (s.trans s2))
inductive IU(L:Lk K mg)(vs:List V)(H:Hp)(Q:VK)(d8:XK):Prop
 |mk (x vf vc g bw) (_:vs=[.ref x,vf,vc]) (_:jw L H x g bw 2) (_:ic L H (.ans λt=>t="none") vf vc\/ic L H (.err 4) vf vc) (_:∀H',a7 H H'->Q (.bl true) H')
theorem ic.same{L:Lk K mg}{H H':Hp}{g:Hd}{j l:V}(G:ic L H g j l)(s:a7 H H'):ic L H' g j l:=by
 cases G with
 |ans P t h=>exact .ans P t h
 |err e C nm b h a=>exact .err e C nm b h (s _ _ a)
 |dat e d a hd=>exact .dat e d (s _ _ a) (s _ _ hd)
inductive NS(L:Lk K mg)(vs:List V)(H:Hp)(Q:VK)(d8:XK):Prop
 |mk (x st n g bw) (_:vs=[.ref x,.int st,.int n]) (_:jw L H x g bw st) (_:∀H',a7 H H'->Q (.bl true) H')
theorem IV{L:Lk K mg}{H:Hp}{x l:Addr}{v t:V}{g:Str}{ws:List Str}{Q:VK}{E:XK}(C:H x=ρ (eD L.aK l v t))(j:eI g)(ul:ws.9<=6)(wd:∀w∈ws,fh g w)(k:∀H',(∀c o,H c=ρ o->c≠x->H' c=ρ o)->jw L H' x g ws 1->Q (.str "ok") H'):kR L [.ref x,.str (Ó SP ("band" :: g::ws))] H Q E:=by
 have f:=uY wd;have h:=j.hi;refine{x,l,v,t,_,"band",g::ws,rfl,C,rfl,λp a=>?_,?_,by rw[å];omega,λp a=>?_,?_,.band g ws rfl rfl j ul wd λb ss ls H' kp d B=>k H' kp (.s1 l b ss ls d B j ul wd)}
 .rcases Þ.mp a with rfl |a
  .decide+kernel
  rcases Þ.mp a with rfl |a
  .exact DC j
  .exact Ko j (wd p a)
 .rw[IJ,Í,ÿ]
  have:∀ws:List Str,(ws.map λz=>1+z.9).sum=ws.9+(ws.map (·.9)).sum:=λws=>by
   induction ws with
   |nil=>rfl
   |cons w r e=>
    simp only[Í,ÿ,å,e];omega
  rw[this];show 4+(1+g.9+_)<=1000;omega
 .rcases Þ.mp a with rfl |a
  .omega
  .have:=(wd p a).hi;omega
 .exact .inl rfl
theorem NU{L:Lk K mg}{H:Hp}{x:Addr}{g:Str}{Q:VK}{E:XK}(S:jw L H x g [] 1)(k:∀H',(∀c o,H c=ρ o->c≠x->H' c=ρ o)->jw L H' x g [] 2->Q (.str "ok") H'):kR L [.ref x,.str "rate 2 2"] H Q E:=by
 cases S with
 |s1 d a ss ls h B b ul wd=>
  refine(gE (f:="rate") (os:=["2","2"]) h ∅ (.rok a "2" "2" g ss ls rfl rfl rfl ∅ ∅ ∅ B b λi H' kp j R=>k H' kp (.s2 d a i ss ls j ?_ b rfl R)));refine B.same λc o e=>?_;have hn:c≠x:=λz=>by rw[z]at e;unfold fj at e;rw[if_pos rfl]at e;cases e
  exact fk (kp _ _ (lK _ _ e) hn) hn
end
section
variable{w:World}{K:À}{mg:Str->Option Value}{L:Lk K mg}{H:Hp}{x dx xb:Addr}{wv:V}{g:Str}{bw ss ls:List Str}
theorem AW{w u:Str}{m n:Int}(l:H x=ρ (eD L.aK dx (.ref xb) wv))(B:aE L.au H xb g bw ss ls)(j:eI g)(b7:EK ["rate",w,u]=true)(p:cq "rate" [w,u]=true)(hw:intText? w=ρ m)(r:intText? u=ρ n)(t:¬(2<=m/\m<=8/\1<=n/\n<=6)):ib L (kR L) H x (Ó SP ["rate",w,u]) (.err 5):=.err _ _ _ .rate λQ E k=>gE l b7 (.rno xb w u m n rfl rfl rfl p hw r {g,bw,ss,ls,B,by have:=j.lo;omega,by have:=j.hi;omega,.flat rfl,.flat rfl,decide_eq_false λh=>t ⟨h.1,h.2.1,h.2.2.1,h.2.2.2.1⟩} k)
theorem Lv{w:Str}{n:Nat}(j:H x=ρ (eD L.aK dx (.ref xb) wv))(B:aE L.au H xb g bw ss ls)(l:eI g)(p:ss.9<=900)(b7:EK ["count",w]=true)(r:cq "count" [w]=true)(hw:intText? w=ρ (n:Int))(hl:w.9<=600)(hn:n<=200):ib L (kR L) H x (Ó SP ["count",w]) (.ans λt=>t=æ (toString (dW g bw ss n ""))):=.ans _ λQ E k=>gE j b7 (.ask xb rfl r (.inl rfl) λa c s b=>.cnt xb a g bw ss ls w n rfl b hw hl hn (B.same s) l.hi p λd s2=>k _ _ rfl (s.trans s2))
theorem Qz(j:H x=ρ (eD L.aK dx (.ref xb) wv))(B:aE L.au H xb g bw ss ls)(l:eI g)(p:ss.9<=900):ib L (kR L) H x (Ó SP ["row","0","0"]) (.ans λt=>t=""):=.ans _ λQ E k=>gE j ∅ (.ask xb rfl ∅ (.inr (.inl rfl)) λa c s b=>.row xb a g bw ss ls "0" "0" rfl b ∅ ∅ ∅ ∅ (B.same s) l.hi p λd s2=>k _ _ rfl (s.trans s2))
theorem QA(j:H x=ρ (eD L.aK dx (.ref xb) wv))(B:aE L.au H xb g bw ss ls)(l:eI g)(p:ss.9<=900):ib L (kR L) H x (Ó SP ["number",""]) (.ans λt=>t="0"):=.ans _ λQ E k=>gE j ∅ (.ask xb rfl ∅ (.inr (.inr rfl)) λa c s b=>.num xb a g bw ss ls rfl b (B.same s) l.hi p λd s2=>k _ _ rfl (s.trans s2))
end
section
variable{K:À}{mg:Str->Option Value}{L:Lk K mg}{H:Hp}{x dx:Addr}{v wv:V}{f:Str}{os:List Str}
theorem QB(j:H x=ρ (eD L.aK dx v wv))(b7:EK (f::os)=true)(l:cq f os=false):ib L (kR L) H x (Ó SP (f::os)) (.err 0):=.err _ _ _ .form λQ E k=>gE j b7 (.nof l k)
theorem Lw(j:H x=ρ (eD L.aK dx .non wv))(b7:EK (f::os)=true)(l:cq f os=true)(p:¬f="band"):ib L (kR L) H x (Ó SP (f::os)) (.err 1):=.err _ _ _ .band λQ E k=>gE j b7 (.nob l p rfl k)
end
section
variable{w:World}{K:À}{mg:Str->Option Value}
theorem QC{L:Lk K mg}{H:Hp}{x:Addr}{g:Str}{bw:List Str}{st:Int}{Q:VK}{E:XK}(S:jw L H x g bw st)(j:¬st=0)(k:∀ss H',a7 H H'->bw.9<=6->(∀w∈bw,fh g w)->Q (.str (æ (toString (dW g bw ss 1 "")))) H'):kR L [.ref x,.str "count 1"] H Q E:=by
 obtain⟨c,a,d,ss,ls,f,B,b,ul,wd⟩:∃c a d ss ls,H x=ρ (eD L.aK c (.ref a) d)/\aE L.au H a g bw ss ls/\eI g/\bw.9<=6/\∀w∈bw,fh g w:=by
  cases S with
  |s0=>exact absurd rfl j
  |s1 c a ss ls h B b ul wd=>exact{_,_,_,_,_,h,B.same lK,b,ul,wd}
  |s2 c a i ss ls h B b e R=>
   subst e;exact{_,_,_,_,_,h,B.same lK,b,⋯,(λw h=>nomatch h)}
 have O:=Lv (w:="1") (n:=1) f B b (Cb B ul wd) ∅ ∅ ∅ ∅ ⋯
 cases O with
 |ans P h=>exact h Q E λt H' e s=>e ▸ k ss H' s ul wd
end
section
variable{K:À}{mg:Str->Option Value}{L:Lk K mg}{H:Hp}{x dx xb:Addr}{f:Str}{os:List Str}
theorem Lx(j:H x=ρ (eD L.aK dx (.ref xb) .non))(b7:EK (f::os)=true)(l:cq f os=true)(hw:f="write"\/f="read"\/f="touched"):ib L (kR L) H x (Ó SP (f::os)) (.err 2):=.err _ _ _ .writer λQ E k=>gE j b7 (.now xb rfl rfl l hw k)
end
section
variable{K:À}{mg:Str->Option Value}{L:Lk K mg}{H:Hp}{x dx xb xw:Addr}{g:Str}
theorem NV(l:H x=ρ (eD L.aK dx (.ref xb) (.ref xw)))(R:k9 K L.ao L.au L.aP H xw (uX g))(j:Nat)(p:j<16)(hc:fK.getD j 0∉[0,1,2,3,7,8]):ib L (kR L) H x (Ó SP (cx.getD j [])) (He 2 (fK.getD j 0)):=by
 match j,p,hc with
 |0,_,hc=>exact absurd ⋯ hc
 |1,_,hc=>exact absurd ⋯ hc
 |2,_,hc=>exact absurd ⋯ hc
 |3,_,hc=>exact absurd ⋯ hc
 |4,_,_=>exact .ans _ λQ E k=>gE (f:="write") (os:=[]) l ∅ (.wr xb xw rfl rfl ∅ (.inl rfl) λa c s b=>.wr xw a (uX g) [] [] rfl b (R.same s) rfl (λw h=>nomatch h) ⋯ (λt h=>nomatch h) λd s2=>k _ _ trivial (s.trans s2))
 |5,_,_=>exact .ans _ λQ E k=>gE (f:="write") (os:=["0"]) l ∅ (.wr xb xw rfl rfl ∅ (.inl rfl) λa c s b=>.wr xw a (uX g) ["0"] [0] rfl b (R.same s) ∅ ∅ ⋯ (λt h=>by rw[Ï.mp h];show ((0:Nat):Int)<2;decide) λd s2=>k _ _ trivial (s.trans s2))
 |6,_,_=>exact .ans _ λQ E k=>gE (f:="read") (os:=[""]) l ∅ (.wr xb xw rfl rfl ∅ (.inr (.inl rfl)) λa c s b=>.rd xw a (uX g) rfl b (R.same s) ⟨rfl,rfl⟩ λd s2=>k _ _ rfl (s.trans s2))
 |7,_,_=>exact .err _ _ _ .number λQ E k=>gE (f:="touched") (os:=["0","0"]) l ∅ (.wr xb xw rfl rfl ∅ (.inr (.inr rfl)) λa c s b=>.tc xw a (uX g) "0" "0" rfl b ∅ ∅ ∅ ∅ (R.same s) ⟨rfl,rfl⟩ λd s2=>k _ (s.trans s2))
 |8,_,hc=>exact absurd ⋯ hc
 |9,_,hc=>exact absurd ⋯ hc
 |10,_,hc=>exact absurd ⋯ hc
 |11,_,hc=>exact absurd ⋯ hc
 |12,_,hc=>exact absurd ⋯ hc
 |13,_,hc=>exact absurd ⋯ hc
 |14,_,hc=>exact absurd ⋯ hc
 |15,_,_=>exact .dat λQ E k=>gE (f:="write") (os:=[jI]) l ∅ (.wr xb xw rfl rfl ∅ (.inl rfl) λa c s b=>.wno xw a (uX g) jI 999999999999999999999999999999999999999999999999999999999999 rfl b (R.same s) ∅ ∅ (show (2:Int)<=999999999999999999999999999999999999999999999999999999999999 by decide+kernel) (Ac k s))
 |n+16,h,_=>exact absurd h 1.0
end
end K61
namespace PySem
section
variable{P:É}{W0:World}{B:Around}{R:ġ->Shared->Prop}{I:Addr}{fp wr:List Addr}{n:Nat}{Pr:Nat->Value->Prop}{St:Nat->Heap->Prop}
theorem wK(W:Walks P W0 B.in1 I fp wr n Pr St)(bt:Nat->Nat->Bool)(cmp:CmpOf P W0 B.in1 .Gt Pr bt)(S:Addr)(nS:S∉fp)(kw:List (Str×Value)) :
 ∀(k j:Nat) (z:Shared) (best:Value) (c:Nat),n-(j+1)=k->j+1<=n->St (j+1) z.heap->Pr (argBest bt j) best->z.heap.get? S=ρ {cls:=.type "list",dict:=τ,data:=.seq #[best,best] c,slots:=#[]} ->
 (∀v h' tk,Pr (argBest bt (n-1)) v->(∀b o,b∉wr->b≠S->z.heap.get? b=ρ o->h'.get? b=ρ o)->R (.ok (.ret v)) {z with heap:=h',toks:=tk}) ->
 codeAny (model P W0) B (.builtin "max.loop" {[.ref I,.none,.ref S],kw}) R z:=by
 have Ro:S∉wr:=λh=>nS (W.sub _ h);have nm:(toString "max"++toString ".loop":String)="max.loop":=⋯;intro k
 induction k with
 |zero=>
  intro j z best c hk hj st pb gS fin;have last:j+1=n:=1.0;refine Ķ weg ?_;rw[Ŋ ŀ _];show wpAny _ B.in1 (Ū (.ref S) >>= _) _ _ z;refine Â (ů gS rfl ?_);show wpAny _ B.in1 (tryCatch (pyNext (.ref I)) _ >>= _) _ _ z;refine Â (ħ (W.done z _ _ (last ▸ st) λh' tk kp=>?_));have Ly:=kp S _ Ro gS;show wpAny _ B.in1 (wgR S (λ_=>#[]) >>= _) _ _ _;refine Â (χ Ly rfl (Â (ŝ (Ë ?_))));exact fin best _ tk (by rw[<-last];exact pb) λb o h1 h2 e=>(þ _ _ (Ü h2)).trans (kp b o h1 e)
 |succ k ih=>
  intro j z best c hk hj st pb gS fin;have more:j+1<n:=1.0;refine Ķ weg ?_;rw[Ŋ ŀ _];show wpAny _ B.in1 (Ū (.ref S) >>= _) _ _ z;refine Â (ů gS rfl ?_);show wpAny _ B.in1 (tryCatch (pyNext (.ref I)) _ >>= _) _ _ z;refine Â (ħ (W.item (j+1) z _ _ more st λv h' tk hP Lz kp=>?_));have Ly:=kp S _ Ro gS;show wpAny _ B.in1 (tryCatch (holding [v,v] (richCompare .Gt v best >>= _)) _ >>= _) _ _ _;refine Â (ħ (Ą (Â (cmp (j+1) (argBest bt j) v best _ _ _ hP pb ?_))));refine Â (Ą (Ń (Â (ŝ (Ë ?_)))))
  cases hb:bt (j+1) (argBest bt j) with
  |true=>
   simp only[if_true];refine Â (χ Ly rfl (Â (ŝ ?_)));rw[nm];refine Ë {Ľ ŀ _,ih (j+1) _ v _ 1.0 more (W.frame _ _ _ Lz λb TX o e=>?_) (by simp only[argBest,hb,if_true];exact hP) (ō _ Ly rfl) λv' h2 O5 QD QE=>?_}
   .exact(þ _ _ (λh:S=b=>nS (by rw[h];exact TX))).trans e
   .exact fin v' h2 O5 QD λb o h1 h3 e=>QE b o h1 h3 ((þ _ _ (Ü h3)).trans (kp b o h1 e))
  |false=>
   simp only[ŏ,if_false];refine Â (ŝ ?_);rw[nm];refine Ë {Ľ ŀ _,ih (j+1) _ best c 1.0 more Lz (by simp only[argBest,hb,ŏ,if_false];exact pb) Ly λv' h2 O5 QD QE=>?_};exact fin v' h2 O5 QD λb o h1 h3 e=>QE b o h1 h3 (kp b o h1 e)
theorem vY(W:Walks P W0 B.in1 I fp wr n Pr St)(bt:Nat->Nat->Bool)(cmp:CmpOf P W0 B.in1 .Gt Pr bt)(S:Addr)(nS:S∉fp)(kw:List (Str×Value))(pos:0<n)(st:St 0 z.heap)(gS:z.heap.get? S=ρ {cls:=.type "list",dict:=τ,data:=.seq #[] c,slots:=#[]})
 (fin:∀v h' tk,Pr (argBest bt (n-1)) v->(∀b o,b∉wr->b≠S->z.heap.get? b=ρ o->h'.get? b=ρ o)->R (.ok (.ret v)) {z with heap:=h',toks:=tk}):codeAny (model P W0) B (.builtin "max.loop" {[.ref I,.none,.ref S],kw}) R z:=by
 have Ro:S∉wr:=λh=>nS (W.sub _ h);have nm:(toString "max"++toString ".loop":String)="max.loop":=⋯;refine Ķ weg ?_;rw[Ŋ ŀ _];show wpAny _ B.in1 (Ū (.ref S) >>= _) _ _ z;refine Â (ů gS rfl ?_);show wpAny _ B.in1 (tryCatch (pyNext (.ref I)) _ >>= _) _ _ z;refine Â (ħ (W.item 0 z _ _ pos st λv h' tk hP Lz kp=>?_));have Ly:=kp S _ Ro gS;show wpAny _ B.in1 (wgR S (λ_=>#[v,v]) >>= _) _ _ _;refine Â (χ Ly rfl ?_);rw[nm];refine Ë {Ľ ŀ _,wK W bt cmp S nS kw _ 0 _ v _ rfl pos (W.frame _ _ _ Lz λb TX o e=>?_) hP (ō _ Ly rfl) λv' h2 O5 QD QE=>?_}
 .exact(þ _ _ (λh:S=b=>nS (by rw[h];exact TX))).trans e
 .exact fin v' h2 O5 QD λb o h1 h3 e=>QE b o h1 h3 ((þ _ _ (Ü h3)).trans (kp b o h1 e))
theorem wL(W:Walks P W0 B.in1 I fp wr n Pr St)(S:Addr)(nS:S∉fp)(dv:Value)(QF:n=0)(st:St 0 z.heap)(gS:z.heap.get? S=ρ {cls:=.type "list",dict:=τ,data:=.seq #[] c,slots:=#[]})
 (fin:∀h' tk,(∀b o,b∉wr->b≠S->z.heap.get? b=ρ o->h'.get? b=ρ o)->R (.ok (.ret dv)) {z with heap:=h',toks:=tk}):codeAny (model P W0) B (.builtin "max.loop" {[.ref I,.none,.ref S],[(æ "default",dv)]}) R z:=by
 refine Ķ weg ?_;rw[Ŋ ŀ _];show wpAny _ B.in1 (Ū (.ref S) >>= _) _ _ z;refine Â (ů gS rfl ?_);show wpAny _ B.in1 (tryCatch (pyNext (.ref I)) _ >>= _) _ _ z;refine Â (ħ (W.done z _ _ (QF ▸ st) λh' tk kp=>?_));have done:=fin h' tk λb o h1 _ e=>kp b o h1 e
 wp_walk
 exact done
theorem wM(a v:Value):argsOk "max" {[a],[(æ "default",v)]}:=by unfold argsOk;kernel_rfl
end
section
variable{P:É}{W0:World}{B:Around}{E:Value->Shared->Prop}{z:Shared}
theorem wN{Q:Value->Shared->Prop}(hh:B.handled=τ)(il:z.heap.IsList l (intItems xs))
 (he:xs.size=0->∀h' tk,(∀b o,z.heap.get? b=ρ o->h'.get? b=ρ o)->Q dv {z with heap:=h',toks:=tk})
 (hn:0<xs.size->∀v h' tk,(intItems xs)[argBest (λi j=>decide (numAt xs i>numAt xs j)) (xs.size-1)]?=ρ v->(∀b o,z.heap.get? b=ρ o->h'.get? b=ρ o)->Q v {z with heap:=h',toks:=tk}) :
 wpAny (model P W0) B (call (.builtin "max") [.ref l] [(æ "default",dv)]) Q E z:=by
 have nm:(toString "max"++toString ".loop":String)="max.loop":=⋯;refine whA F.kind_max F.plain_max F.entry_max (wM _ _) ?_;show wpAny _ B.in1 (wcC "max" ["key","default"] 0 {[],[(æ "default",dv)]} >>= _) _ _ z;refine Â (wpAny_of_eq (show wcC "max" ["key","default"] 0 {[],[(æ "default",dv)]}=pure [τ,ρ dv] from rfl) ?_);refine Â (Ë (Â (iter_intList il λs₂ e st Y9 Qa=>?_)));subst e;refine Â (we5 ?_);rw[nm];have W:=wfd (prog:=P) (w:=W0) (A:=B.in1) hh z.heap.objs.size l Qa (intItems xs);have nS:(z.heap.push {cls:=.type "list_iterator",data:=.fields #[.ref l,.int 0 0]}).objs.size∉[z.8,l]:=λhm=>ò _ (Y9 _ hm)
 have keep:∀{h':Heap},(∀b o,b∉[z.8]->b≠(z.heap.push {cls:=.type "list_iterator",data:=.fields #[.ref l,.int 0 0]}).7->((z.heap.push {cls:=.type "list_iterator",data:=.fields #[.ref l,.int 0 0]}).push {cls:=.type "list",data:=.seq #[]}).get? b=ρ o->h'.get? b=ρ o)->∀b o,z.heap.get? b=ρ o->h'.get? b=ρ o:=λ{h'} hk b o e=>by
  have lt:=Æ e;refine hk b o (λhm=>?_) (λh=>?_) (Ð _ (Ð _ e))
  .rw[Ï.mp hm]at lt;exact ò _ lt
  .rw[ň]at h;rw[h]at lt;exact absurd (show z.8+1<z.heap.objs.size from lt) ()
 by_cases h0:xs.size=0
 .refine Ë {Ľ ŀ _,wL W _ nS dv (by simp[intItems,h0]) (W.frame _ _ _ st λb _ o e=>Ð _ e) (ç _ rfl) λh' tk hk=>?_};exact he h0 h' tk (keep hk)
 .refine Ë {Ľ ŀ _,vY W _ (CmpOf.ints_gt (numAt xs) (λ_ _=>intItems_at)) _ nS _ (by simp[intItems];lia) (W.frame _ _ _ st λb _ o e=>Ð _ e) (ç _ rfl) λv h' tk hP hk=>?_};exact hn () v h' tk (by simpa [intItems] using hP) (keep hk)
end
end PySem
namespace Ve
open PyProof.Rows PySem.W PySem.Calls
theorem tu:∀(ns:List Int) (vs:List Value),WellAll P h vs (ns.map WData.int)->IntsAre vs ns:=by
 intro ns
 induction ns with
 |nil=>
  intro vs w;rw[Ů]at w;cases w;exact .nil
 |cons n ns c=>
  intro vs w;rw[Í]at w
  cases w with
  |cons a b=>
   cases a;exact .cons _ _ (c _ b)
theorem FA{l:η}{n:Nat}(hn:l.most=ρ n){P:Params}{h:Heap}{args:List WData}{g:List Value}
 (j:l.row.toRowW.claim.pre args=true) (p:WellAll P h g args) :
 ∃a vs ns,g=[Ä a]/\args=[WData.list (ns.map WData.int)]/\h.get? a=ρ {cls:=.type "list",data:=.seq vs.6}/\IntsAre vs ns/\ns.9<=n:=by
 have i:WShape.hasAll [] args [.list .int]=true:=(pre_splitW j).1;have hc:l.pre.holds [] {args:=args}=true:=(pre_splitW j).2
 let{d,r,rfl,k,m}:=hasAllW_cons i
 obtain rfl:=hasAllW_nil m
 let{w,rfl,o}:=hasW_list k
 let{ns,rfl}:=items_int o
 have b:ns.9<=n:=by
  unfold OpenLaw.pre at hc
  have e:(WTm.not (.lt (.lit (.int (n:Int))) (.len (.arg 0)))).holds [] {args:=[.list (ns.map .int)]}=true:=by
   have e:=(holds_andW hc).1;rw[hn]at e;exact e
  have f:=condW_of e (w_not (w_lt w_lit (w_len_list (w_arg rfl))));rw[Á]at f;refine wfs λq=>?_;have s:(n:Int)<((ns.9:Nat):Int):=1.0
  first
   |(rw[decide_eq_true s]at f;exact absurd f ⋯)
   |(simp at f;omega)
 cases p with
 |cons t u=>
  cases u
  cases t with
  |list v c=>exact{_,_,ns,rfl,rfl,v,tu ns _ c,b}
theorem FC(l:η)(args:List WData):l.row.toRowW.claim.post args (.bool true) args=true:=
 postW_of (r:=l.row.toRowW) (X:=(true==true))
  (show WShape.has [] (.bool true) .bool=true by first |rfl |decide |simp[WShape.has,WShape.arms,WShape.armsAll])
  (show (WTm.eq .res (.lit (.bool true))).value [] {args:=args,res:=ρ (.bool true),after:=args}=ρ (.bool (true==true)) from w_eq_bool (w_res rfl) w_lit) rfl
theorem AX{l:η}{n:Nat}{q:É}{loose:List Str}{XP:(Str->Option Value)->Heap->Prop}{YP:World->Heap->Prop}{d:DefRec}
 (hn:l.most=ρ n) (p:d.params.defaults=[])
 (call:∀(w:World) (s₀ g:Shared) (mg t:Str->Option Value) (fa:Addr) (o:Obj) (pm cd j:Value) (a:Addr) (vs:List Value) (ns:List Int),
   Ground q loose [] XP w s₀ mg t g.heap->YP w g.heap ->
   g.heap.get? fa=ρ o->o.data=.func (docDef d.name d.params d.body d.scope pm cd j)->g.heap.CodeRec cd d.name->mg d.name=ρ (.ref fa) ->
   g.heap.get? a=ρ {cls:=.type "list",data:=.seq vs.6}->IntsAre vs ns->ns.9<=n->g.gens=#[] ->
   codeAny (model l.prog w) callerA (.call (.ref fa) {[.ref a],[]}) (λr s'=>r=.ok (.ret (.bool true))/\OldK g.heap s'.heap/\s'.os=g.os/\AllBare s'.gens) g) :
 whn q loose XP YP l.row.toRowW d [] (λf vs=>whz f vs):=by
 intro w s₀ g mg t G Y fa o pm cd j x kV y hd i s k z args u as c v A m B;obtain rfl:x=.none:=Dflts.none s p;obtain rfl:kV=.none:=Dflts.noKw s
 let{a,vs,ns,rfl,rfl,e,b,h}:=FA hn c m
 refine enter_call (Ĵ (call w s₀ g mg t fa o pm cd j a vs ns G Y y (fd_plain hd) i k e b h z) λr s' C=>?_)
 let{rfl,D,E,H}:=C
 exact{.inl {.bool true,.bool true,[],rfl,λ_=>rfl,.bool true,FC l _,λ_=>{List.Pairwise.nil,λ_ I=>(nomatch I)}},D,E,H}
end Ve
namespace _B
open PyProof.Rows
theorem NW{i:Int}(g:0<=i)(h:i<2^1000):i.natAbs.log2<1920:=by
 by_cases z:i.natAbs=0
 .rw[z];decide
 .refine(Nat.log2_lt z).mpr (Ö (m:=2^1000) ?_ (weC ⋯ ⋯));have:(i.natAbs:Int)<((2^1000:Nat):Int):=by rw[ŋ];simpa [Int.natAbs_of_nonneg g] using h
  exact Int.ofNat_lt.mp this
theorem zk{g:Str}{ws ss:List Str}(h:g.9<=4):∀(n:Nat) (p:Str),dW g ws ss n p<=4^n
 |0,_=>Ţ _
 |n+1,p=>by
  show ((d1 g ws ss p).map (dW g ws ss n)).sum<=_;have d:=yI (l:=d1 g ws ss p) (a:=dW g ws ss n) (b:=λ_=>(4:Int)^n) λq _=>zk h n q
  have e:∀l:List Str,(l.map λ_=>(4:Int)^n).sum=(l.9:Int)*4^n:=by
   intro l
   induction l with
   |nil=>simp
   |cons x l f=>rw[Í,ÿ,f,å,wez,Int.add_mul];lia
  rw[e]at d
  have i:((d1 g ws ss p).9:Int)<=4:=by
   delta d1;have:=wcU (λc=>if bears ws (p++{#[c]})=true then τ else ρ (lend ss (p++{#[c]}))) (ch g);rw[aR]at this
   lia
  have j:0<=(4:Int)^n:=Int.pow_nonneg ⋯;have k:=Int.mul_le_mul_of_nonneg_right i j;rw[ť]
  lia
theorem DM{g:Str}{ws ss:List Str}(h:g.9<=4){n:Nat}(hn:n<=200):(dW g ws ss n "").natAbs.log2<1920:=by
 refine NW (MX n "") (wgS (zk h n "") ?_)
 have b:(4:Int)^n<=4^200:=by
  have:=weC (n:=4) ⋯ hn;have a:((4^n:Nat):Int)<=((4^200:Nat):Int):=Int.ofNat_le.mpr this;rw[ŋ,ŋ]at a;exact a
 exact wgS b ∅
end _B
namespace PySem.SeqAt
open MeetsSeq
theorem wO{M:ė}{A:Around}{E:Value->Shared->Prop}{s:Shared}{Q:Bool->Shared->Prop}{id:String}{l:Addr}{ep:Nat}{dd:Option Addr}{j:Array (Option Value)}(p:(l==Ĉ)=false)
 (hl:s.heap.get? l=ρ {cls:=.type "dict",dict:=dd,data:=.dict #[] ep,slots:=j}) (h:Q true s):wpAny M A (wfR id l l) Q E s:=by
 let{a,g,d,b,os}:=s
 unfold wfR;simp only[wgy]
 wp_walk using wpAny_loadPart' hl,wpAny_load hl
 exact h
theorem wQ(l:Addr)(ep:Nat)(dd:Option Addr)(p:Array (Option Value))(j:(l==Ĉ)=false) :
 Meets (Ō.«dict.__eq__» {[.ref l,.ref l],[]}) (λ_ R s=>s.heap.get? l=ρ {cls:=.type "dict",dict:=dd,data:=.dict #[] ep,slots:=p}/\R (.ok (.ret (.bool true))) s):=
 .of_wp λprog w A R s h=>by let{a,g,d,b,os}:=s;let{hl,h}:=h;have f1:=F.sub_dict_dict;wp_walk using wO j hl,wpAny_loadPart' hl,wpAny_load hl;exact{_,rfl,h}
section
variable{A:Around}{s:Shared}
theorem RcAt.FD(g:s.heap.get? l=ρ o)(p:o.cls=.type "dict")(hd:o.data=.dict #[] ep)(j:(l==Ĉ)=false)(r:A.units<ú):RcAt A s (.ref l) (.ref l) true:=λprog w E Q h=>by
 let{cls,a,data,b}:=o
 simp only at p hd;subst p hd
 exact richCompare_meets_room (op:=.Eq) {_,g,rfl} {_,g,rfl} F.slot_dict_eq F.entry_dict_eq (F.args_dict_eq_2 _ _) (wQ l ep a b j)
  {g,show Ι true≠Value.notImplemented/\Q (.bool true) s from {(λx=>nomatch x),h}} r
end
end PySem.SeqAt
namespace _L
open PySem.Spec PyProof.Rows
section
variable{X:Cx}
theorem KM{l:η}{n k:Nat}{q:É}{loose:List Str}{XP:(Str->Option Value)->Heap->Prop}{YP:World->Heap->Prop}{d:DefRec}{K:Params->À}{CX:World->FL}{sp:World->Sp}{x:Str}
 (hn:l.most=ρ n) (p:n<=sizeLine) (r:d.params.defaults=[]) (I:cO k callerA)
 (J:∀(w:World) (h:Heap),YP w h->(K w.params).In h)
 (F:∀(w:World) (mg:Str->Option Value) (fa:Addr) (h:Heap),(K w.params).In h->h.Ns è mg->mg d.name=ρ (.ref fa) ->
   ∃fd:î,(∀(s:Shared) (u:Value),BindsTo s fd {[u],[]} [(x,u)]) /\
    ∀base:Heap,(K w.params).In base->base.Ns è mg->aI l.prog w (K w.params) mg base (CX w) k fa fd [x] (sp w))
 (t:∀(w:World) (H:Hp) (a:Addr) (ns:List Int),ns.9<=n->Only H->aL (K w.params) H a (ns.map V.int)->sp w [.ref a] H (λv _=>v=.bl true) λ_ _ _=>False)
 (C:∀(w:World) (H:Hp) (s:Shared) (e:Value) (s':Shared),CX w [] H s (λ_ _ _=>False) e s'->False) :
 whn q loose XP YP l.row.toRowW d [] (λf vs=>whz f vs):=by
 refine Ve.AX hn r λw z j mg Q fa o pm R B a vs ns G Y S hd D y m i c E=>?_;have A:=J w _ Y
 let{fd,L,M}:=F w mg fa _ A G.T.g y
 exact Gm A G.T.g G.T.b G.T.builtins G.T.nolimit E m i (Õ c p) I M L (λH N O=>t w H a ns c N O) λH e s'=>C w H j e s'
theorem IW(l:X.A.units<ú):mH X (ù .Eq) (λx y H Q=>x=y/\Thing H x/\Q (.bl true) H):=by
 intro i s σ H x y v u Q I d g h
 let{rfl,m,q}:=h
 have fin:EP X i σ Q (.bool true) s:={.bl true,H,I,rfl,q}
 cases m with
 |flat f=>
  cases x with
  |non=>cases d;cases g;exact SeqAt.RcAt.none_none _ _ _ _ fin
  |bl b=>cases d;cases g;exact SeqAt.RcAt.bool_bool b b _ _ _ _ (by simpa using fin)
  |int b=>let{t,rfl}:=d;let{k,rfl}:=g;exact SeqAt.RcAt.int_int b t b k _ _ _ _ (by simpa using fin)
  |str b=>let{t,rfl}:=d;let{k,rfl}:=g;exact SeqAt.RcAt.str_str b t b k _ _ _ _ (by simpa using fin)
  |_=>exact absurd (show false=true from f) Ý
 |@lst a n ha f=>
  cases d;cases g
  let{c,r,pl,p}:=I.list (aL.of (K:=X.K) ha)
  exact whr (e:=λ_=>true) pl.isList pl.isList rfl l (λj _ _=>wfE _) (by rw[show ((ð c.toArray.size).all λ_=>true)=true from í.mpr λ_ _=>rfl];exact fin)
 |@tup a n ha f=>
  cases d;cases g
  let{c,r,pl,p}:=I.tuple (gF.of (K:=X.K) ha)
  exact SeqAt.eq_tupleAt (e:=λ_=>true) pl pl l (λj _ _=>wfE _) (by rw[show ((ð (min c.toArray.size c.toArray.size)).all λ_=>true)=true from í.mpr λ_ _=>rfl,beq_self_eq_true];exact fin)
 |@dic a ha=>
  cases d;cases g
  let{o,D,w,z,B,C}:=NI I ha
  exact SeqAt.RcAt.FD w z B C l _ _ _ _ fin
theorem FE(hc:X.calm=true)(I:Inv X g σ H s)(l:RelV (.int d) v)(C:aL X.K H a (đ V.int ns))(J:ns=[]->Q (.int d) H)(T:∀M,M∈ns->(∀a∈ns,a<=M)->Q (.int M) H) :
 wpAny (model X.prog X.w) X.A (call (.builtin "max") [.ref a] [(æ "default",v)]) (EP X g σ Q) X.xe s:=by
 let{f,r,pl,q}:=I.list C
 let{c,e,rfl}:=o7 r
 have hl:s.heap.IsList a (intItems c.6):=by
  have:intItems c.6=f.6:=by rw[e];unfold intItems;simp
  rw[this];exact pl.isList
 refine wN (I.ok.hd hc) hl (λh i k hk=>?_) (λh u i k m hk=>?_)
 .have:c=[]:=by
   rw[ö]at h;exact List.eq_nil_of_length_eq_zero h
  subst this;exact{.int d,H,I.kept hk,l,J rfl}
 .let{t,rfl}:=intItems_at m
  let{x,n}:=argBest_gt (numAt c.6) (c.toArray.size-1)
  refine{.int _,H,I.kept hk,⟨t,rfl⟩,T _ ?_ λb o=>?_}
  .rw[numAt_eq];exact getD_mem (by rw[Á];simp only[ö]at *;omega)
  .let{j,p,rfl}:=mem_getD o
   rw[Á]at p;have:=n j (by simp only[ö]at *;omega);rw[numAt_eq]at this;exact this
end
section
variable{X:Cx}{e e2:Expr}{t:TA}{t2:TE}{p kp pos:Pos}
theorem KN(hc:X.calm=true)(j:Gl X "max")(l:X.mg "max"=τ)(ha:PA X [e] t)(hd:PE X e2 t2)(g:starEach [e] X.5=[(false,eval e X.5)]:=by rfl):PE X (.Call (.Name "max" p) [e] [{ρ "default",e2,kp}] pos) (OU X.K t t2):=by
 refine{?_};intro b s σ H Q I h;refine ĸ (iT I j l (show ì "max"=ρ (.builtin "max") from Lj) ?_ ⋯ ⋯);refine wfv (bU (ha pos b s σ H _ I h) λz s1 ⟨A,c,f,i,k⟩=>?_) (by rw[g];rfl) (by rw[g];rfl);refine wg8 (bU (hd b s1 σ c _ f k) λv s2 ⟨y,B,m,n,o⟩=>wgj ?_)
 let{a,ns,d,rfl,rfl,q,r,w}:=o
 let{u,rfl,x}:=vals1 i
 cases x;exact FE hc m n q r w
end
end _L
namespace K61
section
variable{P:É}{w:World}{K:À}{mg:Str->Option Value}{base:Heap}
theorem tD(L:Lk K mg):aI P w K mg base cz 1 L.lP L.m9 ["self"] (Ki L.au):=by
 have T:=L.T;refine L.my.F.d2 (N:=["self"]) (λo A outer s H R Q E nd S h=>?_)
 let{x,g,bw,ss,ls,rfl,B,p,e,k}:=h
 refine{_,(a8 (aj (KN rfl (by rfl) T.max (aB (c6 rfl (az [] []) (aW (aM (0) rfl)) (λ_ _ _ _ _ _=>bx) (λ_ _ _ _ _ _=>(A3 T.len (0))))) af))),?_}
 ac_rfl
 let{r,b,d,q,U,t,l,f,X,Y,Z}:=id B.ex
 refine{1,x,L.au,r,_,1,t,L.aJ.cl,L.aJ.Ad,A0 g b d q,b,rfl,{_,aL.of l},λu i=>?_};refine da (λ_=>true) (λv=>match v with |.str z=>.int (z.9:Int) |_=>.non) (aU K b _) i (ak (by rw[Á];lia)) (λH' C=>aL.of (C _ _ l)) (λy a D m c j=>j a (a7.refl _)) (λy a D m _ c j=>?_) (λa c f=>?_)
 .let{w,hw,rfl}:=Å.mp m
  exact{1,w,rfl,ak (by have:=e w hw;lia),j a (a7.refl _)}
 have G:((bw.map V.str).filter λ_=>true).map (λv=>match v with |.str z=>V.int (z.9:Int) |_=>.non)=(bw.map λw=>(w.9:Int)).map V.int:=by
  rw[ċ.mpr (λ_ _=>rfl),Ì,Ì];rfl
 rw[G]at f;refine⟨u,_,0,rfl,rfl,aL.of f,λhn=>?_,λM I J=>?_⟩
 .have n:bw=[]:=List.map_eq_nil_iff.mp hn;exact k 0 a c {(λw hw=>by rw[n]at hw;cases hw),.inl ⟨rfl,n⟩}
 .let{w,hw,rfl}:=Å.mp I
  exact k _ a c {λz O=>J _ (Å.mpr ⟨z,O,rfl⟩),.inr ⟨w,hw,rfl⟩}
theorem rA(L:Lk K mg):aI P w K mg base cz 2 L.kn L.kB ["band","wide"] (HK L.au):=by
 have T:=L.T;refine L.kH.F.d2 (N:=["band","wide","signs"]) (λj A outer s H u Q E nd v h=>?_)
 let{x,n,g,bw,ss,ls,rfl,B,n1,IK,c,e,k}:=h
 refine{_,(a0 (al (i:=2) (aF (E5 rfl) (by rfl) T.max Lj (a5 (aD uo (n7 (0) L.aJ.cl L.my (tD L)) af) (aB af))))
  (a8 (aj (aD gK (aD uo (aD eU (2) (1)) af) (1))))),?_}
 ac_rfl
 let{l,b,d,q,y,m,z,C,D,G,I}:=id B.ex
 refine{1,x,l,1,m,Ep g b d q ∅ ∅ ∅ ∅,x,g,bw,ss,ls,rfl,B,e,(λw hw=>by have:=c w hw;omega),λM o s1 f=>?_};refine{_,1,rfl,_,1,?_}
 have p:0<=M/\M<=900:=by
  rcases f.a with⟨h,_⟩ |⟨w,hw,h⟩
  .omega
  .have:=c w hw;omega
 have r:0<=((if 0>M-1 then 0 else M-1)+(n:Int)-1)/(n:Int):=whw (by split<;>omega) 1.0
 have t:((if 0>M-1 then 0 else M-1)+(n:Int)-1)/(n:Int)<=1000:=by
  refine wfu (Int.ediv_le_self _ (by split<;>omega)) (by split<;>omega)
 refine{2,_,1,rfl,_,1,rfl,1,_,1,rfl,{1.0,1.0},?_};have:=k (((if 0>M-1 then 0 else M-1)+(n:Int)-1)/(n:Int)).toNat o s1 {1.0,M,f,1.0};rwa[show ((((if 0>M-1 then 0 else M-1)+(n:Int)-1)/(n:Int)).toNat:Int)=((if 0>M-1 then 0 else M-1)+(n:Int)-1)/(n:Int) by omega]at this
theorem fZ(L:Lk K mg):aI P w K mg base cz 3 L.ko L.kC ["self"] (HM L.ao L.au):=by
 refine L.eO.F.d2 (N:=["self"]) (λe A outer s H l Q E nd m h=>?_)
 let{x,f,c,fs,n,g,bw,ss,ls,rfl,d,i,j,B,n1,IK,a,b,k}:=h
 refine{_,(a8 (aj (ag (rA L) L.kH (a5 (aM (0) rfl) (aB (aM (0) rfl)))))),?_}
 ac_rfl
 exact{1,x,L.ao,c,_,1,d,L.aq.cl,L.aq.eW,i,1,x,L.ao,c,_,1,d,L.aq.cl,L.aq.uZ,j,f,n,g,bw,ss,ls,rfl,B,n1,IK,a,b,k}
theorem ik(L:Lk K mg):aI P w K mg base cz 4 L.eh L.et ["self"] (KL K L.ao L.au L.aP L.b4 (λR=>.int ((R.b:Int)+1+(R.c:Int)))):=by
 refine L.eu.F.d2 (N:=["self"]) (λj A outer s H m Q E nd n h=>?_)
 let{z,R,rfl,{e,x,a,f,o,d},k}:=h
 refine{_,(a8 (aj (aD eU (aD eU (n7 (aM (0) rfl) L.aq.cl L.eO (fZ L)) af) (n7 (aM (0) rfl) L.aq.cl L.fF (gA L))))),?_}
 ac_rfl
 let{{g,p,q,r,t,dp,u,v,y,B,C,i,_},ok}:=id d
 refine{1,z,L.b4,e,_,1,f,L.aO.cl,L.aO.bN,gO x a,x,g,1,i,dG _ _ _ _ _ _ _ _ ∅,IM d λl s1=>?_};exact{_,1,rfl,1,z,L.b4,e,_,1,s1 _ _ f,L.aO.cl,L.aO.bN,gO x a,x,g,1,s1 _ _ i,dG _ _ _ _ _ _ _ _ ∅,x,R,rfl,d.same s1,_,1,rfl,k l s1}
theorem vZ(L:Lk K mg):aI P w K mg base cz 5 L.nB L.nL ["self","row"] (NN K L.ao L.au L.aP L.b4):=by
 have T:=L.T;refine L.nW.F.d2 (N:=["self","row","wide","signs","first","starts"]) (λV A outer s H vs Q E nd hr h=>?_)
 let{z,R,rfl,D,N,k}:=h
 refine{_,(a0 (bR (F6 (aM (aM (0) rfl) rfl) L.aJ.cl L.fV (iS L) (aB (1))))
  (a0 (al (i:=2) (aM (aM (0) rfl) rfl))
  (a0 (al (i:=3) (aD lq (n7 (0) L.aO.cl L.eu (ik L)) (2)))
  (a0 (al (i:=4) (aD uo (A3 T.len (n7 (aM (0) rfl) L.aq.cl L.iX (mG L))) (aD lq (n7 (aM (0) rfl) L.aq.cl L.eO (fZ L)) (2))))
  (a0 (fQ (i:=5) rfl (az ["first","wide"] [4,2]) nd rfl rfl (cR rfl T.range (aB (F6 (0) L.aO.cl L.fE (ig L) (aB (A3 T.len (1)))))) (λ_ _ _ _ _ _=>bx) (λ_ _ _ _ _ _=>(aD eU (1) (aD lq (0) (2)))))
  (a8 (aj (c6 rfl (az ["self","row","signs"] [0,1,3]) (aW (5)) (λ_ _ _ _ _ _=>bx) (λ_ _ _ _ _ _=>zA))))))))),?_}
 ac_rfl
 let{f,x,a,j,hP,r}:=id D
 let{{l,p,J,aa,ll,dp,wa,wb,wc,wz,ys,m,_,_,_,_,_,B},ok}:=id r
 let{t,bb,db,qb,mv,u,_}:=id B.ex
 have IK:=ok.IK;have X:R.o.1="":=by delta Wr.o;rw[N.b];rfl
 have d:=gO x a;refine{1,z,L.b4,f,_,1,j,L.aO.cl,L.aO.bN,d,x,L.ao,l,_,1,m,L.aq.cl,L.aq.eW,uU ..,J,t,1,u,Ep _ _ _ _ ∅ ∅ ∅ ∅,1,J,R.g,R.bw,R.ss,R.ls,rfl,B,λH1 s1=>?_};refine{1,z,L.b4,f,_,1,s1 _ _ j,L.aO.cl,L.aO.bN,d,x,L.ao,l,_,1,s1 _ _ m,L.aq.cl,L.aq.uZ,jQ ..,?_};refine{1,z,f,1,s1 _ _ j,cI (by show ("blocks_in_window":Str)∉[("writer":Str),"pairs"];decide+kernel),z,R,rfl,D.same s1,λH2 s2=>?_};have c:=s1.trans s2;refine{1,_,1,rfl,.inr {(),()},?_};refine{1,z,L.b4,f,_,1,c _ _ j,L.aO.cl,L.aO.bN,d,x,l,1,c _ _ m,dG _ _ _ _ _ _ _ _ ∅,x,R,rfl,r.same c,R.o.1,rfl,ak (by rw[X];decide+kernel),?_};refine{1,z,L.b4,f,_,1,c _ _ j,L.aO.cl,L.aO.bN,d,x,l,1,c _ _ m,dG _ _ _ _ _ _ _ _ ∅,IM (r.same c) λH3 Y=>?_};have e:=c.trans Y;refine{1,_,1,rfl,.inr {(),()},_,1,rfl,?_};refine{1,z,f,1,e _ _ j,cI (by show ("words_in":Str)∉[("writer":Str),"pairs"];decide+kernel),1,"",rfl,ak ∅,z,R,rfl,D.same e,N,?_};refine⟨0,rfl,⋯,⋯,λls y=>?_⟩;refine comp_map (λv=>v) (o8 0 (0:Int).toNat) y ⋯ (λ_ _=>trivial) (λv M Z C O q=>(nomatch C)) (λM O n=>?_);have n:M ls=ρ (.lst []):=n;have G:=e.trans O;refine{1,ls,rfl,{_,aL.of n},λlr I=>?_};refine comp_map (λv=>v) (aU K ls []) I ⋯ (λH' s'=>aL.of (s' _ _ n)) (λv S Z C U q=>(nomatch C)) (λS U h6=>?_);exact k lr S (G.trans U) h6
end
section
variable{w:World}{K:À}{mg:Str->Option Value}{L:Lk K mg}{H:Hp}{x dx xb:Addr}{wv:V}{g:Str}{bw ss ls:List Str}
theorem IX{w u:Str}{n:Nat}{q:Int}(p:H x=ρ (eD L.aK dx (.ref xb) wv))(B:aE L.au H xb g bw ss ls)(j:eI g)(r:ss.9<=900)(b7:EK ["row",w,u]=true)(t:cq "row" [w,u]=true)(hw:intText? w=ρ (n:Int))(C:intText? u=ρ q)(I:w.9<=600)(J:u.9<=600)(hn:n<=200)(l:(4:Int)^n<=q):ib L (kR L) H x (Ó SP ["row",w,u]) (.err 4):=.err _ _ _ .number λQ E k=>gE p b7 (.ask xb rfl t (.inr (.inl rfl)) λa c s b=>.rown xb a g bw ss ls w u n q rfl b hw C I J hn (B.same s) j.hi r (wfu (zk j.hi n "") l) (wfu (Int.le_of_lt (Int.pow_pos ⋯)) l) λd s2=>k _ (s.trans s2))
theorem IY(A:aE L.au H xb g bw ss ls)(l:H x=ρ (eD L.aK dx (.ref xb) wv))(p:eI g)(r:ss.9<=900)(j:Nat)(t:j<16)(st:Int)(hc:fK.getD j 0∈[0,1,2,3,7,8]):ib L (kR L) H x (Ó SP (cx.getD j [])) (He st (fK.getD j 0)):=by
 match j,t,hc with
 |0,_,_=>exact Lv (w:="0") (n:=0) l A p r ∅ ∅ ∅ ∅ ⋯
 |1,_,_=>exact Qz l A p r
 |2,_,_=>exact QA l A p r
 |3,_,_=>exact AW (w:="9") (u:="9") (m:=9) (n:=9) l A p ∅ ∅ ∅ ∅ ⋯
 |4,_,hc=>exact absurd hc ⋯
 |5,_,hc=>exact absurd hc ⋯
 |6,_,hc=>exact absurd hc ⋯
 |7,_,hc=>exact absurd hc ⋯
 |8,_,_=>exact .ans _ λQ E k=>gE l ∅ (.ask xb rfl ∅ (.inl rfl) λa c s b=>.cnt xb a g bw ss ls "200" 200 rfl b ∅ ∅ ⋯ (A.same s) p.hi r λd s2=>k _ _ trivial (s.trans s2))
 |9,_,_=>exact IX (w:="0") (u:="1") (n:=0) (q:=1) l A p r ∅ ∅ ∅ ∅ ∅ ∅ ⋯ ⋯
 |10,_,_=>exact IX (w:="1") (u:=jI) (n:=1) (q:=999999999999999999999999999999999999999999999999999999999999) l A p r ∅ ∅ ∅ ∅ ∅ ∅ ⋯ ∅
 |11,_,_=>exact AW (w:=jI) (u:="1") (m:=999999999999999999999999999999999999999999999999999999999999) (n:=1) l A p ∅ ∅ ∅ ∅ ∅
 |12,_,_=>exact AW (w:="2") (u:=jI) (m:=2) (n:=999999999999999999999999999999999999999999999999999999999999) l A p ∅ ∅ ∅ ∅ ∅
 |13,_,_=>exact AW (w:="9") (u:="1") (m:=9) (n:=1) l A p ∅ ∅ ∅ ∅ ⋯
 |14,_,_=>exact AW (w:="2") (u:="7") (m:=2) (n:=7) l A p ∅ ∅ ∅ ∅ ⋯
 |15,_,hc=>exact absurd hc ⋯
 |n+16,h,_=>exact absurd h 1.0
end
section
variable{K:À}{mg:Str->Option Value}
theorem QG{L:Lk K mg}{H:Hp}{x:Addr}{g:Str}{bw:List Str}{st:Int}(A:jw L H x g bw st)(j:Nat)(l:j<16):ib L (kR L) H x (Ó SP (cx.getD j [])) (if st=0 then .err 1 else He st (fK.getD j 0)):=by
 let{a,b,d,m}:=Dw ⟨j,l⟩
 have hc:=MD ⟨j,l⟩
 obtain⟨f,os,e⟩:∃f os,cx.getD j []=f::os:=by
  cases h:cx.getD j [] with
  |nil=>exact absurd h m
  |cons f os=>exact⟨f,os,rfl⟩
 cases A with
 |s0 k h=>
  rw[if_pos rfl];simp only[e,wfG,wf0,weL]at a b d ⊢;exact Lw h a b d
 |s1 k n ss ls h B i ul wd=>
  rw[if_neg ⋯]
  by_cases c:fK.getD j 0∈[0,1,2,3,7,8]
  .exact IY (B.same lK) h i (Cb B ul wd) j l 1 c
  .let{c1,o}:=hc c
   rw[Qm o];simp only[e,wfG,wf0,weL]at a b d c1 ⊢;exact Lx h a b c1
 |s2 k n q ss ls h B i p R=>
  rw[if_neg ⋯];subst p
  by_cases c:fK.getD j 0∈[0,1,2,3,7,8]
  .exact IY (B.same lK) h i (Cb B ⋯ (λw h=>nomatch h)) j l 2 c
  .exact NV h (R.same lK) j l c
end
end K61
namespace _L
open PySem.Spec PyProof.Rows PySem.Calls
section
variable{X:Cx}
theorem FG(hc:X.calm=true):d7 X (.builtin "sum") (λxs H Q=>∃v d kvs ns,xs=[.ref v]/\H v=ρ (oM v d)/\H d=ρ (.dK kvs)/\kvs.map (·.2)=đ V.int ns/\Q (.int ns.sum) H):=by
 intro m s σ H xs U Q I r h
 let{v,d,kvs,ns,rfl,D,hd,hn,q}:=h
 let{u,rfl,E}:=vals1 r
 cases E
 let{Y,lo,c,rel,G}:=rH I.b7 hd
 let{ep,f}:=G.dictAt
 let{a,_}:=(show bL X.prog X.w H s.heap v (oM v d) from I.b7 v _ D)
 have J:=I.ok.hd hc
 have g:c.9=ns.9:=by
  have:=congrArg Ĳ hn;rw[Á,Á]at this;rw[<-rel.9];exact this
 have L:∀{kvs:List (Key×V)} {c:List (Key×Value)} {ns:List Int},KV kvs c->kvs.map (·.2)=ns.map V.int->∀(i:Nat) (k:Key) (x:Value),c[i]?=ρ (k,x)->∃t,x=.int (ns.getD i 0) t:=by
  intro kvs c ns r
  induction r generalizing ns with
  |nil=>intro _ i k x e;simp at e
  |@cons p q ps Z h t M=>
   intro e i k x j
   cases ns with
   |nil=>cases e
   |cons n ns=>
    rw[Í,Í]at e;injection e with N O
    cases i with
    |zero=>
     simp at j;have y:=h.2;rw[N,j]at y;exact y
    |succ i=>exact M O i k x (by simpa using j)
 have z:=wgI (prog:=X.prog) (w:=X.w) (r:=v) (d:=d) (knd:=bp X.prog X.w) (kvs:=c) (ep:=ep);refine call_sum_walkAnyS ?_
 let{R,St,hit,S,st}:=z.iter X.A.in1 s J ⟨a,f⟩
 refine hit _ _ {s.8,_,_,_,c.9,_,_,λi=>ns.getD i 0,rfl,S.toS,st,λb l=>?_,λi x ⟨k,e⟩=>L rel hn i k x e,λB t' C=>?_}
 .show b<(s.heap.push R).objs.size;rw[size_push'];rcases Þ.mp l with e |l
  .rw[e];exact Ł _
  .rw[Ï.mp l];exact we8 (z.there _ ⟨a,f⟩).2
 .have hk:∀b o,s.heap.get? b=ρ o->B.heap.get? b=ρ o:=λb o e=>
   C.heap b o (λT=>absurd (Æ e) (by rw[Ï.mp T];exact ò _)) (Ð _ e)
  rw[Moved.eq_with C];refine{.int ns.sum,H,I.kept (t':=B.toks) hk,{t',?_},q};rw[g,rO]
end
section
variable{prog:É}{w:World}{A:Around}{E:Value->Shared->Prop}{s:Shared}{l:Addr}{vs:List Value}{Q:Value->Shared->Prop}
theorem KO(kf:Nat->Int)(hh:A.handled=τ)(hl:s.heap.IsList l vs.6)(Mw:0<vs.9)
 (turn:∀(i:Nat) (v:Value),vs[i]?=ρ v->∃p items,v=.ref p/\s.heap.IsList p items/\(items.size:Int)=kf i/\(items.size:Int)<2^63)
 (hQ:∀(v:Value) (h':Heap) (Cm:Nat),v∈vs->(∀b o,s.heap.get? b=ρ o->h'.get? b=ρ o)->Q v {s with heap:=h',toks:=Cm}) :
 wpAny (model prog w) A (call (.builtin "min") [.ref l] [(æ "key",.builtin "len")]) Q E s:=by
 have Ak:(toString "min"++toString ".loop":String)="min.loop":=⋯;have F4:l<s.8:=let ⟨o,ho,_⟩:=hl;Æ ho
 refine whA PySem.F.kind_min PySem.F.plain_min PySem.F.entry_min (kmk_min_key _ _) ?_;show wpAny _ A.in1 (wcC "min" ["key","default"] 0 {[],[(æ "key",.builtin "len")]} >>= _) _ _ s;refine Â (wpAny_of_eq (show wcC "min" ["key","default"] 0 {[],[(æ "key",.builtin "len")]}=pure [ρ (.builtin "len"),τ] from rfl) ?_);refine Â (Ë ?_);refine Â (we7 hl ?_);refine Â (wpAny_newList ?_ (à _));rw[Ak];have hS:(s.heap.push {cls:=.type "list_iterator",data:=.fields #[.ref l,.int 0 0]}).7=s.8+1:=size_push' ..;have Qa:l≠s.8:=Ñ F4;have Nq:(s.heap.push {cls:=.type "list_iterator",data:=.fields #[.ref l,.int 0 0]}).objs.size≠s.8:=by rw[hS];exact Ŀ (Ł _)
 refine Ë {Ľ ţ _,?_}
 have gI:((s.heap.push {cls:=.type "list_iterator",data:=.fields #[.ref l,.int 0 0]}).push (seqObj "list" #[] 0)).get? s.8=ρ {cls:=.type "list_iterator",data:=.fields #[.ref l,.int 0 0]}:=
  Ð _ (ç _ rfl)
 have gS:((s.heap.push {cls:=.type "list_iterator",data:=.fields #[.ref l,.int 0 0]}).push (seqObj "list" #[] 0)).get? (s.heap.push {cls:=.type "list_iterator",data:=.fields #[.ref l,.int 0 0]}).7=ρ (seqObj "list" #[] 0):=ç _ rfl;have LA:∀b o,s.heap.get? b=ρ o->((s.heap.push {cls:=.type "list_iterator",data:=.fields #[.ref l,.int 0 0]}).push (seqObj "list" #[] 0)).get? b=ρ o:=λb o e=>Ð _ (Ð _ e)
 have old:∀{b:Addr} {o:Obj},s.heap.get? b=ρ o->b≠s.8+1/\b≠s.8:=λ{b o} e=>by
  have hb:b<s.8:=Æ e;exact{Ñ (we8 hb),Ñ hb}
 have W:=wfd (prog:=prog) (w:=w) (A:=A.in1) hh s.heap.objs.size l Qa vs.6;have hsz:vs.toArray.size=vs.9:=ö ..;refine Ķ wec ?_;rw[Ŋ ţ _];show wpAny _ A.in1 (Ū (.ref _) >>= _) _ _ _;refine Â (ů gS rfl ?_);show wpAny _ A.in1 (tryCatch (pyNext (.ref s.8)) _ >>= _) _ _ _;refine Â (ħ (W.item 0 _ _ _ (by rw[hsz];exact Mw) {{_,gI,rfl,rfl},gk hl LA} λv h' Cm hP Kp JG=>?_));have hv:vs[0]?=ρ v:=by simpa using hP
 have y1:∀b o,s.heap.get? b=ρ o->h'.get? b=ρ o:=λb o e=>JG b o (by simpa using(old e).2) (LA b o e);have Od:=JG _ _ (by simpa using Nq) gS
 let{p,items,rfl,hp,SN,Kq}:=turn 0 v hv
 show wpAny _ A.in1 (tryCatch (holding [Ä p] (call (.builtin "len") [.ref p])) _ >>= _) _ _ _;refine Â (ħ (Ą (weE (gk hp y1) Kq ?_)));rw[SN];have s1:=weG h' (s.heap.push {cls:=.type "list_iterator",data:=.fields #[.ref l,.int 0 0]}).objs.size (ŭ λ_=>#[Ä p,.int (kf 0) (Cm+1)]);obtain⟨c2,SQ⟩:∃c2,(h'.update (s.heap.push {cls:=.type "list_iterator",data:=.fields #[.ref l,.int 0 0]}).objs.size (ŭ λ_=>#[Ä p,.int (kf 0) (Cm+1)])).get? (s.heap.push {cls:=.type "list_iterator",data:=.fields #[.ref l,.int 0 0]}).7=ρ (seqObj "list" #[Ä p,.int (kf 0) (Cm+1)] c2):={_,get?_update_seq Od λ_=>#[Ä p,.int (kf 0) (Cm+1)]};show wpAny _ A.in1 (wgR (s.heap.push {cls:=.type "list_iterator",data:=.fields #[.ref l,.int 0 0]}).objs.size (λ_=>#[Ä p,.int (kf 0) (Cm+1)]) >>= _) _ _ _;refine Â ?_;refine χ Od rfl ?_;rw[Ak]
 let{SR,Nt,SU}:=id Kp.1
 refine Ë {Ľ ţ _,z6 kf hh hl rfl Nq (by rw[hS];exact Ĩ _) turn hQ _ 0 0 _ _ _ _ c2 rfl Mw (λb o e=>(s1.2 b (by rw[hS];exact(old e).1)).trans (y1 b o e)) SQ {SR,(s1.2 _ Nq.symm).trans Nt,SU} hv}
end
section
variable{X:Cx}{e:Expr}{t:TA}{p p2 kp pos:Pos}
theorem KP(hc:X.calm=true)(T:Gl X "min")(U:X.mg "min"=τ)(l:Gl X "len")(C:X.mg "len"=τ)(ha:PA X [e] t)(J:starEach [e] X.5=[(false,eval e X.5)]:=by rfl):PE X (.Call (.Name "min" p) [e] [{ρ "key",.Name "len" p2,kp}] pos) (Q9 X.K t):=by
 refine{?_};intro f s σ H Q I h;refine ĸ (iT I T U (show ì "min"=ρ (.builtin "min") from _S.Q2) ?_ ⋯ ⋯);refine wfv (bU (ha pos f s σ H _ I h) λN s1 ⟨O,z,g,A,B⟩=>?_) (by rw[J];rfl) (by rw[J];rfl);refine wg8 (iT g l C (show ì "len"=ρ (.builtin "len") from Κ) (wgj ?_) ⋯ ⋯)
 let{a,ps,rfl,D,m,n,q}:=B
 let{u,rfl,E}:=vals1 A
 cases E
 let{b,k,pl,w}:=g.list D
 have hl:b.9=ps.9:=by have:=k.9;rw[Á]at this;exact this.symm
 have j:∀{ps:List Addr} {b:List Value},Vals (ps.map V.ref) b->b=ps.map Ä:=by
  intro ps
  induction ps with
  |nil=>intro b r;cases r;rfl
  |cons x ps G=>
   intro b r
   cases r with
   |cons h t=>rw[G t];cases h;rfl
 have e:=j k;subst e
 have sz:∀q∈ps,∃b:List Value,s1.heap.IsList q b.6/\b.9<=sizeLine:=λq c=>by
  let{R,L}:=n q c
  let{b,k,pl,w}:=g.list L
  exact{b,pl.isList,by rw[<-k.9];exact w}
 have hn:=o5;refine KO (kf:=λi=>match ps[i]? with |some q=>if c:q∈ps then((whk (sz q c)).9:Int) else 0 |none=>0) (g.ok.hd hc) pl.isList (by rw[Á];cases ps with |nil=>exact absurd rfl m |cons _ _=>exact Nat.succ_pos _) (λi v d=>?_) λv S o d hk=>?_
 .rw[Ê]at d
  cases e:ps[i]? with
  |none=>rw[e]at d;cases d
  |some q=>
   rw[e]at d;cases d;have c:q∈ps:=ê e
   let{M,Y}:=Classical.choose_spec (sz q c)
   refine{q,1,M,?_,?_}
   .show _=if c:q∈ps then _ else _
    rw[dif_pos c,ö]
   .rw[ö]
    lia
 .let{y,c,rfl}:=Å.mp d
  exact{.ref y,z,g.kept (t':=o) hk,rfl,q y c}
end
end _L
namespace _L
open PySem.Spec PyProof.Rows PySem.Calls Builtin.Str
section
variable{X:Cx}
theorem yn:∀l:List (Str×Tok),Vals ((l.map (·.1)).map V.str) (strValues l)
 |[]=>.nil
 |p::l=>.cons ⟨p.2,rfl⟩ (yn l)
theorem AY:Jb X "str.split" (λx xs H Q=>∃r c,x=.str r/\xs=[.str {#[c]}]/\r.9<=1000000/\∀l,H l=τ->Q (.ref l) (upd H l (.lst ((θ r {#[c]}).map V.str)))):=by
 intro b s σ H x xs v z Q I n o h
 let{r,c,rfl,rfl,p,q}:=h
 let{t,rfl}:=n
 let{u,rfl,w}:=o.one
 let{f,rfl}:=w
 have j:(({#[c]}:Str).length==0)=false:=rfl
 have key:∀(l:List (Str×Tok)) (g:Nat),l.map (·.1)=θ r {#[c]}->l.9<=sizeLine->∃y k,Inv X b σ k {s with heap:=s.heap.push {cls:=.type "list",data:=.seq (strValues l).6},toks:=g}/\RelV y (.ref s.8)/\Q y k:=λl g e hl=>by
  have m:=yn l;rw[e]at m;exact{.ref _,_,I.Mq (t':=g) m (by rw[Á,<-e,Á];exact hl),rfl,q _ I.fresh}
 have i:r.9<=sizeLine:=Õ p (by rw[Ę];decide);cases a:(decide (r.9<(⟨#[c]⟩:Str).length) ||decide (strKind r<strKind ⟨#[c]⟩))
 .cases d:(occurrences r ⟨#[c]⟩ 0 r.length (r.9+1)).isEmpty
  .have hn:(partsBetween r (occurrences r {#[c]} 0 r.length (r.9+1)) ({#[c]}:Str).length).9<=sizeLine:=by
    rw[wfg];have:=StrLaws.occ_length_le r {#[c]} 0 r.length (r.9+1);have e:=Ę;omega
   refine Ļ Ν (Ś _ _ _) wf9 (weV _ _) (meets_str_split_sep r {#[c]} t f a j d i hn) ?_;show wants _ _ _ {s with toks:=_,heap:=s.heap.push {cls:=.type "list",data:=.seq (strsFrom s.toks (partsBetween r (occurrences r {#[c]} 0 r.length (r.9+1)) ({#[c]}:Str).length)).6}};rw[strsFrom_eq];refine key (numbered s.toks _) _ ((numbered_texts _ _).trans ((if_neg (ne_true_of_eq_false a)).trans (if_neg (ne_true_of_eq_false d))).symm) ?_;have:=congrArg Ĳ (numbered_texts s.toks (partsBetween r (occurrences r {#[c]} 0 r.length (r.9+1)) ({#[c]}:Str).length));rw[Á]at this;rw[this];exact hn
  .exact Ļ Ν (Ś _ _ _) wf9 (weV _ _) (meets_str_split_not_found r {#[c]} t f a j d) (key [(r,t)] s.toks ((if_neg (ne_true_of_eq_false a)).trans (if_pos d)).symm (by show 1<=sizeLine;decide))
 .exact Ļ Ν (Ś _ _ _) wf9 (weV _ _) (meets_str_split_cannot_occur r {#[c]} t f a) (key [(r,t)] s.toks (if_pos a).symm (by show 1<=sizeLine;decide))
theorem rB:d7 X (.type "str") (λxs H Q=>∃i:Int,xs=[.int i]/\i.natAbs.log2<1920/\Q (.str (æ (toString i))) H):=by
 intro a s σ H xs c Q I r h
 let{i,rfl,hl,q}:=h
 let{u,rfl,b}:=vals1 r
 let{t,rfl}:=b
 exact P.str_of_int hl {.str (æ (toString i)),H,I.tok _,{_,rfl},q}
end
end _L
namespace _L
open PySem.Spec PyProof.Rows PySem.W
section
variable{t:Nat}{C:Addr}
noncomputable abbrev eY(C t:Addr):Obj:={cls:=.ref C,data:=.fields #[.ref t,.none,.none,.none,.bool false,.none]}
noncomputable abbrev rC(vs:List Value):Obj:={cls:=.type "tuple",data:=.seq vs.6}
end
end _L
namespace _L
open PySem.Spec PyProof.Rows
noncomputable def XN(x C:Addr):HO:=.ext λh=>∃t,h.get? x=ρ (eY C t)
def NY(K:À)(CB:Addr)(t:TA):TE:=λσ H Q=>t σ H λvs H1=>∃x C nm m,vs=[.ref x,m]/\H1 x=ρ (XN x C)/\bf K C CB nm/\Q .non H1
def NZ(K:À)(C:Addr)(sp:Sp)(E:XK)(t:TA):TS:=λ_ σ H=>t σ H λvs H1=>vs.9<=sizeLine/\∀x,H1 x=τ ->
 sp (.ref x::vs) (upd H1 x (XN x C)) (λv H2=>v=.non/\((H2 x=ρ (XN x C)/\E (.ref C) τ (del H2 x))\/∃d,H2 x=ρ (XD x C d)/\E (.ref C) (ρ d) (del H2 x))) E0
section
variable{prog:É}{w:World}{A:Around}{R:ġ->Shared->Prop}{h:Heap}{g:Array ĳ}{d:Drawn}{t:Nat}{os:ë}{nm q:Str}{C CB N:Addr}{bs:List Value}{hdct:Bool}{sn:List Str}{sub:List Value}{ab:Bool}{col:Option Bool}{dd:Option Addr}{k0 k1 k2 k3 k5:Option Value}
theorem IZ{rest:List Value}{init:Value}{p:Around}(l:h.get? C=ρ (Ă nm q C N bs (oz CB) hdct sn sub ab col dd k0 k1 k2 k3 k5 "ValueError.__new__"))
 (hi:Looks (model prog w) h (Ζ (.ref C) "__init__") (ρ init)) (J:∀self,Looks (model prog w) h (bindSpecial init self) (init,[self])) (j:rest.9<=sizeLine)
 (T:codeAny (model prog w) p (.call init {.ref (h.7+1)::rest,[]}) (InitBack (h.7+1) R) {(h.push (rC rest)).push (eY C h.7),g,d,t,os}) :
 wpAny (model prog w) p (Ō.«type.__call__» {.ref C::rest,[]}) (λfin s'=>match fin with |.done f=>R (.ok f) s' |.again I=>I.quiet=true/\codeAny (model prog w) A I R s') (λe s'=>R (.error e) s') ⟨h,g,d,t,os⟩:=by
 have F:=wc7
 repeat (first |with_reducible refine Č l ?_ |with_reducible refine wpAny_madeBy_exc l ?_ |wp_step)
 refine codeAny_call_builtin_code (weR _ F.quiet) (Ks l ?_);refine Kt l ?_ j;show wpAny _ _ _ _ _ _;have k:∀b o,h.get? b=ρ o->((h.push (rC rest)).push (eY C h.7)).get? b=ρ o:=λb o e=>Ð _ (Ð _ e)
 have a:=Ð {cls:=.ref C,data:=.fields #[.ref h.7,.none,.none,.none,.bool false,.none]}
  (Ð {cls:=.type "tuple",data:=.seq rest.6} l)
 have c:((h.push {cls:=.type "tuple",data:=.seq rest.6}).push {cls:=.ref C,data:=.fields #[.ref h.7,.none,.none,.none,.bool false,.none]}).get? (h.7+1)=ρ {cls:=.ref C,data:=.fields #[.ref h.7,.none,.none,.none,.bool false,.none]}:=by heap_get
 have i:(Ä C::oz CB).contains (.ref C)=true:=by simp
 have m:=hi.keeps k;have b1:=(J (.ref (h.7+1))).keeps k;unfold wfh
 repeat (first |with_reducible refine Č c ?_ |(with_reducible refine Ŝ a ?_;rw[i]) |wp_step)
 show wpAny _ _ (Ζ (.ref C) _) _ _ _;refine m.at ?_;refine Ą (Â (b1.at ?_));refine Â (ē (Ĵ T λr s' z=>?_));rcases r with e |(v |_ |_ |_)<;>first |exact z |exact z.elim |skip
 let{rfl,z}:=z
 wp_walk
 exact z
theorem AZ{rest:List Value}{init:Value}(l:h.get? C=ρ (Ă nm q C N bs (oz CB) hdct sn sub ab col dd k0 k1 k2 k3 k5 "ValueError.__new__"))
 (hi:Looks (model prog w) h (Ζ (.ref C) "__init__") (ρ init)) (p:∀self,Looks (model prog w) h (bindSpecial init self) (init,[self])) (j:rest.9<=sizeLine)
 (r:codeAny (model prog w) (A.under (.builtin "type.__call__" {.ref C::rest,[]})) (.call init {.ref (h.7+1)::rest,[]}) (InitBack (h.7+1) R) {(h.push (rC rest)).push (eY C h.7),g,d,t,os}) :
 codeAny (model prog w) A (.call (.ref C) {rest,[]}) R ⟨h,g,d,t,os⟩:=by
 have f1:=tc_lookup;have f2:=PySem.tc_bind (.ref C);have a:(⟨h,g,d,t,os⟩:Shared).TypeIs (.ref C) "type":={_,l,rfl};refine codeAny_of_tree ?_;show wpAny _ _ (callAny (.ref C) _) _ _ _
 repeat (any_goals (first |assumption |with_reducible refine Č l ?_ |wp_step))
 refine{rfl,?_};exact codeAny_call_builtin_at (weR _ ∅) entry_typeCall (wpAny_check_type_call_sub l (IZ l hi p j r))
end
section
variable{CB C:Addr}{name:Str}{ta tv:TE}
def QH(K:À)(CB:Addr)(ta tv:TE)(name:Str):TS:=λD σ H=>tv σ H λy H1=>ta σ H1 λz H2=>∃x C nm,z=.ref x/\H2 x=ρ (XN x C)/\bf K C CB nm/\findIn K (.ref C) name=ρ τ /\
 ∀d,H2 d=τ->D.nx σ (upd (upd H2 d (.xd [(name,y)])) x (XD x C d))
end
section
variable{P:É}{w:World}{H:Hp}{h:Heap}{x C t:Addr}
theorem O0(e:h.get? x=ρ (eY C t)):bL P w H h x (XN x C):={⟨t,e⟩,{_,e},λc d ⟨a,b⟩ k=>{a,k _ b}}
end
section
variable{X:Cx}{CB C f:Addr}{fd:î}{ps:List Str}{sp:Sp}{E:XK}{k:Nat}{p pos ez:Pos}{e:Expr}{es:List Expr}{t:TA}{x nm:Str}
theorem Inv.newExc(I:Inv X g σ H s)(us:List Value)(C:Addr) :
 Inv X g σ (upd H (s.8+1) (XN (s.8+1) C)) {s with heap:=(s.heap.push (rC us)).push (eY C s.8)}:=by
 have c:=I.kept (h':=s.heap.push (rC us)) (t':=s.toks) λb u q=>Ð _ q;refine c.laid (a:=s.8+1) (t':=s.toks) (λb u q=>Ð _ q) (weu (ň _ _)) (O0 (t:=s.8) ?_);have:=ç (s.heap.push (rC us)) (o:=eY C s.8) rfl;rwa[ň]at this
theorem B1(hT:Dc X E)(hc:X.calm=true)(U:bf X.K C CB nm)(hi:findIn X.K (.ref C) "__init__"=ρ (ρ (.ref f)))(J:isFn X.K (.ref f)=true)
 (F:aI X.prog X.w X.K X.mg X.base cz k f fd ps sp) (hr:cO (k+1) X.A) (hb:Binds X.K fd ps []) (hg:Gl X x) (hm:X.mg x=ρ (.ref C)) (ha:PA X (e::es) t)
 (T:(x==("__debug__":Str))=false:=by decide) (he:starEach (e::es) X.5=(false,eval e X.5)::starEach es X.5:=by rfl) (hpl:(backTo ez (starEach es X.5)).any (·.1)=false:=by rfl) :
 PS X (.Raise (ρ (.Call (.Name x p) (e::es) [] ez)) τ pos) (NZ X.K C sp E t):=by
 refine{?_};intro a s σ H D I h
 let{Y,N,bs,sn,sub,ab,col,dd,k0,k1,k2,k3,k5,lk}:=U.lk
 refine rP (C:=C) (CB:=CB) (nm:=nm) (q:=Y) (N:=N) (bs:=bs) (hdct:=true) (sn:=sn) (sub:=sub) (ab:=ab) (col:=col) (dd:=dd) (k0:=k0) (k1:=k1) (k2:=k2) (k3:=k3) (k5:=k5) (I.ok.hd hc) ?_;refine ĸ (ft I hg hm ?_ T);refine Ť (h₀:=X.base) I.ok.mod.Jm U.kp (bU (ha ez a s σ H _ I h) λc s1 ⟨Z,H1,i,r,l,q⟩=>{i.fJ,?_}) he hpl;have z:=i.b7.fresh (Ĩ s1.8);have O:=q (s1.8+1) z;have B:=Inv.newExc i c C;have Q:Vals (V.ref (s1.8+1)::Z) (Ä (s1.8+1)::c):=.cons rfl r
 have hl:(Ä (s1.8+1)::c++[]).9=ps.9:=by
  have R:=Q.9;rw[F.len _ _ _ _ O]at R;rw[û];exact R.symm
 have m:=hb _ (Ä (s1.8+1)::c) B.fJ hl;rw[û]at m
 let{G,g,dr,tk,os}:=s1
 refine ē (AZ (i.fJ _ _ lk) (ς i.fJ hi) (λself=>bind_fn i.fJ self (beq_iff_eq.mp J)) (by show c.9<=sizeLine;rw[<-r.9];exact l) ?_);refine Ĵ (F.run _ X.stack _ _ {Ä (G.7+1)::c,[]} (Ä (G.7+1)::c) _ _ E0 (hr.make C c []) (B.Go.make C c []) m Q O) λrr S b=>?_
 cases rr with
 |error e=>exact ã b
 |ok fl=>
  cases fl with
  |next=>exact ã b
  |brk=>exact ã b
  |cont=>exact ã b
  |ret u=>
   let{v,H',j,rv,ev,q3}:=B.after b
   subst ev;refine{rv,?_};have n:X.s₀.8<=G.7+1:=Õ i.sz (Ĩ _);rcases q3 with⟨o,L⟩ |⟨d,o,L⟩
   .let{{M,y},_}:=j.b7 _ _ o
    exact{_,τ,M,rfl,j.fJ _ _ lk,y,hT a σ _ S _ C τ (j.del o) {n,fi,_,_,y,by show 1<6;decide,.inl rfl} L}
   .let{{M,y},_}:=j.b7 _ _ o
    exact{_,ρ d,M,rfl,j.fJ _ _ lk,y,hT a σ _ S _ C (ρ d) (j.del o) {n,fi,_,_,y,by show 1<6;decide,.inl rfl} L}
end
end _L
namespace _L
open PySem.Spec PyProof.Rows PySem.W Builtin Builtin.ObjectAttr
section
variable{prog:É}{w:World}{A:Around}{E:Value->Shared->Prop}{s:Shared}{K:À}{x C CB:Addr}{name:Str}{v:Value}
theorem J0{Q:Unit->Shared->Prop}(X:K.In s.heap)(hx:s.heap.get? x=ρ (eY C t))(hc:clsIn K C=ρ cd)(hm:cd.mro=.ref C::oz CB)(hh:cd.hasDict=true)(ha:findIn K (.ref C) name=ρ τ)
 (hs:findIn K (.ref C) "__setattr__"=ρ (ρ (.builtin "object.__setattr__")))
 (h:∀h' d tk,s.8<=d->(∀b o,b≠x->s.heap.get? b=ρ o->h'.get? b=ρ o)->h'.get? x=ρ {cls:=.ref C,dict:=ρ d,data:=.fields #[.ref t,.none,.none,.none,.bool false,.none]}->h'.Ns1 d (λy=>if y=name then ρ v else τ)->Q .unit {s with heap:=h',toks:=tk}) :
 wpAny (model prog w) A (setAttr (.ref x) name v) Q E s:=by
 have J:InstAt s.heap x (eY C t) C τ:=⟨hx,rfl,rfl,trivial⟩;refine wgY X J hs (F5 (s:={s with toks:=s.toks+1}) X J hc hm ha ?_);unfold storeInOwnDict;refine Â (Ë ?_);rw[if_neg (by simp)];unfold ownDictForStores instanceDict;refine Â (Â (wg1 hx ?_));dsimp only;refine Â (wgJ (s:={s with toks:=s.toks+1}) (wfi X hc) ?_);rw[hh];have Vf:(s.heap.push {cls:=.type "dict",data:=.dict #[]}).get? x=ρ (eY C t):=Ð _ hx;have Vg:x≠s.8:=Ñ (Æ hx);simp only[Bool.not_true,ŏ,if_false,Bool.not_false,Ű];rw[if_neg (by simp[typeHasDict])];refine Â (wpAny_alloc ?_);refine Â (wpAny_update Vf ?_);refine Ë ?_
 have Yb:((s.heap.push {cls:=.type "dict",data:=.dict #[]}).update x λo=>{cls:=o.cls,dict:=ρ s.8,data:=o.data,slots:=o.slots}).get? s.8
  =ρ {cls:=.type "dict",data:=.dict #[]}:=(wgz _ _ _ _ Vg.symm).trans (Heap.get?_push_at rfl rfl)
 have Tv:((s.heap.push {cls:=.type "dict",data:=.dict #[]}).update x λo=>{cls:=o.cls,dict:=ρ s.8,data:=o.data,slots:=o.slots}).Ns s.heap.objs.size (λ_=>τ):=
  {_,#[],_,Yb,rfl,λe he=>absurd he (by simp),λ_=>rfl}
 show wpAny _ _ (storeInDict s.heap.objs.size (.str name s.toks) name v) _ _ _;unfold storeInDict newKeyGuard;refine Â (Ë (Â (wpAny_nsSet1 (wgX Tv) λh' Jh O7=>?_)))
 let{oD,ZL,ZM,Yc,Yd,Ye}:=Jh.count (whC name v Within.nil)
 refine Â (wpAny_lookBehind Yc (by rw[Yd];exact pastItsLine_dict (Õ Ye (by rw[å,wer,Ę];omega))) ?_)
 wp_walk
 refine h h' s.heap.objs.size _ (Ç _) (λb ob Yg hb=>?_) ?_ Jh
 .exact(O7.2 b (Ñ (Æ hb))).trans ((wgz _ _ _ _ Yg).trans (Ð _ hb))
 .exact(O7.2 x Vg).trans (ō _ Vf rfl)
end
section
variable{prog:É}{w:World}{A:Around}{s:Shared}{K:À}{x C CB:Addr}{R:ġ->Shared->Prop}{nm q:Str}{N:Addr}{bs:List Value}{sn:List Str}{sub:List Value}{ab:Bool}{col:Option Bool}{dd:Option Addr}{k0 k1 k2 k3 k5:Option Value}
theorem w4(X:K.In s.heap)(j:s.heap.get? x=ρ (eY C t))(hk:K.lookup C=ρ (Ă nm q C N bs (oz CB) true sn sub ab col dd k0 k1 k2 k3 k5 "ValueError.__new__"))
 (h:∀h' t',(∀b o,b≠x->s.heap.get? b=ρ o->h'.get? b=ρ o)->h'.get? x=ρ (eY C t')->R (.ok (.ret .none)) {s with heap:=h'}) :
 codeAny (model prog w) A (.call (.builtin "ValueError.__init__") {[.ref x,u],[]}) R s:=by
 have F:=wc7;have f:=X _ _ hk;have J:InstAt s.heap x (eY C t) C τ:=⟨j,rfl,rfl,trivial⟩;have sub:Looks (model prog w) s.heap (wfh (.ref x) (.type "ValueError")) true:=J.type.andThen (wfQ X (by unfold mroIn clsIn;rw[hk];rfl));refine Ε F.init.plain F.initEntry ?_;simp only[wfr,F.initKind,F.initSplit,F.initRow];refine Â (sub.here ?_);simp only[Bool.not_true,ŏ,if_false];have a:=F.noStar
 let{c,g,d,l,os}:=s
 repeat (first |with_reducible refine Č f ?_ |wp_step)
 have i:x≠c.7:=Ñ (Æ j);refine h _ c.objs.size (λb o k e=>?_) ?_
 .rw[þ _ _ (Ü k)];exact Ð _ e
 .exact ō _ (Ð _ j) rfl
end
section
variable{prog:É}{w:World}{A:Around}{E:Value->Shared->Prop}{s:Shared}{K:À}{x C CB:Addr}{nm q:Str}{N:Addr}{bs:List Value}{sn:List Str}{sub:List Value}{ab:Bool}{col:Option Bool}{dd:Option Addr}{k0 k1 k2 k3 k5:Option Value}
theorem CM{Q:Value->Shared->Prop}(X:K.In s.heap)(g:s.heap.get? x=ρ (eY C t))(hk:K.lookup C=ρ (Ă nm q C N bs (oz CB) true sn sub ab col dd k0 k1 k2 k3 k5 "ValueError.__new__"))
 (h:∀h' t',(∀b o,b≠x->s.heap.get? b=ρ o->h'.get? b=ρ o)->h'.get? x=ρ (eY C t')->Q .none {s with heap:=h'}) :
 wpAny (model prog w) A (call (.builtin "ValueError.__init__") [.ref x,u]) Q E s:=ē (w4 X g hk h)
end
end _L
namespace _L
open PySem.Spec PyProof.Rows
section
variable{X:Cx}{CB:Addr}{pos:Pos}{name:Str}{ta tv:TE}{o value:Expr}{pos':Pos}
theorem KQ(ha:PE X o ta)(J:PE X value tv)(T:Ě value (ρ (.Attribute o name pos')) pos.line X.5=pure false):PS X (.Assign [.Attribute o name pos'] value pos) (QH X.K CB ta tv name):=by
 refine{?_};intro g s σ H D I h;refine wcY (bU (J g s σ H _ I h) λu s1 ⟨y,L,M,O,q⟩=>bU (ha g s1 σ L _ M q) λQ s2 R=>?_) T
 let{z,m,i,S,x,C,nm,V,l,U,hn,Y}:=R
 subst V;obtain rfl:Q=Ä x:=S
 let{{t,Z},_}:=i.b7 x _ l
 let{qn,N,bs,sn,sub,ab,r,dd,k0,k1,k2,k3,k5,lk}:=U.lk
 refine J0 (CB:=CB) i.fJ Z (cd:={name:=nm,bases:=bs,mro:=.ref C::oz CB,ns:=N,qualname:=qn,hasDict:=true,slotNames:=sn,subclasses:=sub,abstract:=ab,collection:=r,hasDel:=false}) (by unfold clsIn;rw[lk]) rfl rfl hn U.sa λA d tk hd k ex ns=>{σ,_,?_,Y d (i.b7.fresh hd)};have ZN:d≠x:=λz=>by rw[z]at hd;exact absurd (Ö (i.b7.lt l) hd) (ò _)
 have c:=i.b7.fresh hd
 have un:Un (oI X.stack) [] m (upd (upd m d (.xd [(name,y)])) x (XD x C d)) s2.heap A:=by
  have nx:∀{b:Addr} {o:HO},m b=ρ o->(∀ψ,o≠.ext ψ)->b≠x:=λe n z=>by rw[z,l]at e;exact n _ (Î e).symm
  have B:∀{b:Addr},m b=τ->b≠x:=λe z=>by rw[z,l]at e;cases e
  refine{λb o q n _ _=>k b o (B n) q,λb o q n _ _=>{o.slots,k b o (B n) q},λb o q n _=>?_,λb o q _=>?_,λb vs q=>?_,λb o v q=>?_,λb ps q=>?_}
  .rw[a9 (B n),a9 (λz=>by rw[z]at q;exact absurd (Ö (Æ q) hd) (ò _))];exact n
  .by_cases z:b=x
   .rw[z];exact{_,ex}
   .exact{o,k b o z q}
  .rw[a9 (nx q λψ z=>by cases z),a9 (ae q c)];exact q
  .rw[a9 (nx q λψ z=>by cases z),a9 (ae q c)];exact q
  .exact{#[],by rw[a9 (nx q λψ z=>by cases z),a9 (ae q c),q];simp}
 have b7:jA X.prog X.w (upd (upd m d (.xd [(name,y)])) x (XD x C d)) A:=λa o e=>by
  by_cases z:a=x
  .subst z;rw[a6]at e;cases e;exact Sv ex
  .rw[a9 z]at e
   by_cases G:a=d
   .subst G;rw[a6]at e;cases e;refine{_,ns,λf=>?_}
    by_cases p:f=name
    .have j:(f==name)=true:=beq_iff_eq.mpr p;simp only[weN,j,if_pos p];exact O
    .have j:(f==name)=false:=beq_eq_false_iff_ne.mpr p;simp only[weN,j,if_neg p]
     trivial
   .rw[a9 G]at e;refine(i.b7 a o e).sV (λb u j q=>k b u ?_ q) (λb q=>?_) λb vs q=>?_
    .rintro rfl;rcases j with rfl |j
     .exact z rfl
     .rw[l]at j;cases j
    .have:b≠x:=λE=>by rw[E,l]at q;cases q
     rw[a9 this,a9 (ae q c)];exact q
    .have:b≠x:=λE=>by rw[E,l]at q;cases q
     rw[a9 this,a9 (ae q c)];exact q
 exact i.xx (s':={s2 with heap:=A,toks:=tk}) rfl un b7 i.bare λb z=>absurd z (by simp)
end
section
variable{X:Cx}{CB f:Addr}{p pos apos:Pos}{e e2:Expr}{t:TA}{F7:Str}
theorem J1(r:Gl X F7)(J:X.mg F7=ρ (.ref CB))(B:L9 X.K CB)(ha:PA X [e,e2] t)(g:(F7==("__debug__":Str))=false:=by decide)
 (he:starEach [e,e2] X.5=(false,eval e X.5)::starEach [e2] X.5:=by rfl) (hpl:(backTo pos (starEach [e2] X.5)).any (·.1)=false:=by rfl)
 (j:eval (.Call (.Attribute (.Name F7 p) "__init__" apos) [e,e2] [] pos) X.5=(do
   let l <-eval (.Name F7 p) X.5
   standAt apos.atName
   let (f,first) <-holding [l] (ř l "__init__" pl)
   ξ pos f first (backTo pos (starEach [e,e2] X.5)) (backToKw pos (Ĝ [] X.5))):=by rfl) :
 PE X (.Call (.Attribute (.Name F7 p) "__init__" apos) [e,e2] [] pos) (NY X.K CB t):=by
 refine{?_};intro a s σ H Q I h;refine wdh (pl:=pl) (ft I r J ?_ g) j;refine PySem.W.method_cls I.fJ B.sp (PySem.W.cls_value I.fJ B.rd B.fc rfl ?_);refine wey (bU (ha pos a _ σ H _ (I.tok _) h) λE s1 i=>?_) he hpl
 let{G,n,c,v,x,C,nm,m,w,d,U,q}:=i
 subst w
 let{L,M,rfl,y,O}:=vals2 v
 cases y
 let{{t,j},_}:=c.b7 x _ d
 let{R,N,bs,S,sub,ab,A,T,V,Y,Z,k3,k5,lk}:=U.lk
 refine CM c.fJ j lk λh' t' k ex=>{.non,n,?_,rfl,q};have:=c.write (x:=x) (e:=x) (o:=XN x C) (h':=h') (t':=s1.toks) (by rw[d];exact Ā) (.inl rfl) (λb u D z=>k b u D z) {_,ex} (O0 ex);rw[LV d]at this;exact this
end
section
variable{X:Cx}{CB C:Addr}{E:XK}{p pos ez:Pos}{e:Expr}{es:List Expr}{t:TA}{x nm:Str}
theorem gV(J:Dc X E)(hc:X.calm=true)(U:bf X.K C CB nm)(hi:findIn X.K (.ref C) "__init__"=ρ (ρ (.builtin "ValueError.__init__")))(T:Gl X x)(hm:X.mg x=ρ (.ref C))(ha:PA X (e::es) t)
 (l:(x==("__debug__":Str))=false:=by decide) (he:starEach (e::es) X.5=(false,eval e X.5)::starEach es X.5:=by rfl) (hpl:(backTo ez (starEach es X.5)).any (·.1)=false:=by rfl) :
 PS X (.Raise (ρ (.Call (.Name x p) (e::es) [] ez)) τ pos) (JB C E t):=by
 refine{?_};intro a s σ H D I h
 let{w,N,bs,sn,sub,ab,col,dd,k0,k1,k2,k3,k5,lk}:=U.lk
 refine rP (C:=C) (CB:=CB) (nm:=nm) (q:=w) (N:=N) (bs:=bs) (hdct:=true) (sn:=sn) (sub:=sub) (ab:=ab) (col:=col) (dd:=dd) (k0:=k0) (k1:=k1) (k2:=k2) (k3:=k3) (k5:=k5) (I.ok.hd hc) ?_;refine ĸ (ft I T hm ?_ l);refine Ť (h₀:=X.base) I.ok.mod.Jm U.kp (bU (ha ez a s σ H _ I h) λy s1 ⟨O,A,c,r,d,q⟩=>{c.fJ,?_}) he hpl
 obtain⟨u,rfl⟩:∃u,y=[u]:=by
  have:=r.9;rw[d]at this;exact wfS.mp this.symm
 have k:=Inv.newExc c [u] C;have f:(upd A (s1.8+1) (XN (s1.8+1) C)) (s1.8+1)=ρ (XN (s1.8+1) C):=a6;have i:=c.b7.fresh (Ĩ s1.8)
 let{j,g,Q,B,os}:=s1
 refine ē (AZ (c.fJ _ _ lk) (ς c.fJ hi) (λself=>Looks.of_pure (wc7.init.bind self)) (by show 1<=sizeLine;decide) ?_)
 let{{R,G},_}:=k.b7 _ _ f
 refine w4 k.fJ G lk λh' t' L ex=>{rfl,?_};have v:=k.write (x:=j.7+1) (e:=j.7+1) (o:=XN (j.7+1) C) (h':=h') (t':=B) (by rw[f];exact Ā) (.inl rfl) (λb u M z=>L b u M z) {_,ex} (O0 ex);rw[CQ]at v;have m:=v.del (x:=j.7+1) a6;rw[D4 i]at m;have n:X.s₀.8<=j.7+1:=Õ c.sz (Ĩ _);exact{_,τ,t',rfl,m.fJ _ _ lk,ex,J a σ _ _ _ C τ m {n,i,_,_,ex,by show 1<6;decide,.inl rfl} q}
end
end _L
namespace K61
section
variable{P:É}{w:World}{K:À}{mg:Str->Option Value}{base:Heap}
theorem iZ(L:Lk K mg):aI P w K mg base cz 7 L.f7 L.f9 ["band","many","wide"] (Nk L.au):=by
 have T:=L.T;refine L.fb.F.d2 (N:=["band","many","wide","most","weights","in_all"]) (λU A outer s H vs Q E nd hr h=>?_)
 let{x,many,n,g,M,ss,ls,rfl,B,p,q,r,t,k,O}:=h
 refine{_,(a0 (forA (qK rfl T.range (a5 af (aB (aD eU (bJ (v:=.int 8) (by rfl) L.vQ.choose_spec {_,rfl}) af)))) (ay (i:=3)) (a0 (al (i:=4) (ag (AO L) L.vF (a5 (0) (a5 (1) (a5 (2) (aB (3)))))))
  (a0 (al (i:=5) (aF (FG rfl) (by rfl) T.sum MN (aB (Di (K:=K) rfl wd1 wdL wft xC (4)))))
  (a0 (aQ (b8 fq (5) (bJ (v:=.int 40) (by rfl) L.kQ.choose_spec {_,rfl})) bK aw)
  (a8 (aQ (b8 fq (5) af) (a8 (aj (4))) aw))))))
  bK),?_}
 ac_rfl
 refine⟨_,_,rfl,rfl,1,9,rfl,⋯,?_⟩;refine cP (lo:=1) (n:=8) (λi σ u=>∃y v4 z:Option V,σ=[ρ (.ref x),ρ (.int many),ρ (.int (n:Int)),y,v4,z]/\a7 H u/\∀(m:Int) (h:Str->Int),1<=m->m<1+(i:Int)->lL g M ss ls many n m h->(ls.map h).sum=0) {τ,τ,τ,rfl,a7.refl _,λm h R X=>()} ?_ ?_
 .rintro i σ u hi ⟨y,v4,z,rfl,s2,b⟩;refine{4,x,many,n,1+(i:Int),g,M,ss,ls,rfl,B.same s2,p,q,r,t,(),λd f S Y fd C D=>?_};refine{1,.inr (.inr (.inl {rfl,.inl {_,C}})),d,1,rfl,C,λv Z=>?_};have G:=a7.upd (o:=oM v d) Z;have I:=G _ _ C;have c:(upd S v _) v=ρ (oM v d):=a6;generalize upd S v _=H4 at G I c;have j:=s2.trans (Y.trans G);refine{v,d,_,ls.map f,rfl,c,I,BP f ls,?_}
  by_cases l:(40:Int)<(ls.map f).sum
  .exact(O {1+(i:Int),(),(),b,.inr ⟨f,D,l⟩}).elim
  refine{1,_,1,rfl,false,congrArg V.bl (decide_eq_false l),aA ?_}
  by_cases J:(0:Int)<(ls.map f).sum
  .refine{1,_,1,rfl,true,congrArg V.bl (decide_eq_true J),b6 {1,?_}};exact k d f H4 j (none_of s2 fd) I {{1+(i:Int),(),(),D,b},J,()}
  .refine{1,_,1,rfl,false,congrArg V.bl (decide_eq_false J),aA ?_};refine{_,_,1,j,λm h R X a=>?_}
   by_cases e:m=1+(i:Int)
   .subst e;have:=ER D a;have:=uC a.nn
    lia
   .exact b m h R () a
 .rintro σ u ⟨y,v4,z,rfl,s2,b⟩;exact(O ⟨9,⋯,⋯,b,.inl rfl⟩).elim
theorem w9(L:Lk K mg):aI P w K mg base (qH P w) 3 L.jT L.jV ["band","many","wide"] (HL L.au L.cj):=by
 refine L.cK.F.K8 uM (λd H Q E h=>?_) (λe A outer s H d Q E f h=>?_)
 .rcases h with⟨x,many,wide,g,c,ss,ls,rfl,_⟩ |⟨x,v,u,rfl,_⟩<;>rfl
 .skip
  refine{_,(a0 (aQ (cQ (bO (ag (vT L) L.rj (a5 (0) (a5 (1) (aB (2))))))) (a8 (gV bW rfl L.ju L.Fl rfl L.AB (aB ai))) aw)
   (a8 (aj dj))),?_}
  ac_rfl
  rcases h with⟨x,many,wide,g,c,ss,ls,rfl,B,a,b,k⟩ |⟨x,v,u,rfl,hn,k⟩
  .exact{3,.inl {x,many,wide,g,c,ss,ls,rfl,B,a,b,true,rfl,aA k}}
  .exact{3,.inr {x,v,u,rfl,hn,false,rfl,b6 {rfl,k H (a7.refl _)}}}
theorem FH(L:Lk K mg):aI P w K mg base (qH P w) 6 L.Ap L.Au ["band","length","number"] (N5 L.au L.bC):=by
 have T:=L.T;refine L.pZ.F.K8 gT (λz H Q E h=>?_) (λC A outer s H z Q E D h=>?_)
 .rcases h with⟨x,g,a,ss,ls,rfl,_⟩ |⟨x,n,q,g,a,ss,ls,rfl,_⟩<;>rfl
 .skip
  have G:=fo D
  refine{_,(a0 (eT (i:=3) gT.nd rfl (ó rfl) (ag (eP L) L.dH (a5 (0) (aB (1)))))
   (a0 (aQ (PW.pt (cH (cQ (bO (ag (dO L) L.dI (aB (2))))) (cH (b8 kg (2) af) (dg (b8 zB (2) (dk G (bI bj (3) (1) (λ_ _=>rfl)) ai (λ_ _=>rfl))))))) (a8 (gV bW rfl L.jX L.sQ rfl L.oE (aB ai))) aw)
   (a0 (eT (i:=4) gT.nd rfl (ó rfl) ai)
   (a0 (eT (i:=5) gT.nd rfl (ó rfl) ai)
   (a0 (eT (i:=6) gT.nd rfl (ó rfl) (2))
   (a0 (Bv wfa rfl (cR rfl T.range (aB (1))) (iw (i:=7) gT.nd rfl (ó rfl)) bK)
   (a8 (aj (4))))))))),?_}
  ac_rfl
  rcases h with⟨x,g,a,ss,ls,rfl,B,b,c,k⟩ |⟨x,n,q,g,a,ss,ls,rfl,B,b,c,hn,I,J,k⟩
  .have o:("":Str)∈ss:=B.pm.mem_iff.mpr (cp a);refine⟨_,rfl,_,rfl,x,0,g,a,ss,ls,rfl,B,b,c,⋯,⋯,λl j m s1 f1 hl d p=>?_⟩;obtain⟨t,rfl⟩:∃t,j=[t]:=wfS.mp d;have e:=eQ.k (k:=(Ã "":Key)) (p 0 t rfl);rw[kY _ o]at e;refine{1,.int 0,rfl,.flat rfl,true,rfl,aA {1,_,1,rfl,false,rfl,aA ?_}};refine{3,l,_,_,1,rfl,aL.of hl,rfl,t,1,e,_,1,rfl,false,rfl,aA ?_};refine⟨_,rfl,_,rfl,0,rfl,⋯,⋯,cP (lo:=0) (n:=0) (λi σ r=>m=r/\∃u v y v10,σ=[ρ (.ref x),ρ (.int 0),ρ (.int 0),ρ (.ref l),ρ (.str ""),ρ (.str ""),ρ (.int 0),u,v,y,v10]) ⟨rfl,τ,τ,τ,τ,rfl⟩ (λi σ r hi=>absurd hi (Ω _)) ?_⟩;rintro σ r ⟨rfl,u,v,y,v10,rfl⟩;exact{_,rfl,k m s1}
  .have o:("":Str)∈ss:=B.pm.mem_iff.mpr (cp a);refine{2,x,(n:Int),g,a,ss,ls,rfl,B,b,c,(),(),λl j m s1 f1 hl d p=>?_};rw[ć]at d;have f:n<j.9:=();have e:=eQ.k (k:=(Ã "":Key)) (p n _ (È f));rw[kY _ o]at e;refine{1,.int q,rfl,.flat rfl,true,rfl,aA {1,_,1,rfl,false,congrArg V.bl (decide_eq_false ()),aA ?_}};exact{3,l,_,_,1,rfl,aL.of hl,b5 (by rw[Ê,È f];rfl),j[n],1,e,_,1,rfl,true,congrArg V.bl (decide_eq_true I),b6 {rfl,k m s1}}
theorem qo(L:Lk K mg):aI P w K mg base (qH P w) 4 L.je L.jl ["self","length","number"] (NP K L.ao L.au L.aP L.b4 L.bC):=by
 refine L.fW.F.Nh (N:=["self","length","number","words","block"]) (λb A outer s H e Q E nd f h=>?_)
 let{z,R,rfl,D,N,k}:=h
 refine{_,(a0 (al (i:=3) (F6 (0) L.aO.cl L.fE (ig L) (aB (1))))
  (a0 (aQ (PW.pt (cH (cQ (bO (ag (dO L) L.dI (aB (2))))) (cH (b8 kg (2) af) (dg (b8 zB (2) (1)))))) (a8 (gV bW rfl L.jX L.sQ rfl L.oE (aB ai))) aw)
  bK)),?_}
 ac_rfl
 let{c,x,a,d,g,W}:=id D
 refine{1,z,c,1,d,cI (by show ("words_in":Str)∉[("writer":Str),"pairs"];decide+kernel),1,z,R,rfl,D,N,?_};exact{1,.int 0,rfl,.flat rfl,true,rfl,aA {1,_,1,rfl,false,rfl,aA {2,_,1,rfl,true,rfl,b6 {rfl,k H (a7.refl _)}}}}
theorem qp(L:Lk K mg):aI P w K mg base (qH P w) 8 L.jg L.jo ["band","first","others"] (HN K L.au L.bC):=by
 have T:=L.T;refine L.dZ.F.K8 pj (λp H Q E h=>?_) (λr A outer s H p Q E t h=>?_)
 .rcases h with⟨x,a,g,d,ss,ls,w,n,rfl,_⟩ |⟨x,a,g,d,ss,ls,w,u,rfl,_⟩ |⟨x,a,g,d,ss,ls,w,u,n,q,rfl,_⟩ |⟨x,a,g,d,ss,ls,rfl,_⟩<;>rfl
 .skip
  refine{_,(a0 (aQ (b8 bE (1) ai) (a8 (aj (aY rB (by rfl) T.str zZ (aB (ag (IH L) L.DI (a5 (0) (aB (aY dY (by rfl) T.int wu (aB (bI bj (2) af (λ_ _=>rfl))))))))))) aw)
   (a0 (aQ (b8 bE (1) ai) (a8 (aj (jF (FH L) (t.mono ⋯) rfl L.pZ.g L.pZ.F.kp L.pZ.b .nil (nj bW) (a5 (0) (a5 (aY dY (by rfl) T.int wu (aB (bI bj (2) af (λ_ _=>rfl)))) (aB (aY dY (by rfl) T.int wu (aB (bI bj (2) af (λ_ _=>rfl)))))))))) aw)
   (a8 (aj (aY rB (by rfl) T.str zZ (aB (ag (zj L) L.sJ (a5 (0) (aB (bI bj (2) af (λ_ _=>rfl))))))))))),?_}
  ac_rfl
  rcases h with⟨x,a,g,d,ss,ls,z,n,rfl,e,hn,hl,o,B,f,c,k⟩ |⟨x,a,g,d,ss,ls,z,u,rfl,e,i,l,v,l1,B,f,c,k⟩ |⟨x,a,g,d,ss,ls,z,u,n,q,rfl,e,i,l,v,l1,o,B,f,c,y,C,k⟩ |⟨x,a,g,d,ss,ls,rfl,e,B,f,c,k⟩
  .refine{1,rfl,true,∅,b6 {2,a,_,_,1,rfl,e,b5 (j:=0) rfl,z,1,hn,1.0,x,(n:Int),g,d,ss,ls,rfl,B,1.0,c,1.0,1.0,λm s1=>{1,?_,?_}}}
   .rw[ć];exact DM f o
   .rw[ć];exact k m s1
  .exact{1,rfl,false,∅,aA {1,rfl,true,∅,b6 {2,a,_,_,1,rfl,e,b5 (j:=0) rfl,z,1,i,1.0,1,a,_,_,1,rfl,e,b5 (j:=1) rfl,u,1,l,1.0,.ok x g d ss ls rfl B 1.0 c k}}}
  .exact{1,rfl,false,∅,aA {1,rfl,true,∅,b6 {2,a,_,_,1,rfl,e,b5 (j:=0) rfl,z,1,i,1.0,1,a,_,_,1,rfl,e,b5 (j:=1) rfl,u,1,l,1.0,.no x n q g d ss ls rfl B 1.0 c 1.0 y C k}}}
  .exact{1,rfl,false,∅,aA {1,rfl,false,∅,aA {2,a,_,_,1,rfl,e,b5 (j:=0) rfl,x,g,d,ss,ls,rfl,B,1.0,c,λm s1=>{1,⋯,k m s1}}}}
end
end K61
namespace _S
inductive TY(C:Addr)(name:Str)(ok:V->Prop)(vs:List V)(H:Hp)(Q:VK)(d8:XK):Prop
 |mk (x v) (_:vs=[.ref x,v]) (_:ok v) (_:H x=ρ (XN x C)) (_:∀d,H d=τ->Q .non (upd (upd H d (.xd [(name,v)])) x (XD x C d)))
inductive FI(K:À)(C:Addr)(vs:List V)(H:Hp)(Q:VK)(d8:XK):Prop
 |mk (x:Addr) (d:Nat) (hs:List Str) (ws:List Int) (dq:List (List (Str×Nat))) (_:vs=[.ref x,.int (d:Int)]) (_:dX K C H x hs ws dq) (_:d<dq.9) (_:(∀l∈dq,∀q∈l,q.2<dq.9)) (_:dq.getD d []≠[]) (_:dq.9<=1000) (_:∀(l:Addr) (rs:List Nat) (H':Hp),a7 H H'->H l=τ->H' l=ρ (.lst ((nI rs).map V.int))->Reach dq rs->Q (.ref l) H')
inductive J4(K:À)(vs:List V)(H:Hp)(Q:VK)(d8:XK):Prop
 |mk (v:V) (d:Nat) (a:Addr) (many:Int) (n:Nat) (wl:List (List (Str×Nat))) (ts:List Nat) (_:vs=[v,.int (d:Int),.ref a]) (_:bQ K H (lG wl) v) (_:aL K H a ((nI ts).map V.int)) (_:Qy many n wl) (_:d<wl.9) (_:(∀t∈ts,(t:Int)<many)) (_:ts.9<=100000) (_:n<=10) (_:∀p H',a7 H H'->H' p=ρ (.tup [.str (eJ wl d ts).1,.int ((eJ wl d ts).2:Int)])->Q (.ref p) H')
end _S
namespace K61
section
variable{P:É}{w:World}{K:À}{mg:Str->Option Value}{base:Heap}
theorem tE(L:Lk K mg):aI P w K mg base cz 1 L.lT L.mh ["sheet","desk"] (FI K L.aX):=by
 have T:=L.T;refine L.mw.F.d2 (N:=["sheet","desk","reached","waiting","line","word","end"]) (λgG A outer s H vs Q E nd n h=>?_)
 let{x,d,hs,ws,c,rfl,S,hd,he,Mw,hn,k}:=h
 have hu:=fo n
 refine{_,(a0 (al (i:=2) dC)
  (a0 (al (i:=3) (bM (aB (1))))
  (a0 (j4 Ũ (b8 fq (A4 T.len (3)) af) (a0 (al (i:=4) (bI bj (aM (0) rfl) (GA Ħ wgK PySem.F.type_list_pop Mv (3)) (λ_ _=>rfl)))
  (a8 (forA (aW (4)) (eV rfl (aS (ay (i:=5)) (aS (ay (i:=6)) cW))) (a8 (aQ (Gf (xF hu (6) (2))) (a0 (fu hu (2) (6) dj rfl)
  (a8 (bR (iy Ħ ő ŧ f5 (3) (aB (6)))))) aw))))))
  (a8 (aj (aY (oi rfl) (by rfl) T.list ki (aB (2)))))))),?_}
 ac_rfl
 let{dx,ah,bw,cl,hx,rh,Rh,rl}:=id S
 let{UT,xs,ec,hc,Jy}:=id rl
 cases ec;have xl:xs.9=c.9:=by rw[Jy.len,Á]
 refine λrd QI=>?_;refine{1,by show 1<=sizeLine;decide,λwl Jd=>?_};have J:rd≠wl:=ae a6 Jd;have s0:a7 H (upd (upd H rd (.dK [])) wl (.lst [.int (d:Int)])):=(a7.upd QI).trans (a7.upd Jd);have Vh:(upd (upd H rd (.dK [])) wl (.lst [.int (d:Int)])) rd=ρ (.dK (dB [])):=by rw[a9 J,a6];rfl
 have Vi:(upd (upd H rd (.dK [])) wl (.lst [.int (d:Int)])) wl=ρ (.lst ((nI [d]).map V.int)):=a6;have Vj:H wl=τ:=none_of (a7.upd QI) Jd;generalize upd (upd H rd _) wl _=H0 at s0 Vh Vi
 refine{λq σ Y=>∃(f Z:List Nat) (v4 M v6:Option V),q=2*(c.9-f.9)+Z.9/\σ=[ρ (.ref x),ρ (.int (d:Int)),ρ (.ref rd),ρ (.ref wl),v4,M,v6]/\a7 H Y/\Y rd=ρ (.dK (dB f))/\Y wl=ρ (.lst ((nI Z).map V.int))/\f.Nodup/\(∀r∈f,r<c.9)/\(∀w∈Z,w<c.9)/\(∀r∈f,r∉Z->∀q∈c.getD r [],q.2∈f)/\(d∉Z->∀q∈c.getD d [],q.2∈f)/\Z.9<=f.9+1,
  {_,[],[d],τ,τ,τ,rfl,rfl,s0,Vh,Vi,whE,λr h=>absurd h Δ,λw h=>by rw[Ï.mp h];exact hd,λr h=>absurd h Δ,λh=>absurd (Ï.mpr rfl) h,Ç _},?_}
 rintro q σ Y ⟨f,Z,v4,M,v6,rfl,rfl,s3,Vk,O,nd,TZ,Vl,QJ,Ri,R⟩;have KA:=pq nd TZ
 by_cases Vm:Z=[]
 .subst Vm;refine{1,wl,1,.inl (aL.of O),_,1,rfl,false,rfl,aA ?_};refine{1,rd,1,Vk,λl hl=>?_};rw[JN];refine k l f _ (s3.trans (a7.upd hl)) (none_of s3 hl) a6 {λr n=>QJ r n Δ,TZ,λz=>?_,nd}
  cases e:c.getD d [] with
  |nil=>exact Mw e
  |cons q qs=>
   have:=Ri Δ q (by rw[e];exact Ù ..);rw[z]at this;cases this
 let{z,u,rfl,hz,Lq}:=JO Vm
 refine{1,wl,1,.inl (aL.of O),_,1,rfl,true,congrArg V.bl (decide_eq_true (by rw[Á,fv,Ò];show (0:Int)<((_+1:Nat):Int);lia)),b6 ?_};have Yh:z<c.9:=Vl z (ü _ (Ï.mpr rfl));have Vn:c[z]?=ρ (c.getD z []):=by rw[ï,È Yh];rfl
 have Yi:∀q∈c.getD z [],q.2<c.9:=he _ (ê Vn)
 let{v,Qh,Yj}:=Jy.at (i:=z) (d:=ee (c.getD z [])) (by rw[Ê,Vn];rfl)
 let{a,rr,rfl,hS,hT}:=j9 Yj
 have Yk:rr.9=(c.getD z []).9:=by rw[hT.1,Á,Á]
 refine{λσ' H'=>∃(ad:List Nat) (M v6:Option V),σ'=[ρ (.ref x),ρ (.int (d:Int)),ρ (.ref rd),ρ (.ref wl),ρ (.ref a),M,v6]/\a7 H H'/\H' rd=ρ (.dK (dB (f++ad)))/\H' wl=ρ (.lst ((nI (u++ad)).map V.int))/\(f++ad).Nodup/\(∀r∈f++ad,r<c.9)/\(∀q∈c.getD z [],q.2∈f++ad),?_,?_}
 .rintro σ' H' ⟨ad,M,v6,rfl,s',U0,Yl,Vo,Kr,j⟩;have U1:=pq Vo Kr;rw[Ò]at U1;refine{_,?_,f++ad,u++ad,_,M,v6,rfl,rfl,s',U0,Yl,Vo,Kr,λw hw=>?_,λr n U q I=>?_,λU q I=>?_,?_}
  .rw[Ò,Ò,Ò];show _<2*(c.9-f.9)+(u.9+1)
   lia
  .rcases ñ.mp hw with hw |hw
   .exact Vl w (ņ _ hw)
   .exact Kr w (ü _ hw)
  .rcases ñ.mp n with n |n
   .by_cases B:r=z
    .rw[B]at I;exact j q I
    .refine ņ _ (QJ r n (λm=>?_) q I);rcases ñ.mp m with m |m
     .exact U (ņ _ m)
     .exact B (Ï.mp m)
   .exact absurd (ü _ n) U
  .by_cases B:d=z
   .rw[B]at I;exact j q I
   .refine ņ _ (Ri (λm=>?_) q I);rcases ñ.mp m with m |m
    .exact U (ņ _ m)
    .exact B (Ï.mp m)
  .rw[Ò]at R;rw[Ò,Ò];have:u.9+1<=f.9+1:=R
   lia
 refine{1,x,L.aX,dx,_,1,s3 _ _ hx,L.bg.cl,L.bg.fw,gi ah bw cl,1,.inl {rfl,_,aL.of O},wl,_,1,rfl,O,hz,?_};rw[Lq];have s4:a7 H (upd Y wl (.lst ((nI u).map V.int))):=λb o e=>by rw[a9 (ae e Vj)];exact s3 _ _ e
 have Og:(upd Y wl (.lst ((nI u).map V.int))) rd=ρ (.dK (dB f)):=by rw[a9 J];exact Vk
 have Qx:(upd Y wl _) wl=ρ (.lst ((nI u).map V.int)):=a6;generalize upd Y wl _=H4 at s4 Og Qx;refine{cl,xs,_,1,rfl,s4.seq (.inl hc),b5 Qh,?_};refine{1,a,rfl,{_,s4.seq hS},eG (K:=K) (a:=a) (xs:=rr.map V.ref) (SK c f u x rd wl a d z H) {[],_,1,s4,by rw[û];exact Og,by rw[û];exact Qx,by rw[û];exact nd,by rw[û];exact TZ,λq I=>by rw[wg7]at I;cases I} (λi σ H5 _ q=>q.s.seq hS) ?_ ?_}
 .rintro i y σ H5 hy ⟨ad,M,v6,rfl,s5,C,X,D,G,j⟩;have hi:i<rr.9:=by have:=(Ô.mp hy).1;rwa[Á]at this
  have U2:i<(c.getD z []).9:=();rw[Ê,È hi]at hy;cases hy;have Vp:H rr[i]=ρ (.tup [.str (c.getD z [])[i].1,.int ((c.getD z [])[i].2:Int)]):=hT.2 i rr[i] (nc (iz (c.getD z [])[i])) (È hi) (by rw[Ê,Ê,È U2];rfl);have Qj:(c.getD z []).take (i+1)=(c.getD z []).take i++[(c.getD z [])[i]]:=by rw[Ē,È U2];rfl
  have Tf:=Yi _ (ă U2);generalize (c.getD z [])[i]=q at Vp Qj Tf;have Tj:=pq D G;refine{rr[i],1,gF.of (s5 _ _ Vp),rfl,_,1,_,1,rfl,?_};have g:=eQ.k (k:=(Ć (q.2:Int):Key)) C;rw[BH]at g
  by_cases m:q.2∈f++ad
  .rw[if_pos m]at g;refine{_,rfl,1,rd,1,g,false,rfl,aA ?_};refine{ad,_,1,s5,C,X,D,G,λp t=>?_};rw[Qj]at t;rcases ñ.mp t with t |t
   .exact j p t
   .rw[Ï.mp t];exact m
  .rw[if_neg m]at g;refine{_,rfl,1,rd,1,g,true,rfl,b6 ?_};refine{2,rd,1,mZ.k (k:=Ć (q.2:Int)) C (bY (by delta dB;rw[Á];lia)),?_};rw[Mz m];have Vq:(upd H5 rd (.dK (dB (f++ad++[q.2])))) wl=ρ (.lst ((nI (u++ad)).map V.int)):=by rw[a9 J.symm];exact X
   refine{1,.inl {rfl,_,aL.of Vq},1,wl,_,1,rfl,Vq,?_,?_}
   .rw[Ò]at R Tj;rw[Á,fv,Ò];have:u.9+1<=f.9+1:=R;exact bY ()
   refine{ad++[q.2],_,1,λb o e=>by rw[a9 (ae e Vj),a9 (ae e QI)];exact s5 _ _ e,by rw[a9 J,a6,ā],by rw[a6,<-ā,qO (u++ad),Û];rfl,?_,λr n=>?_,λp t=>?_}
   .rw[<-ā];refine wf6.mpr {D,by simp,λa ha b hb e=>?_};rw[Ï.mp hb]at e;rw[e]at ha;exact m ha
   .rw[<-ā]at n;rcases ñ.mp n with n |n
    .exact G r n
    .rw[Ï.mp n];exact Tf
   .rw[<-ā];rw[Qj]at t;rcases ñ.mp t with t |t
    .exact ņ _ (j p t)
    .rw[Ï.mp t];exact ü _ (Ï.mpr rfl)
 .rintro σ H5 ⟨ad,M,v6,rfl,s5,C,X,D,G,j⟩;rw[Á,Yk,õ]at j;exact⟨ad,M,v6,rfl,s5,C,X,D,G,j⟩
theorem yo(L:Lk K mg):aI P w K mg base cz 1 L.Ar L.Aw ["lines","desk","data"] (J4 K):=by
 refine L.vG.F.d2 (N:=["lines","desk","data","row","thing","step"]) (λT A outer s H vs Q E nd hr h=>?_)
 let{v,d,a,many,n,wl,ts,rfl,U,R,u,hd,l,X,hn,k}:=h
 refine{_,(a0 (al (i:=3) ai)
  (a0 (forA (aW (2)) (ay (i:=4)) (a0 (al (i:=5) (bI bj (bI bj (0) (1) (λ_ _=>rfl)) (4) (λ_ _=>rfl)))
  (a0 (yB (i:=3) nd rfl (ó rfl) (bI um (5) af (λ_ _=>rfl)) JF)
  (a8 (al (i:=1) (bI um (5) af (λ_ _=>rfl)))))))
  (a8 (aj (eC (a5 (3) (aB (1)))))))),?_}
 ac_rfl
 let{cl,xs,rfl,hc,z}:=id U
 refine{1,a,rfl,{_,R},eG (K:=K) (a:=a) (xs:=(nI ts).map V.int) (λi σ r=>∃(v4 B:Option V),σ=[ρ (.ref cl),ρ (.int ((eJ wl d (ts.take i)).2:Int)),ρ (.ref a),ρ (.str (eJ wl d (ts.take i)).1),v4,B]/\a7 H r) {τ,τ,rfl,a7.refl _} (λi σ r _ {_,_,_,s2}=>s2.seq R) ?_ ?_}
 .rintro i y σ r C ⟨v4,B,rfl,s2⟩;have hi:i<ts.9:=by have:=(Ô.mp C).1;rwa[Á,fv]at this
  have f:ts[i]?=ρ ts[i]:=È hi;rw[GQ f]at C;cases C;have D:=l _ (ă hi);have sW:ts.take (i+1)=ts.take i++[ts[i]]:=by rw[Ē,f];rfl
  generalize ts[i]=t at f D sW
  let{Y,Z}:=zi u hd (ts:=ts.take i) λx hx=>l x ((wf5 _ _).subset hx)
  have c:=EV wl d (ts.take i) t;rw[<-sW]at c;have G:=gU Y;have UX:=u.ln _ (ê G);have I:=u.wd _ (ê G);have J:xW wl (eJ wl d (ts.take i)) t=((eJ wl d (ts.take i)).1++((wl.getD (eJ wl d (ts.take i)).2 []).getD t ("",0)).1,((wl.getD (eJ wl d (ts.take i)).2 []).getD t ("",0)).2):=rfl;rw[J]at c;generalize eJ wl d (ts.take i)=s0 at *
  let{v,M,rd}:=z.at (i:=s0.2) (d:=ee (wl.getD s0.2 [])) (by rw[Ê,G];rfl)
  generalize wl.getD s0.2 []=e at *
  let{b,g,rfl,hS,S}:=j9 rd
  have KA:g.9=e.9:=by rw[S.1,Á,Á]
  have j:t<e.9:=();have m:t<g.9:=();have o:H g[t]=ρ (.tup [.str e[t].1,.int (e[t].2:Int)]):=S.2 t g[t] (nc (iz e[t])) (È m) (by rw[Ê,Ê,È j];rfl);have eq:e.getD t ("",0)=e[t]:=by rw[ï,È j];rfl
  have O:=I _ (ă j);rw[eq]at c;generalize e[t]=q at *;refine{2,cl,xs,_,1,rfl,s2.seq (.inl hc),b5 M,1,b,_,_,1,rfl,s2.seq hS,b5 (v:=.ref g[t]) (by rw[Ê,È m];rfl),?_};refine{2,g[t],_,_,1,rfl,gF.of (s2 _ _ o),rfl,_,1,rfl,ak ?_,?_}
  .rw[Z,O,â];have h1:n*min i ts.9<=10*99999:=we0 hn ()
   lia
  refine{1,g[t],_,_,1,rfl,gF.of (s2 _ _ o),rfl,?_};rw[c];exact{_,1,s2}
 .rintro σ r ⟨v4,B,rfl,s2⟩;rw[Á,fv,õ];refine{2,by show 2<=sizeLine;decide,λp hp=>?_};exact k p _ (s2.trans (a7.upd hp)) a6
theorem qt(L:Lk K mg):aI P w K mg base cz 6 L.jf L.jn ["band","many","wide","weights"] (HI L.au):=by
 have T:=L.T;refine L.js.F.d2 (N:=["band","many","wide","weights","sheet","lots","homes","closed","place"]) (λgG A outer s H vs Q E nd hr h=>?_)
 let{x,d,many,n,f,g,ws,ss,ls,rfl,B,NA,Vr,Ji,IG,IE,Qu,hd,D,Z,Tl,k}:=h
 have hu:=fo hr
 refine{_,(a0 (al (i:=4) (ag (mE L) L.iV (a5 (0) (a5 (1) (a5 (2) (aB (3)))))))
  (a0 (fQ (i:=5) rfl (az ["sheet"] [4]) nd rfl rfl (cR rfl T.range (aB (A4 T.len (aM (4) rfl)))) (λ_ _ _ _ _ _=>bx) (λ_ _ _ _ _ _=>(ag (tE L) L.mw (a5 (1) (aB (0))))))
  (a0 (fQ (i:=6) rfl (az ["sheet"] [4]) nd rfl rfl (aW (KP rfl (by rfl) T.min (by rfl) T.len (aB (5)))) (λ_ _ _ _ _ _=>bx) (λ_ _ _ _ _ _=>(bI (oP (K:=K) rfl) (tN (K:=K) rfl (1) rfl) (0) (λ_ _=>rfl))))
  (a0 (al (i:=7) dC)
  (a0 (forA (Ao (3)) (ay (i:=8)) (a8 (fu hu (7) (8) (ui (eL gR (8) (6) rfl) (dk hu (3) (8) (λ_ _=>rfl)) af) rfl)))
  (a8 (aj (7)))))))),?_}
 ac_rfl
 have nd:ls.Nodup:=B.nd.sublist B.lv.sub;have F4:ls.9<=900:=Õ B.lv.sub.length_le IE;refine{4,x,d,many,n,cE f ls,f,g,ws,ss,ls,rfl,B,Ji,IG,IE,Qu,.inl hd,jH f ls,λy H1 s1 S1=>?_};have S:=S1.same (dP _ _);have hB:=GL.first (g:=g) (ws:=ws) (ss:=ss) (n:=n) (many:=many) D Z;have Va:(av ls f).9<=ls.9:=ě _ _;have I:=hB.l;have ZO:(1:Int)<=many:=by have:=Qu.a;lia
 generalize Vs:av ls f=m at S hB Va I;generalize U3:cJ g ws ss ls n m=G at S hB I
 have U4:m≠[]:=λz=>by
  have h1:=Ed D;rw[Vs,z]at h1;have:(0:Int)=(ls.map f).sum:=h1
  lia
 have KB:0<m.9:=weI.mpr U4
 have U5:∀i,i<G.9->G.getD i []≠[]:=λi hi z=>by
  have U:G[i]?=ρ (G.getD i []):=by rw[ï,È hi];rfl
  have h1:=hB.b i _ U;rw[z]at h1;have h2:many*(m.map f).getD i 0<=0:=h1;have hw:=hB.w;have h3:=hB.p _ (Ee (ws:=m.map f) (i:=i) ());have:=Int.mul_pos (show 0<many by lia) (show 0<(m.map f).getD i 0 by lia)
  lia
 let{dx,ah,bw,cl,hx,rh,Rh,rl}:=id S
 have hh:=yY rh;refine{1,y,L.aX,dx,_,1,hx,L.bg.cl,L.bg.iB,iA ah bw cl,ah,1,.inl (.inl hh),1,(),by rw[Á];lia,λll U6=>?_};have en:(((m.map V.str).9:Nat):Int).toNat=m.9:=by rw[Á,ć]
 rw[en];refine Am (λi v H'=>∃q r,v=.ref q/\q≠ll/\H' q=ρ (.lst ((nI r).map V.int))/\Reach G r) (λi v Ha Hb ys h hl kp=>?_) (o8 0 m.9) U6 (ak (by rw[Á,ŉ];lia)) (λ_ _=>Ā) (λi v H3 ys Q' hv s3 O6 qq=>?_) (λys H3 s3 h3 Vt hR=>?_)
 .let{q,r,rfl,U,V6,X}:=h
  exact{q,r,rfl,U,kp _ _ V6 U,X}
 .have hi:i<m.9:=by have:=(Ô.mp hv).1;rwa[Á,ŉ]at this
  rw[Ê,List.getElem?_range hi]at hv
  have hv:v=.int (i:Int):=by
   rw[<-Î hv];show V.int (0+(i:Int))=_;rw[Int.zero_add]
  subst hv;refine{2,y,i,m,_,G,rfl,S.same s3,(),λl hl q U=>by rw[I];exact hB.e l hl q U,U5 i (),(),λl r H' s' fl U1 t=>?_};exact qq _ H' s' {l,r,rfl,(λz=>by rw[z,O6]at fl;cases fl),U1,t}
 let{ps,rfl,Rp}:=JP (ys:=ys) (R:=λq=>∃r,H3 q=ρ (.lst ((nI r).map V.int))/\Reach G r) λv hv=>by
  let{i,hi,e}:=Μ hv
  let{q,r,e1,_,e2,e3}:=hR i v (by rw[È hi,e])
  exact⟨q,e1,r,e2,e3⟩
 have hpl:ps≠[]:=λz=>by
  rw[Á,Á,ŉ,z]at Vt;have:0=m.9:=Vt
  lia
 refine{1,ll,ps,rfl,aL.of h3,hpl,λq U=>by let{r,e,_}:=Rp q U;exact{_,aL.of e},λq U=>?_}
 let{r,X,t}:=Rp q U
 have KA:=pq t.nd t.lt;refine{q,rfl,{_,aL.of X},λlh Tz=>?_};refine da (λ_=>true) (λv=>match v with |.int d=>.str (m.getD d.toNat "") |_=>.non) (aU K q _) Tz (ak (by rw[Á,fv];lia)) (λH' s'=>aL.of (s' _ _ X)) (λv H8 Q' hy s8 qq=>qq H8 (a7.refl _)) (λv H4 Q' hy _ s4 qq=>?_) (λH4 s4 h4=>?_)
 .let{n',Jh,rfl}:=yL hy
  have QK:n'<m.9:=by rw[<-I];exact t.lt n' Jh
  have Y:=s3.trans s4;exact{1,y,L.aX,dx,_,1,Y _ _ hx,L.bg.cl,L.bg.iB,iA ah bw cl,1,ah,_,_,1,rfl,Y.seq (.inl hh),b5 (v:=.str (m.getD n' "")) (by rw[Ê,È QK,ï,È QK];rfl),qq H4 (a7.refl _)}
 have e4:(((nI r).map V.int).filter λ_=>true).map (λv=>match v with |.int d=>V.str (m.getD d.toNat "") |_=>.non)=(r.map λd=>m.getD d "").map V.str:=by
  rw[ċ.mpr (λ_ _=>rfl)];unfold nI;rw[Ì,Ì,Ì];rfl
 rw[e4]at h4;have Y:=s3.trans s4;refine λdl C=>?_;have M:=s1.trans Y;have Oj:d≠dl:=ae (M _ _ hd) C;have Ym:(upd H4 dl (.dK [])) d=ρ (.dK (bG (cE f ls))):=a7.upd C _ _ (M _ _ hd);refine{1,d,1,.inl Ym,λo H5 h5 O1=>?_};have Vc:H5 dl=ρ (.dK []):=by rw[O1 dl (Ü Oj),a6]
 have Yn:lh≠d:=λz=>by rw[z]at h4;rw[M _ _ hd]at h4;cases h4
 have Yo:H5 lh=ρ (.lst ((r.map λd=>m.getD d "").map V.str)):=by rw[O1 lh Yn];exact a7.upd C _ _ h4
 have k5:∀c O,H c=ρ O->c≠d->H5 c=ρ O:=λc O e hc=>by rw[O1 c hc];exact a7.upd C _ _ (M _ _ e)
 have U7:H dl=τ:=none_of M C;have U8:dl≠lh:=λz=>by rw[z]at C;rw[h4]at C;cases C
 have J:=j5 d o (bG (cE f ls));rw[show ((bG (cE f ls)).map λkv=>kV kv.1)=ls.map V.str by delta bG cE;rw[Ì,Ì];rfl]at J;refine og J (λj σ H6=>∃(v8:Option V),σ=[ρ (.ref x),ρ (.int many),ρ (.int (n:Int)),ρ (.ref d),ρ (.ref y),ρ (.ref ll),ρ (.ref lh),ρ (.ref dl),v8]/\H6 dl=ρ (.dK (bG (cE (cN (r.map λd=>m.getD d "") f) (ls.take j))))/\∀c O,H5 c=ρ O->c≠dl->H6 c=ρ O) {τ,rfl,Vc,λc O e _=>e} (λj σ H6 _ {_,_,_,kk}=>kk _ _ h5 Oj) ?_ ?_
 .rintro j v σ H6 hy ⟨v8,rfl,h6,kk⟩
  let{p,Oh,rfl,hj,CI,sW}:=gj hy
  have II:p∉(cE (cN (r.map λd=>m.getD d "") f) (ls.take j)).map (·.1):=by rw[qQ];exact hH nd Oh
  have put:∀u,u=cN (r.map λd=>m.getD d "") f p->putK (bG (cE (cN (r.map λd=>m.getD d "") f) (ls.take j))) (Ã p:Key) (.int u)=bG (cE (cN (r.map λd=>m.getD d "") f) (ls.take (j+1))):=λu Yp=>by
   rw[qN II,sW,Yp];delta cE;rw[Û];rfl
  have hlen:(bG (cE (cN (r.map λd=>m.getD d "") f) (ls.take j))).9<sizeLine:=by rw[j6];delta cE;rw[Á,â];exact bY ()
  have g6:=eQ.f (k:=(Ã p:Key)) (kk _ _ h5 Oj);rw[dR,jH f ls p CI]at g6;refine{2,lh,1,.inl (aL.of (kk _ _ Yo (Ü U8))),rfl,eZ _,decide (p∈r.map λd=>m.getD d ""),congrArg V.bl (fm p _),?_}
  by_cases hp:p∈r.map λd=>m.getD d ""
  .rw[decide_eq_true hp];refine b6 {2,d,1,g6,2,dl,1,mZ.k (k:=Ã p) h6 hlen,?_};exact{1,by rw[a6,put (f p) (by delta cN;rw[if_pos hp])],λc O e hc=>by rw[a9 hc];exact kk c O e hc}
  .rw[decide_eq_false hp];refine aA {2,dl,1,mZ.k (k:=Ã p) h6 hlen,?_};exact{1,by rw[a6,put 0 (by delta cN;rw[if_neg hp])],λc O e hc=>by rw[a9 hc];exact kk c O e hc}
 rintro σ H6 ⟨v8,rfl,h6,kk⟩;rw[Á,õ]at h6;subst Vs;subst U3;exact{1,k dl _ H6 (λc o e hc=>kk _ _ (k5 c o e hc) (ae e U7)) U7 h6 (uH D) (Fx D Z t) (Eg D (λd hd=>by rw[<-I];exact t.lt d hd) t.ne) (zT D) (Ef D)}
theorem ip(L:Lk K mg):aI P w K mg base cz 1 L.dn L.fH ["self","number"] (TY L.aT "number" Sz):=by
 refine L.AG.d2 (N:=["self","number"]) (λc A outer s H f Q E nd g h=>?_)
 let{x,v,rfl,e,a,k}:=h
 refine{_,(a0 (bR (J1 rfl L.sP L.XB (a5 (0) (aB (JE (GD (Ni (1) (GD Mo))))))))
  (a8 (KQ (CB:=L.aG) (0) (1) rfl))),?_}
 ac_rfl
 rcases e with rfl |⟨i,rfl,b⟩
 .refine{1,ak ∅,1,.inr {rfl,ak ∅,ak ∅,ak ∅,x,L.aT,_,1,a,L.dJ,?_}};exact{2,x,L.aT,1,a,L.dJ,L.gz,λd hd=>k d hd}
 .have l1:=PyProof.Rows.int_text_len_1921 b;refine{1,ak ∅,1,.inl {i,rfl,b,ak ?_,ak ?_,ak ?_,x,L.aT,_,1,a,L.dJ,?_}}
  .exact Õ (uQ (show _<=1000 by decide+kernel) l1) ⋯
  .exact Õ (uQ (uQ (show _<=1000 by decide+kernel) l1) (show _<=1000 by decide+kernel)) ⋯
  .exact Õ (uQ (uQ (show _<=1000 by decide+kernel) l1) (show _<=1000 by decide+kernel)) ⋯
  exact{2,x,L.aT,1,a,L.dJ,L.gz,λd hd=>k d hd}
theorem wR(L:Lk K mg):aI P w K mg base (qH P w) 3 L.pG L.pR ["data","many"] (Hm K L.aT):=by
 have T:=L.T;refine L.gP.F.Nh (N:=["data","many","number","thing"]) (λY A outer s H vs Q E nd U h=>?_)
 let{v,many,rfl,h}:=h
 refine{_,(a0 (aQ (cQ (bO (aF cU (by rfl) T.sY gu (a5 (0) (aB (gJ (v:=.ty "list") (by rfl) T.list ki rfl)))))) (a8 (B1 bW rfl L.dJ L.yj L.yk (ip L) (U.mono ⋯) L.vL rfl L.vK (aB cm))) aw)
  (a8 (Bv wfa rfl (Dg (by rfl) T.enum (aB (0))) (eV rfl (aS (ay (i:=2)) (aS (ay (i:=3)) cW))) (a8 (aQ (PW.pt (cH (cQ (bO (ag (dO L) L.dI (aB (3))))) (cH (b8 kg (3) af) (dg (b8 zB (3) (1)))))) (a8 (B1 bW rfl L.dJ L.yj L.yk (ip L) (U.mono ⋯) L.vL rfl L.vK (aB (2)))) aw))))),?_}
 ac_rfl
 rcases h with⟨a,Z,rfl,ha,G,k⟩ |⟨a,xs,i,y,rfl,ha,X,hb,I,hi,k⟩ |⟨t,ht,hk,k⟩
 .refine{1,_,_,_,true,rfl,eA.lst ha,rfl,true,rfl,aA ?_};refine{1,a,1,aL.of ha,ug (K:=K) (a:=a) (xs:=(nI Z).map V.int) (λi σ c=>a7 H c/\∃r u,σ=[ρ (.ref a),ρ (.int many),r,u]) {a7.refl _,τ,τ,rfl} (λi σ c _ p=>p.1.seq (aL.of ha)) ?_ (λσ c p=>k c p.1)};rintro i x σ c T B ⟨s2,r,u,rfl⟩ J
  let{n,hn,rfl}:=yL (ê B)
  have M:=G n hn;refine{T,1,gF.of a6,rfl,_,1,_,1,rfl,?_};have d:=s2.trans (a7.upd (o:=.tup [.int (i:Nat),.int (n:Int)]) J);generalize upd c T _=H3 at d;refine{1,.int (n:Int),rfl,.flat rfl,true,rfl,aA ?_};refine{1,_,1,rfl,false,congrArg V.bl (decide_eq_false ()),aA ?_};refine{2,_,1,rfl,false,congrArg V.bl (decide_eq_false ()),aA ?_};exact{d,_,1}
 .refine{1,_,_,_,true,rfl,eA.lst ha,rfl,true,rfl,aA ?_};refine{1,a,1,aL.of ha,ug (K:=K) (a:=a) (xs:=xs) (λj σ c=>j<=i/\a7 H c/\∃r u,σ=[ρ (.ref a),ρ (.int many),r,u]) {à _,a7.refl _,τ,τ,rfl} (λj σ c _ p=>p.2.1.seq (aL.of ha)) ?_ (λσ c p=>?_)}
  .rintro j x σ c T B ⟨ZP,s2,r,u,rfl⟩ J;refine{T,1,gF.of a6,rfl,_,1,_,1,rfl,?_};have d:=s2.trans (a7.upd (o:=.tup [.int (j:Nat),x]) J);generalize upd c T _=H3 at d
   by_cases O:j=i
   .subst O;rw[X]at B;cases B
    have f:((j:Nat):Int).natAbs.log2<1920:=by
     have h1:((j:Nat):Int).natAbs<2^72:=()
     by_cases z:((j:Nat):Int).natAbs=0
     .rw[z];decide
     .have:=(Nat.log2_lt z).mpr h1
      lia
    let{R,C}:=hb
    rcases C with hf |⟨q,rfl,hq⟩
    .refine{1,y,rfl,R.same d,false,congrArg V.bl hf,b6 (b6 ?_)};refine{1,by show 1<=sizeLine;decide,λe l=>{e,.int (j:Nat),rfl,.inr {_,rfl,f},a6,λb hd=>{rfl,.inr {b,a6,?_}}}}
     let{S,g,m}:=jL (o2:=.xd [("number",.int (j:Nat))]) (o3:=XD e L.aT b) l hd
     rw[m];exact k b _ (d.trans (a7.upd g)) (none_of d g) a6
    .refine{1,.int q,rfl,.flat rfl,true,rfl,aA ?_}
     by_cases D:q<0
     .refine{1,_,1,rfl,true,congrArg V.bl (decide_eq_true D),b6 (b6 ?_)};refine{1,by show 1<=sizeLine;decide,λe l=>{e,.int (j:Nat),rfl,.inr {_,rfl,f},a6,λb hd=>{rfl,.inr {b,a6,?_}}}}
      let{S,g,m}:=jL (o2:=.xd [("number",.int (j:Nat))]) (o3:=XD e L.aT b) l hd
      rw[m];exact k b _ (d.trans (a7.upd g)) (none_of d g) a6
     .refine{1,_,1,rfl,false,congrArg V.bl (decide_eq_false D),aA ?_};refine{2,_,1,rfl,true,congrArg V.bl (decide_eq_true (show many<=q by lia)),b6 ?_};refine{1,by show 1<=sizeLine;decide,λe l=>{e,.int (j:Nat),rfl,.inr {_,rfl,f},a6,λb hd=>{rfl,.inr {b,a6,?_}}}}
      let{S,g,m}:=jL (o2:=.xd [("number",.int (j:Nat))]) (o3:=XD e L.aT b) l hd
      rw[m];exact k b _ (d.trans (a7.upd g)) (none_of d g) a6
   .let{n,rfl,M}:=I j x () B
    refine{1,.int (n:Int),rfl,.flat rfl,true,rfl,aA ?_};refine{1,_,1,rfl,false,congrArg V.bl (decide_eq_false ()),aA ?_};refine{2,_,1,rfl,false,congrArg V.bl (decide_eq_false ()),aA ?_};exact{(),d,_,1}
  .have:=(Ô.mp X).1;have:=p.1
   lia
 .refine{1,_,_,t,false,rfl,ht,hk,false,rfl,b6 ?_};refine{by show 1<=sizeLine;decide,λe l=>{e,.non,rfl,.inl rfl,a6,λb hd=>{rfl,.inr {b,a6,?_}}}}
  let{S,g,m}:=jL (o2:=.xd [("number",.non)]) (o3:=XD e L.aT b) l hd
  rw[m];exact k b _ (a7.upd g) g a6
theorem tF(L:Lk K mg):aI P w K mg base (qH P w) 4 L.lX L.mm ["self","data"] (KJ K L.ao L.au L.aP L.aT):=by
 refine L.ia.F.K8 kh (λvs H Q E h=>?_) (λgG A outer s H vs Q E hr h=>?_)
 .rcases h with⟨x,a,R,ts,rfl,_⟩ |⟨x,a,R,q,rfl,_⟩<;>rfl
 .skip
  refine{_,(a0 (bR (jF (wR L) (hr.mono ⋯) rfl L.gP.g L.gP.F.kp L.gP.b .nil (nj bW) (a5 (1) (aB (aM (0) rfl)))))
   (a0 (eT (i:=2) kh.nd rfl (ó rfl) (ag (yo L) L.vG (a5 (aM (0) rfl) (a5 (aM (0) rfl) (aB (aD gq (1) (aD Gs (bM (aB af)) (n7 (0) L.aq.cl L.fF (gA L)))))))))
   (a8 (aj (aD b9 (aM (0) rfl) (bI um (2) af (λ_ _=>rfl))))))),?_}
  ac_rfl
  rcases h with⟨x,a,R,ts,rfl,y,ha,l,ZQ,k⟩ |⟨x,a,R,q,rfl,y,ha,C,k⟩
  rotate_left
  .let{{d,p,xb,aa,N,dp,wa,wb,wc,wz,ys,f,_},ok}:=id y
   exact{2,x,L.ao,d,_,1,f,L.aq.cl,L.aq.Cd,uV ..,.ref a,R.many,rfl,.inr (.inl ⟨a,[.int q],0,.int q,rfl,ha,rfl,{.flat rfl,.inr {q,rfl,.inr C}},(λj z h=>absurd h (Ω _)),⋯,k⟩)}
  let{{d,p,xb,aa,N,dp,wa,wb,wc,wz,ys,f,_,_,_,rl,_},ok}:=id y
  have m1:=ok.m1;have hb:=ok.b1;have IE:=ok.c1;have B:=zi ok.w (weI.mpr ok.w.ne) (ts:=Ú R.b 0) λt D=>by rw[(wdR.mp D).2];lia
  rw[Ő]at B;refine{2,x,L.ao,d,_,1,f,L.aq.cl,L.aq.Cd,uV ..,.ref a,R.many,rfl,.inl {a,ts,rfl,ha,l,λO s1=>?_}};have S:=s1 _ _ f;refine{1,x,L.ao,d,_,1,S,L.aq.cl,L.aq.fw,rN ..,1,x,L.ao,d,_,1,S,L.aq.cl,L.aq.Dy,A8 ..,1,by show 1<=sizeLine;decide,λT G=>?_}
  let{s2,I}:=bz (H:=O) (o:=.lst [V.int 0]) G
  generalize upd O T _=U at s2 I;have e:=s1.trans s2;refine{1,x,d,1,e _ _ f,dG _ _ _ _ _ _ _ _ ∅,x,R,rfl,y.same e,?_};refine{T,(R.c:Int),[V.int 0],rfl,rfl,I,(),(),ak (by show 1*((R.c:Int)).toNat<=_;lia),λX J=>?_};rw[ć,uL]
  let{Y,Z}:=bz (H:=U) (o:=.lst ((nI (Ú R.c 0)).map V.int)) J
  generalize upd U X _=H3 at Y Z;have m:=e.trans Y;refine{a,X,_,1,rfl,m _ _ ha,Z,ak ?_,λpc M=>?_}
  .rw[Á,Á,fv,fv,Ő]
   lia
  rw[<-Û,<-qO]
  let{s4,h4}:=bz (H:=H3) (o:=.lst ((nI (ts++Ú R.c 0)).map V.int)) M
  generalize upd H3 pc _=H4 at s4 h4;have r:=m.trans s4;have u:∀t:Nat,t∈ts++Ú R.c 0->(t:Int)<R.many:=λt D=>EB m1 l R.b R.c t (ü _ D);have w1:=zi ok.w B.1 u;rw[Ò,Ő]at w1;refine{.ref N,_,pc,R.many,R.n,R.wl,ts++Ú R.c 0,rfl,bQ.same r _ _ rl,aL.of h4,ok.w,B.1,u,by rw[Ò,Ő];lia,ok.IK,λq H5 s5 C=>?_};have v:=r.trans s5;refine{1,x,L.ao,d,_,1,v _ _ f,L.aq.cl,L.aq.ri,nu ..,1,q,_,_,1,rfl,gF.of C,rfl,_,1,rfl,ak ?_,k H5 v};show R.o.1.9+_<=_;delta Wr.o;rw[B.2,w1.2];have h1:R.n*R.b<=10*1000:=we0 ok.IK hb;have I:R.n*(ts.9+R.c)<=10*11000:=we0 ok.IK ()
  lia
theorem n9(L:Lk K mg):aI P w K mg base (qH P w) 6 L.hX L.i5 ["writer","first","others"] (IP K L.ao L.au L.aP L.bC L.aT):=by
 have T:=L.T;refine L.d4.F.K8 n0 (λvs H Q E h=>?_) (λgG A outer s H vs Q E M h=>?_)
 .rcases h with⟨x,a,R,os,G,rfl,_⟩ |⟨x,a,R,w,q,rfl,_⟩ |⟨x,a,R,rfl,_⟩ |⟨x,a,R,w,u,rfl,_⟩<;>rfl
 .skip
  refine{_,(a0 (aQ (b8 bE (1) ai) (a8 (aj (gM (0) L.aq.cl L.ia.m (tF L) (M.mono ⋯) L.ia.b .nil (nj bW) (aB (c6 rfl (az [] []) (aW (2)) (λ_ _ _ _ _ _=>bx) (λ_ _ _ _ _ _=>(aY dY (by rfl) T.int wu (aB (0))))))))) aw)
   (a0 (aQ (b8 bE (1) ai) (a8 (aj (ag (yl L) L.vI (aB (F6 (mJ L.yi (ie L) (M.mono ⋯) rfl L.Az L.fD.b .nil ni (aB (0))) L.aO.cl L.nW (vZ L) (aB (bI bj (2) af (λ_ _=>rfl)))))))) aw)
   (a8 (aj (ag (yl L) L.vI (aB (gM (mJ L.yi (ie L) (M.mono ⋯) rfl L.Az L.fD.b .nil ni (aB (0))) L.aO.cl L.fW.m (qo L) (M.mono ⋯) L.fW.b .nil (nj bW) (a5 (aY dY (by rfl) T.int wu (aB (bI bj (2) af (λ_ _=>rfl)))) (aB (aY dY (by rfl) T.int wu (aB (bI bj (2) af (λ_ _=>rfl))))))))))))),?_}
  ac_rfl
  rcases h with⟨x,a,R,os,G,rfl,d,f,S,hl,Yq,ht,k⟩ |⟨x,a,R,z,q,rfl,d,f,g,hl,hq,k⟩ |⟨x,a,R,rfl,d,f,N,k⟩ |⟨x,a,R,z,u,rfl,d,h0,U,l0,l1,f,N,k⟩
  .let{{X,p,xb,aa,ll,dp,wa,wb,wc,wz,ys,Y,_},ok}:=id f
   refine{1,rfl,true,∅,b6 {1,x,X,1,Y,dG _ _ _ _ _ _ _ _ ∅,1,a,rfl,{_,d},λZ i=>?_}};refine comp_map (λv=>match v with |.str z=>.int ((intText? z).getD 0) |_=>.non) (aU K a _) i (by rw[Á];exact ak 1.0) (λI r=>r.seq d) (λy C Q' hy t q=>?_) (λC t O=>?_)
   .let{z,g,rfl}:=Å.mp hy
    obtain⟨n,hn⟩:∃n,intText? z=ρ n:=by
     have hm:intText? z∈os.map intText?:=Å.mpr ⟨z,g,rfl⟩;rw[S]at hm
     let{n,_,e}:=Å.mp hm
     exact⟨n,e.symm⟩
    refine{1,z,n,rfl,hn,by have:=hl z g;omega,?_};have q2:Q' (.int ((intText? z).getD 0)) C:=q C (a7.refl _);rw[hn]at q2;exact q2
   .have e3:(os.map V.str).map (λv=>match v with |.str z=>V.int ((intText? z).getD 0) |_=>.non)=(nI G).map V.int:=by
     rw[Ì]
     have U:(os.map intText?).map (λo=>V.int (o.getD 0))=(nI G).map V.int:=by
      rw[S,Ì];rfl
     rw[<-U,Ì];rfl
    rw[e3]at O
    have Nr:G.9<=10000:=by
     have:=congrArg Ĳ S;rw[Á,Á,fv]at this;omega
    exact .ok x Z R G rfl (f.same t) O ht Nr λI r=>k I (t.trans r)
  .let{{X,p,xb,aa,ll,dp,wa,wb,wc,wz,ys,Y,_},ok}:=id f
   refine{1,rfl,true,∅,b6 {1,x,X,1,Y,dG _ _ _ _ _ _ _ _ ∅,1,a,rfl,{_,d},λZ i=>?_}};refine comp_map (λ_=>.int q) (aU K a [.str z]) i (show 1<=sizeLine by decide) (λI r=>r.seq d) (λy C Q' hy t qq=>?_) (λC t O=>?_)
   .rw[Ï.mp hy];exact{1,z,q,rfl,g,1.0,qq C (a7.refl _)}
   .exact .no x Z R q rfl (f.same t) O hq (Ac k t)
  .refine{1,rfl,false,∅,aA {1,rfl,true,∅,b6 {1,λz dz nz U9 Yr=>?_}}};have J:a7 H (upd (upd H dz (.own z)) z (.ins L.b4 dz [])):=dU nz U9;refine{z,dz,x,R,rfl,a6,f.same (zU J nz),λH1 k1 D=>{rfl,?_}};have s1:a7 H H1:=λc o e=>k1 _ _ (J _ _ e) (ae e nz)
   let{B,x',a',g,_}:=id D
   refine{z,B,1,g,cI (by show ("read":Str)∉[("writer":Str),"pairs"];decide+kernel),1,a,_,_,1,rfl,s1.seq d,b5 (j:=0) rfl,z,R,rfl,D,N,λl H2 s2 h2=>{l,rfl,h2,k H2 (s1.trans s2)}}
  .refine{1,rfl,false,∅,aA {1,rfl,false,∅,aA {1,λy dy ny TH Y4=>?_}}};have J:a7 H (upd (upd H dy (.own y)) y (.ins L.b4 dy [])):=dU ny TH;refine{y,dy,x,R,rfl,a6,f.same (zU J ny),λH1 k1 D=>{rfl,?_}};have s1:a7 H H1:=λc o e=>k1 _ _ (J _ _ e) (ae e ny)
   let{B,x',a',g,_}:=id D
   exact{y,B,1,g,cI (by show ("touched":Str)∉[("writer":Str),"pairs"];decide+kernel),1,a,_,_,1,rfl,s1.seq d,b5 (j:=0) rfl,z,1,h0,1.0,1,a,_,_,1,rfl,s1.seq d,b5 (j:=1) rfl,u,1,U,1.0,y,R,rfl,D,N,λI r=>k I (s1.trans r)}
end
end K61
namespace _L
theorem FJ{Ok:Hp->Prop}{Q:Hp->Prop}(R:Nat->V->Hp->Prop)(C:∀i y I g ys,R i y I->I l=ρ (.lst ys)->(∀b o,I b=ρ o->b≠l->g b=ρ o)->R i y g)(T:kX J Ok xs)(hl:H l=τ)(hz:xs.9<=sizeLine)(r:∀H',a7 H H'->Ok H')
 (he:∀i x t ys,xs[i]?=ρ x->a7 H t->t l=ρ (.lst ys)->∃p a b c,x=.ref p/\gF K t p [a,b,c]/\∀Q',(∀y H',a7 t H'->R i y H'->Q' y H')->te (ρ a::ρ b::ρ c::U) t Q')
 (hd:∀ys H',a7 H H'->H' l=ρ (.lst ys)->ys.9=xs.9->(∀i y,ys[i]?=ρ y->R i y H')->Q H'):uw K J l U tX te H Q:=by
 refine{λi m d g=>m=xs.9-i/\i<=xs.9/\a7 H g/\g l=ρ (.lst d)/\d.9=i/\∀j y,d[j]?=ρ y->R j y g,{xs.9,by simp,à _,a7.upd hl,a6,rfl,λj y h=>by simp at h},?_};rintro i m d g ⟨rfl,hi,s2,n,f,D⟩;refine{n,?_}
 by_cases k:i<xs.9
 .refine .inr {T.go i g (r _ s2) k,by rw[f];lia,λx t y=>?_}
  let{e,E}:=T.we i g x t (r _ s2) k y
  subst e
  let{p,a,b,c,rfl,G,L}:=he i x _ d E s2 n
  refine{p,a,b,c,rfl,G,?_};delta tX;dsimp only;rw[if_pos rfl];refine L _ λy u v w=>{v _ _ n,xs.9-(i+1),(),rfl,k,λb o e=>?_,a6,by rw[Ò,f];rfl,λj z q=>?_}
  .rw[a9 (ae e hl)];exact v _ _ (s2 _ _ e)
  .have s:=v _ _ n;have kp:∀b o,u b=ρ o->b≠l->(upd u l (.lst (d++[y]))) b=ρ o:=λb o e M=>by rw[a9 M];exact e
   by_cases A:j<d.9
   .rw[ģ A]at q;exact C j z u _ _ (C j z _ _ _ (D j z q) n λb o e _=>v _ _ e) s kp
   .rw[ĉ ()]at q
    have B:j-d.9=0:=by
     have:=(Ô.mp q).1;simp at this
     lia
    rw[B]at q;cases q;have:j=i:=();rw[this];exact C i y u _ _ w s kp
 .have e:i=xs.9:=();subst e;exact .inl {T.stop g (r _ s2),hd d g s2 n f D}
theorem J9{Ok:Hp->Prop}{Q:Hp->Prop}(j:List kS)(U:kX J Ok xs)(hl:H l=τ)(hz:xs.9<=sizeLine)(t:j.9=xs.9)(I:∀H',a7 H H'->Ok H')
 (he:∀(i:Nat) (x:V) (d:kS) g,xs[i]?=ρ x->j[i]?=ρ d->a7 H g->∃p a b c,x=.ref p/\gF K g p [a,b,c]/\∀C,(∀y H',a7 g H'->bQ K (aH g H') d y->C y H')->te (ρ a::ρ b::ρ c::T) g C)
 (hd:∀H',a7 H H'->bQ K (aH H H') (.lst j) (.ref l)->Q H'):uw K J l T tX te H Q:=by
 refine FJ (λi y H'=>∀d,j[i]?=ρ d->∃g o,a7 H g/\g l=ρ o/\bQ K (aH g H') d y) ?_ U hl hz I (λi x g n s h k=>?_) (λn H' q u m v=>?_)
 .intro i y E G n r w kp d f
  let{g,o,h,k,r}:=r d f
  exact{g,o,h,k,bQ.same (cb k kp) d y r}
 .have hi:i<j.9:=by rw[t];exact(Ô.mp s).1
  let{p,a,b,c,e,z,A}:=he i x j[i] g s (È hi) h
  refine{p,a,b,c,e,z,λC B=>A C λy H' q r=>B y H' q λd f=>?_};rw[È hi]at f;cases f;exact{g,_,h,k,r}
 .refine hd H' q {l,n,rfl,.inl (cG hl u),cF.qE j n (by rw[t,m]) λi d y f D=>?_}
  let{g,o,h,k,r}:=v i y D d f
  exact bQ.same (fT h) d y r
end _L
namespace K61
section
variable{P:É}{w:World}{K:À}{mg:Str->Option Value}{base:Heap}
theorem rD(L:Lk K mg):aI P w K mg base cz 5 L.gx L.kA ["self","weights","splits","kept","last"] (Kg K L.aP L.aX):=by
 have T:=L.T;refine L.kL.F.d2 (N:=["self","weights","splits","kept","last"]) (λgG A outer s H vs Q E nd hr h=>?_)
 let{x,f,d,z,u,v,m,p,ks,hs,ws,Y,rfl,D,hd,Ys,T5,S,n1,n2,n3,n4,n5,k}:=h
 refine{_,(a0 (c7 (0) (aY By (by rfl) T.dict Q0 (aB (1))) rfl)
  (a0 (c7 (0) (Ik rfl (az [] []) (az [] []) (az [] []) {⋯,⋯,⋯} (aW (2)) (λ_ _ _ _ _ _=>bx) (λ_ _ _ _ _ _=>(eC (a5 (0) (a5 (aY (wo (K:=K) rfl) (by rfl) T.list ki (aB (1))) (aB (2))))))) rfl)
  (a0 (c7 (0) (aY dQ (by rfl) T.list ki (aB (3))) rfl)
  (a8 (c7 (0) (ag (kO L) L.i7 (aB (4))) rfl))))),?_}
 ac_rfl
 let{c,rfl,hc}:=pf T5
 let{b,xs,rfl,hb,Z}:=Ys
 have xl:xs.9=p.9:=by rw[Z.len,Á]
 have G:∀{d:Addr} {ys:List V} {H':Hp},aL K H d ys->(∀b o,H b=ρ o->b≠x->H' b=ρ o)->aL K H' d ys:=λhS kp=>(eN kp).seq (yv D hS);refine{1,d,1,hd,λa I=>?_};have B:x≠a:=ae D I;refine{1,x,L.aP,f,[],rfl,by rw[a9 B];exact D,L.d5.cl,L.d5.mL,(show 0<1000 by decide),?_};rw[Pm];have k1:∀d o,H d=ρ o->d≠x->(upd (upd H a (.dK (bG m))) x (.ins L.aP f (xM a))) d=ρ o:=λd o e hd=>by rw[a9 hd];exact a7.upd I _ _ e
 have x1:(upd (upd H a (.dK (bG m))) x _) x=ρ (.ins L.aP f (xM a)):=a6;have a1:(upd (upd H a (.dK (bG m))) x (.ins L.aP f (xM a))) a=ρ (.dK (bG m)):=by rw[a9 B.symm,a6]
 generalize upd (upd H a _) x _=H1 at k1 x1 a1 ⊢;have Ua:=cF.same (eN k1) _ _ (cF.off D _ _ Z);have Vu:aL K H1 b xs:=G (.inl hb) k1;refine{1,b,rfl,{_,Vu},λj Kr=>?_};refine J9 (K:=K) (p.map EA) (aU K b xs) Kr (ak ()) (by rw[Á,xl]) (λH' s'=>s'.seq Vu) (λi v dd n hv l U=>?_) (λn U r3=>?_)
 .let{d',e',r}:=Ua.get i v hv
  rw[l]at e';cases e';rw[Ê]at l
  cases e:p[i]? with
  |none=>rw[e]at l;cases l
  |some sp=>
   rw[e]at l;cases l
   let{r0,ys,rfl,hT,h2}:=r
   let{v1,ZR,rfl,{rfl,_},h3}:=h2
   let{v2,UQ,rfl,r2,h4}:=h3
   let{v3,UR,rfl,{rfl,_},h5}:=h4
   cases(show UR=[] from h5)
   let{l2,rfl,QL}:=pf r2
   refine{r0,_,_,1,gF.of (U _ _ hT),λQ' qq=>?_};refine{2,l2,1,.inl (U.seq QL),λl3 J=>?_};refine{1,by show 3<=sizeLine;decide,λt ht=>?_};have s4:a7 (upd n l3 (.lst ((nI sp.2.1).map V.int))) (upd (upd n l3 (.lst ((nI sp.2.1).map V.int))) t (.tup [.int (sp.1:Int),.ref l3,.int sp.2.2])):=a7.upd ht;refine qq _ _ ((a7.upd J).trans s4) ?_;exact K9 (d:=sp.1) (ns:=sp.2.1) (w:=sp.2.2) (cG (none_of (a7.upd J) ht) a6) (cG J (s4 _ _ a6))
 have ZS:x≠j:=ae x1 Kr;have x3:=U _ _ x1;have a3:=U _ _ a1;refine{1,x,L.aP,f,xM a,rfl,x3,L.d5.cl,L.d5.zX,(show 1<1000 by decide),?_};rw[Lg];have k3:∀d o,H d=ρ o->d≠x->(upd n x (.ins L.aP f (uI a j))) d=ρ o:=λd o e hd=>by rw[a9 hd];exact U _ _ (k1 _ _ e hd)
 have x4:(upd n x _) x=ρ (.ins L.aP f (uI a j)):=a6;have a4:(upd n x (.ins L.aP f (uI a j))) a=ρ (.dK (bG m)):=by rw[a9 B.symm];exact a3
 have old:a7 (aH H1 n) (aH H n):=λd o e=>by
  unfold aH at e ⊢
  cases q:H d with
  |none=>
   cases M:H1 d with
   |none=>rw[M]at e;exact e
   |some z=>rw[M]at e;cases e
  |some z=>
   by_cases hd:d=x
   .rw[hd,x1]at e;cases e
   .rw[k1 _ _ q hd]at e;cases e
 have r4:bQ K (aH H (upd n x (.ins L.aP f (uI a j)))) (.lst (p.map EA)) (.ref j):=bQ.same (old.trans (cb D λd o e hd=>by rw[a9 hd];exact e)) _ _ r3;generalize upd n x _=X at k3 x4 a4 r4 ⊢;refine{1,c,1,.inl (G hc k3),λg O=>?_};have C:x≠g:=ae x4 O
 have Yt:H g=τ:=by
  cases q:H g with
  |none=>rfl
  |some o=>have:=k3 _ _ q C.symm;rw[O]at this;cases this
 refine{1,x,L.aP,f,uI a j,rfl,by rw[a9 C];exact x4,L.d5.cl,L.d5.GY,(show 2<1000 by decide),?_};rw[GU];have s5:∀d o,X d=ρ o->d≠x->(upd (upd X g (.lst ((nI ks).map V.int))) x (.ins L.aP f (xN a j g))) d=ρ o:=λd o e hd=>by rw[a9 hd];exact a7.upd O _ _ e
 have x5:(upd (upd X g (.lst ((nI ks).map V.int))) x _) x=ρ (.ins L.aP f (xN a j g)):=a6;have c5:(upd (upd X g (.lst ((nI ks).map V.int))) x (.ins L.aP f (xN a j g))) g=ρ (.lst ((nI ks).map V.int)):=by rw[a9 C.symm,a6]
 generalize upd (upd X g _) x _=H5 at s5 x5 c5 ⊢;have k5:∀d o,H d=ρ o->d≠x->H5 d=ρ o:=λd o e hd=>s5 _ _ (k3 _ _ e hd) hd
 have S5:dX K L.aX H5 z hs ws Y:=by
  let{dz,ah,bw,cl,hz,rh,Rh,rl}:=id S
  have Yu:z≠x:=λq=>by rw[q,D]at hz;have:=Î hz;injection this with _ _ M;cases M
  have go:=λ(dd:kS) (v:V) (r:bQ K H dd v)=>bQ.same (eN k5) dd v (bQ.off D dd v r);exact{dz,ah,bw,cl,k5 _ _ hz Yu,go _ _ rh,go _ _ Rh,go _ _ rl}
 refine{1,z,hs,ws,Y,rfl,S5,n1,n2,n3,n4,λy R s6 S6=>?_};refine{1,x,L.aP,f,xN a j g,rfl,s6 _ _ x5,L.d5.cl,L.d5.GZ,(show 3<1000 by decide),?_};rw[Dn];have up:∀{Ha:Hp},(∀d o,Ha d=ρ o->d≠x->(upd R x (.ins L.aP f (uJ a j g y))) d=ρ o)->a7 (aH H Ha) (aH H (upd R x (.ins L.aP f (uJ a j g y)))):=λh=>cb D h;have u6:∀d o,R d=ρ o->d≠x->(upd R x (.ins L.aP f (uJ a j g y))) d=ρ o:=λd o e hd=>by rw[a9 hd];exact e
 have u4:∀d o,X d=ρ o->d≠x->(upd R x (.ins L.aP f (uJ a j g y))) d=ρ o:=λd o e hd=>u6 _ _ (s6 _ _ (s5 _ _ e hd)) hd
 have Ub:a7 (aH H5 R) (aH H R):=λd o e=>by
  unfold aH at e ⊢
  cases q:H d with
  |none=>
   cases M:H5 d with
   |none=>rw[M]at e;exact e
   |some z=>rw[M]at e;cases e
  |some z=>
   by_cases hd:d=x
   .rw[hd,x5]at e;cases e
   .rw[k5 _ _ q hd]at e;cases e
 exact k a j g y _ a6 I (u4 _ _ a4 B.symm) (bQ.same (up u4) _ _ r4) (lH (cG Yt (u6 _ _ (s6 _ _ c5) C.symm))) (S6.same (Ub.trans (up u6))) λd o e hd=>u6 _ _ (s6 _ _ (k5 _ _ e hd)) hd
theorem CO(L:Lk K mg):aI P w K mg base (qH P w) 8 L.ya L.yf ["band","many","wide"] (N1 K L.au L.aP L.aX L.cj):=by
 have T:=L.T;refine L.mS.F.K8 h9 (λvs H Q E h=>?_) (λgG A outer s H vs Q E hr h=>?_)
 .rcases h with⟨x,g,many,n,bw,ss,ls,M,ks,hs,ws,N,rfl,_⟩ |⟨x,v,u,rfl,_⟩<;>rfl
 .skip
  refine{_,(a0 (bR (jF (w9 L) (hr.mono ⋯) rfl L.cK.g L.cK.F.kp L.cK.b .nil (nj bW) (a5 (0) (a5 (1) (aB (2))))))
   (a0 (bR (ag (n8 L) L.i9 (a5 (0) (a5 (1) (aB (2))))))
   (a0 (eT (i:=3) h9.nd rfl (ó rfl) (ag (qt L) L.js (a5 (0) (a5 (1) (a5 (2) (aB (ag (iZ L) L.fb (a5 (0) (a5 (1) (aB (2)))))))))))
   (a0 (eT (i:=4) h9.nd rfl (ó rfl) (ag (mE L) L.iV (a5 (0) (a5 (1) (a5 (2) (aB (3)))))))
   (a0 (eT (i:=5) h9.nd rfl (ó rfl) (bM jB))
   (a0 (eT (i:=6) h9.nd rfl (ó rfl) (ag (wA L) L.q9 (a5 (4) (aB (1)))))
   (a0 (j4 wfa (b8 bE (A4 T.len (6)) af) bK)
   (a8 (aj (mJ L.Kw (rD L) (hr.mono ⋯) rfl L.Ny L.kL.b .nil ni (a5 (3) (a5 (5) (a5 (6) (aB (4))))))))))))))),?_}
  ac_rfl
  rcases h with⟨x,g,many,n,bw,ss,ls,M,ks,hs,ws,N,rfl,F,B,O,k⟩ |⟨x,v,u,rfl,hn⟩
  rotate_left
  .exact{3,.inr ⟨x,v,u,rfl,hn⟩}
  let{a,IG}:=F
  have d:lD g.length 2 (2:Nat):={⋯,⋯,⋯,⋯,by
   have:g.9=2\/g.9=3\/g.9=4:=()
   rcases this with h |h |h<;>rw[h]<;>decide}
  have R:∀w∈([]:List Str),1<=w.9:=λw h=>nomatch h;have one:([("":Str)]).length<=900:=⋯;refine{3,.inl ⟨x,2,2,g,[],[""],[""],rfl,B,(),d,?_⟩};refine⟨_,rfl,_,rfl,_,rfl,x,2,2,g,[],[""],[""],rfl,B,(),one,d,F1 a,λH1 s1=>?_⟩;refine⟨_,rfl,_,rfl,_,rfl,_,rfl,_,rfl,_,rfl,x,2,2,g,[],[""],[""],rfl,B.same s1,a,(),one,d,λd0 f0 H2 s2 S h2 U=>?_,vg a⟩;have e0:=Ck a U
  let{most,V0,Th,hG,_}:=id U.gr
  refine⟨x,d0,2,2,f0,g,[],[""],[""],rfl,B.same (s1.trans s2),R,O,a,(),one,d,h2,hG.nn,hG.fit,U.ps,λdl f H3 k3 U7 h3 ZT Kq V X Yv=>?_⟩;have s3:a7 H H3:=λc o e=>k3 c o (s2 _ _ (s1 _ _ e)) (ae (s1 _ _ e) S)
  have e1:f ""=1:=by
   have h1:=X "" (Ï.mpr rfl);have h2:0<f "" + 0:=V
   lia
  refine⟨_,rfl,_,rfl,_,rfl,_,rfl,x,dl,2,2,cE f [""],f,g,[],[""],[""],rfl,B.same s3,a,(),one,d,.inl h3,jH f [""],λy H4 s4 m=>?_⟩;have m:=m.same (dP _ _);rw[BL e1]at m;have ew:[("":Str)].map f=[1]:=by rw[Í,e1];rfl
  have el:cJ g [] [""] [""] 2 [""]=[dF g]:=rfl;rw[ew,el]at m
  have t:(dF g).9<=10000:=by
   rw[mR];have:g.9=2\/g.9=3\/g.9=4:=();rcases this with h |h |h<;>rw[h]<;>decide
  refine{à _,λb hb=>?_}
  let{Y,h5}:=bz (H:=H4) (o:=.lst []) hb
  generalize upd H4 b _=H5 at Y h5;refine⟨_,rfl,_,rfl,y,2,[""],[1],[dF g],rfl,m.same Y,(show 1<=1000 by decide),λl hl=>by rw[Ï.mp hl];exact t,λZ ks H6 s6 ZU C hK=>?_⟩;obtain rfl:=F0 a hK;have D:=Y.trans s6;have G:=s4.trans D;refine{λq σ p=>p=H6/\σ=[ρ (.ref x),ρ (.int 2),ρ (.int 2),ρ (.ref dl),ρ (.ref y),ρ (.ref b),ρ (.ref Z),τ],⟨0,rfl,rfl⟩,?_};rintro q σ p ⟨rfl,rfl⟩;refine{1,Z,1,.inl (aL.of C),rfl,false,rfl,aA ?_};refine{4,?_};intro z r nz U9 Yr;have j:a7 p (upd (upd p r (.own z)) z (.ins L.aP r [])):=dU nz U9;refine{z,r,dl,y,.ref b,.ref Z,cE f [""],[],[0],[""],[1],[dF g],rfl,a6,.inl (j _ _ (G _ _ h3)),{b,[],rfl,.inl (j _ _ (s6 _ _ h5)),rfl},lH (j _ _ C),m.same (D.trans j),(show 1<=10000 by decide),(show 1<=10000 by decide),(show 1<=10000 by decide),λl hl=>by rw[Ï.mp hl];exact t,⋯,λa' b' c' y' I h8 fa Yw r8 Yx S8 Yy=>{rfl,?_}};have s8:a7 p I:=λc o e=>Yy _ _ (j _ _ e) (ae e nz);have J:=s3.trans G;have nw:a7 (aH (upd (upd p r (.own z)) z (.ins L.aP r [])) I) (aH H I):=fT (J.trans j);exact k z f I (J.trans s8) {r,a',b',c',y',cG (none_of J nz) h8,cG (none_of (J.trans j) fa) Yw,bQ.same nw _ _ r8,bQ.same nw _ _ Yx,S8.same nw}
end
end K61
namespace HT
open PyProof.Rows
noncomputable def B4(n d:Nat):Option Int->Nat
 |none=>d
 |some v=>if v<0 then(v+(n:Int)).toNat else min v.toNat n
end HT
namespace _L
open PySem.Spec PyProof.Rows
section
variable{lo hi:Option Expr}
noncomputable def tG(xs:List V)(lo hi:Option Int):List V:=(xs.drop (HT.B4 xs.length 0 lo)).take (HT.B4 xs.length xs.length hi-HT.B4 xs.length 0 lo)
theorem B5(xs:List V)(lo hi:Option Int):(tG xs lo hi).9<=xs.9:=by
 unfold tG;rw[â,whh]
 lia
theorem KR(xs:List V)(n:Nat):tG xs τ (ρ (n:Int))=xs.take n:=by simp_all [tG,HT.B4,wg4,Nat.sub_zero,if_neg,Nat.min_eq_left,Nat.min_eq_right,õ,Η]
end
section
variable{a:Expr}
theorem zl(lo hi:Option Int)(n:Nat):(wha lo hi τ n).1=((HT.B4 n 0 lo:Nat):Int)/\(wha lo hi τ n).2.1=((HT.B4 n n hi:Nat):Int)/\(wha lo hi τ n).2.2=1:=by
 have key:∀(i:Int) (d:Nat),max 0 (min (if i<0 then i+(n:Int) else i) (n:Int))=((HT.B4 n d (ρ i):Nat):Int):=by
  intro i d
  by_cases h:i<0<;>simp only[HT.B4,h,if_true,if_false]<;>lia
 exact{by cases lo with |none=>rfl |some i=>exact key i 0,by cases hi with |none=>rfl |some i=>exact key i n,rfl}
theorem wU(g:List Value)(lo hi:Option Int):slicePick g.toArray lo hi τ=((g.drop (HT.B4 g.length 0 lo)).take (HT.B4 g.length g.length hi-HT.B4 g.length 0 lo)).6:=by
 let{a,b,c}:=zl lo hi g.toArray.size
 unfold slicePick;rw[a,b,c];simp only[sliceRange_one,pick_run,ö]<;>rfl
inductive Uc(K:À)(x:V)(lo hi:Option Int)(H:Hp)(Q:VK):Prop
 |mk (a xs) (_:x=.ref a) (_:aL K H a xs) (_:∀p,H p=τ->Q (.ref p) (upd H p (.lst (tG xs lo hi))))
end
section
variable{X:Cx}
theorem tU:Sg X (Uc X.K):=by
 intro e s σ H x v n p lo hi t Q I g i pl j h
 let{a,c,rfl,k,q}:=h
 cases g
 let{l,r,f,m}:=I.list k
 have d:=r.9;refine{"list",_,slot_list_getitem.lookup,f.isList.typeIs,?_};refine wpAny_getItem_list_slice f.isList i pl j .none (by simp) ?_ (by grind);rw[wU,<-d];refine{.ref s.8,_,I.laid (t':=s.toks) (o:=.lst (tG c lo hi)) (λb ob q=>Ð _ q) (Ç _) ?_,rfl,q _ (I.b7.fresh (Ç _))};exact⟨Õ (B5 c lo hi) m,_,0,(r.drop (HT.B4 c.length 0 lo)).take (HT.B4 c.length c.length hi-HT.B4 c.length 0 lo),ç _ rfl⟩
end
end _L
namespace K61
section
variable{P:É}{w:World}{K:À}{mg:Str->Option Value}{base:Heap}
theorem jx(L:Lk K mg):aI P w K mg base cz 2 L.fz L.fB ["line","kept","many"] (Kh K):=by
 refine L.fC.F.d2 (N:=["line","kept","many"]) (λT A outer s H vs Q E nd n h=>?_)
 let{v,b,many,c,f,rfl,U,M,p,t,m0,k}:=h
 refine{_,(a8 (aj (hO rfl (az ["kept"] [1]) (az ["kept"] [1]) ⋯ (aW (dA tU (ag (nX L) L.jW (a5 (0) (aB (1)))) gb (eM (2)))) (λ_ _ _ _ _ _=>bx) (λ_ _ _ _ _ _=>(eC (a5 (0) (aB (Ij (K:=K) rfl Ħ π we3 (Fu (K:=K) rfl) (2) (aB (1)))))))))),?_}
 ac_rfl
 have u:many=((many.toNat:Nat):Int):=1.0;refine{2,v,b,c,f,rfl,U,M,t,λy O s1 X=>?_}
 let{a,j,rfl,Y,R}:=j9 (bQ.same (dP _ _) _ _ X)
 have Z:j.9=(cM c f).9:=by rw[R.1,Á,Á]
 have ZV:=GN c f;refine{1,((many.toNat:Nat):Int),congrArg V.int u,a,1,Y,λx B=>?_};rw[KR,<-List.map_take]
 let{s2,C}:=bz (H:=O) (o:=.lst ((j.take many.toNat).map V.ref)) B
 generalize upd O x _=H2 at s2 C;refine{x,rfl,{_,aL.of C},λl hl=>?_};refine jc (prs:=((cM c f).take many.toNat).map iz) (λ_=>true) (λq=>match q.2 with |.int e=>.tup [.at q.1,.at (.int (c.idxOf e.toNat:Int))] |_=>.at .non) (aU K x _) (by grind) (λi q g=>?_) hl (ak (by grind)) (λS D=>aL.of (D _ _ C)) (λq G Q' _ _ I=>I G (a7.refl _)) (λq G Q' g _ s3 I=>?_) (λS D r=>?_)
 .rw[Ê]at g
  have hi:i<((cM c f).take many.toNat).9:=by
   cases e:((cM c f).take many.toNat)[i]? with
   |none=>rw[e]at g;cases g
   |some z=>exact(Ô.mp e).1
  have d:i<many.toNat/\i<j.9:=by rw[â]at hi;omega
  rw[wdK d.1,È 1.0]at g;cases g;refine{j[i],by rw[Ê,wdK d.1,È d.2];rfl,gF.of (s2 _ _ ?_)};exact R.2 i j[i] (nc (iz (cM c f)[i])) (È d.2) (by rw[Ê,Ê,È 1.0];rfl)
 .let{z,hz,rfl}:=Å.mp g
  have J:=of_decide_eq_true (é.mp ((wf5 _ _).subset hz)).2;have m:aL K G b ((nI c).map V.int):=((s1.trans s2).trans s3).seq M
  let{i1,i2}:=Ka J
  refine{2,.inl {rfl,_,m},1,b,nI c,(z.2:Int),c.idxOf z.2,rfl,rfl,m,by rw[fv];exact p,i1,i2,by show 2<=sizeLine;decide,λr n=>?_};exact I _ _ (a7.upd n) (lI n (z.1,c.idxOf z.2))
 .rw[ċ.mpr (λ_ _=>rfl),Ì]at r;refine k _ S ((s1.trans s2).trans D) (bQ.same (fT (s1.trans s2)) _ _ ?_);delta oS ee;rw[Ì];exact r
theorem oH(L:Lk K mg):aI P w K mg base (qH P w) 9 L.fA L.iK ["self","band","many","wide"] (Nm K L.ao L.au L.aP L.aX L.cj):=by
 refine L.iP.F.K8 cX (λvs H Q E h=>?_) (λgG A outer s H vs Q E hr h=>?_)
 .rcases h with⟨x,a,j,g,many,n,bw,ss,ls,A5,r,J,ws,l,rfl,_⟩ |⟨x,j,v,u,rfl,_⟩<;>rfl
 .skip
  refine{_,(a0 (c7 (0) (jF (CO L) (hr.mono ⋯) rfl L.mS.g L.mS.F.kp L.mS.b .nil (nj bW) (a5 (1) (a5 (2) (aB (3))))) rfl)
   (a0 (c7 (0) (1) rfl)
   (a0 (c7 (0) (2) rfl)
   (a0 (c7 (0) (3) rfl)
   (a0 (eT (i:=4) cX.nd rfl (ŷ rfl) (n7 (aM (0) rfl) L.d5.cl L.qe (wH L)))
   (a0 (eT (i:=5) cX.nd rfl (ŷ rfl) (aM (aM (0) rfl) rfl))
   (a0 (c7 (0) (c6 rfl (az ["sheet"] [4]) (aW (5)) (λ_ _ _ _ _ _=>bx) (λ_ _ _ _ _ _=>(bI (oP (K:=K) rfl) (tN (K:=K) rfl (1) rfl) (0) (λ_ _=>rfl)))) rfl)
   (a0 (c7 (0) (c6 rfl (az ["sheet","kept","many"] [4,5,2]) (aW (5)) (λ_ _ _ _ _ _=>bx) (λ_ _ _ _ _ _=>(ag (jx L) L.fC (a5 (bI (oP (K:=K) rfl) (tN (K:=K) rfl (1) rfl) (0) (λ_ _=>rfl)) (a5 (2) (aB (3))))))) rfl)
   (a0 (eT (i:=6) cX.nd rfl (ó rfl) (ag (yo L) L.vG (a5 (aM (0) rfl) (a5 af (aB (aD Gs (bM (aB af)) (n7 (0) L.aq.cl L.eO (fZ L))))))))
   (a0 (c7 (0) (bI um (6) af (λ_ _=>rfl)) rfl)
   (a8 (c7 (0) (bI um (6) af (λ_ _=>rfl)) rfl)))))))))))),?_}
  ac_rfl
  rcases h with⟨x,a,j,g,many,n,bw,ss,ls,A5,r,J,ws,l,rfl,F,hx,B,Vr,k⟩ |⟨x,j,v,u,rfl,hn⟩
  rotate_left
  .exact{3,.no j v u rfl hn}
  let{NA,Rl,Yz,ZW,Sn,Vv,UU,Vw,m2,m8,n1,n6}:=F.facts
  have W0:=F.Vd
  have YB:j≠x:=λz=>by
   let{ZX,b,d,q,mv,h1,_}:=id B.ex
   rw[z,hx]at h1;have:=Î h1;injection this with _ _ q2
   cases q2
  refine{3,.ok j g many n bw ss ls A5 r J ws l rfl F B Vr λp f H1 s1 P1=>?_};refine{1,x,L.ao,a,[],rfl,s1 _ _ hx,L.aq.cl,L.aq.pk,(show 0<1000 by decide),?_};rw[Pu];refine{2,x,L.ao,a,1,a6,L.aq.cl,L.aq.eW,(show 1<1000 by decide),?_};rw[Pw];refine{2,x,L.ao,a,1,a6,L.aq.cl,L.aq.Cd,(show 2<1000 by decide),?_};rw[Px];refine{2,x,L.ao,a,1,a6,L.aq.cl,L.aq.uZ,(show 3<1000 by decide),?_};rw[Py];have x2:(upd (upd (upd (upd H1 x (.ins L.ao a (O9 p))) x (.ins L.ao a (Pp p j))) x (.ins L.ao a (Oa p j many))) x _) x=ρ (.ins L.ao a (Ob p j many (n:Int))):=a6;have k2:∀c o,H1 c=ρ o->c≠x->(upd (upd (upd (upd H1 x (.ins L.ao a (O9 p))) x (.ins L.ao a (Pp p j))) x (.ins L.ao a (Oa p j many))) x (.ins L.ao a (Ob p j many (n:Int)))) c=ρ o:=λc o e hc=>by rw[a9 hc,a9 hc,a9 hc,a9 hc];exact e
  generalize upd (upd (upd (upd H1 x _) x _) x _) x _=H2 at x2 k2;have Ud:∀c o,H c=ρ o->c≠x->H2 c=ρ o:=λc o e hc=>k2 c o (s1 _ _ e) hc;have n2:a7 (aH H H1) (aH H H2):=cb hx k2;have P2:=P1.same (n2.trans (dP _ _))
  let{dp,wa,wb,M,wz,Vx,_,_,YC,_}:=id P2
  refine{1,x,L.ao,a,_,1,x2,L.aq.cl,L.aq.pk,oU p j many n,p,dp,1,Vx,cI (by show ("sheet":Str)∉[("weights":Str),"splits","kept","last"];decide+kernel),p,cE f ls,A5,r,J,ws,l,rfl,P2,(),(),(),Vv,λy H3 s3 S3=>?_};have x3:=s3 _ _ x2;refine{1,x,L.ao,a,_,1,x3,L.aq.cl,L.aq.pk,oU p j many n,p,L.aP,dp,_,1,s3 _ _ Vx,L.d5.cl,L.d5.GY,BJ wa wb M wz,?_}
  have Ue:aL K H3 M ((nI r).map V.int):=by
   let{c',e,h}:=pf (bQ.same s3 _ _ YC)
   cases e;exact h
  have YD:=S3.same (dP _ _)
  let{dy,ah,Vy,cl,hy,rh,ZY,rl}:=id YD
  have hh:=yY rh
  let{UT,xs,ec,hc,Jy}:=id rl
  cases ec;refine{1,M,rfl,{_,Ue},λm Ug=>?_};refine da (λ_=>true) (λv=>match v with |.int d=>.str (J.getD d.toNat "") |_=>.non) (aU K M _) Ug (ak (by rw[Á,fv];lia)) (λH' s'=>s'.seq Ue) (λv H8 Q' hy s8 qq=>qq H8 (a7.refl _)) (λv H4 Q' hv _ G qq=>?_) (λH4 G h4=>?_)
  .let{n',Jh,rfl}:=yL hv
   have N:n'<J.9:=by rw[<-Sn];exact Vw n' Jh
   exact{1,y,L.aX,dy,_,1,G _ _ hy,L.bg.cl,L.bg.iB,iA ah Vy cl,1,ah,_,_,1,rfl,G.seq (.inl hh),b5 (v:=.str (J.getD n' "")) (by rw[Ê,È N,ï,È N];rfl),qq H4 (a7.refl _)}
  have e4:(((nI r).map V.int).filter λ_=>true).map (λv=>match v with |.int d=>V.str (J.getD d.toNat "") |_=>.non)=(r.map λd=>J.getD d "").map V.str:=by
   rw[ċ.mpr (λ_ _=>rfl)];unfold nI;rw[Ì,Ì,Ì];rfl
  rw[e4]at h4;have O:m≠x:=Ü (ae x3 Ug);refine{1,x,L.ao,a,1,G _ _ x3,L.aq.cl,L.aq.iB,(show 4<1000 by decide),?_};rw[Pz];have x5:(upd H4 x _) x=ρ (.ins L.ao a (Oc p j many (n:Int) m)):=a6;have k5:∀c o,H4 c=ρ o->c≠x->(upd H4 x (.ins L.ao a (Oc p j many (n:Int) m))) c=ρ o:=λc o e hc=>by rw[a9 hc];exact e
  generalize upd H4 x _=H5 at x5 k5;have x4:=G _ _ x3
  have YF:y≠x:=λz=>by
   let{_,_,_,_,h,_}:=id S3
   rw[z]at h;unfold aH at h;rw[x2]at h;cases h
  have O1:aL K H5 M ((nI r).map V.int):=(eN k5).seq (yv x4 (G.seq Ue));have TK:=k5 _ _ (G _ _ hy) YF;have YG:bQ K H5 (lG l) (.ref cl):=bQ.same (eN k5) _ _ (bQ.off x4 _ _ (bQ.same G _ _ rl))
  let{ZZ,YH,YJ,YK,Uh}:=id YG
  cases YJ;refine{1,M,rfl,{_,O1},λC F4=>?_};refine An (K:=K) ((sX l r many.toNat).map ee) (aU K M _) F4 (ak (by rw[Á,fv];lia)) (by unfold sX;rw[Á,Á,Á,fv]) (λH' s'=>s'.seq O1) (λi v dd H6 Q' hv Ui R qq=>?_) (λH6 R r6=>?_)
  .have hi:i<r.9:=by have:=(Ô.mp hv).1;rwa[Á,fv]at this
   rw[GQ (È hi)]at hv;cases hv;unfold sX at Ui;rw[Ê,Ê,È hi]at Ui;cases Ui;have Lq:=Vw _ (ă hi);generalize r[i]=d at qq Lq;have S:=gU Lq
   let{v',Qh,YL}:=Uh.at (i:=d) (d:=ee (l.getD d [])) (by rw[Ê,S];rfl)
   exact{1,y,L.aX,dy,_,1,R _ _ TK,L.bg.cl,L.bg.fw,gi ah Vy cl,1,cl,YH,_,1,rfl,R.seq (.inl YK),b5 Qh,2,v',M,many,r,l.getD d [],rfl,bQ.same R _ _ YL,R.seq O1,(),Vv _ (ê S),(),λz T s7 r7=>qq z T s7 r7}
  have x6:=R _ _ x5;refine{1,x,L.ao,a,1,x6,L.aq.cl,L.aq.fw,(show 5<1000 by decide),?_};rw[PB];have x7:(upd H6 x _) x=ρ (.ins L.ao a (JQ p j many (n:Int) m C)):=a6;have k7:∀c o,H6 c=ρ o->c≠x->(upd H6 x (.ins L.ao a (JQ p j many (n:Int) m C))) c=ρ o:=λc o e hc=>by rw[a9 hc];exact e
  generalize upd H6 x _=T at x7 k7;have Vz:∀c o,H c=ρ o->c≠x->H5 c=ρ o:=λc o e hc=>k5 _ _ (G _ _ (s3 _ _ (Ud c o e hc))) hc;have YM:∀c o,H c=ρ o->c≠x->T c=ρ o:=λc o e hc=>k7 _ _ (R _ _ (Vz c o e hc)) hc;have r7:bQ K T (lG (sX l r many.toNat)) (.ref C):=bQ.same ((Dv x5).trans (eN k7)) _ _ r6;have B7:aE L.au T j g bw ss ls:=(AU B hx YB).same (eN YM);refine{1,x,L.ao,a,_,1,x7,L.aq.cl,L.aq.fw,zW p j m C many n,by show 1<=sizeLine;decide,λl0 KB=>?_}
  let{s8,h8}:=bz (H:=T) (o:=.lst [V.int 0]) KB
  generalize upd T l0 _=H8 at s8 h8;have x8:=s8 _ _ x7;refine{1,x,a,1,x8,yP p j m C many n,x,j,a,_,n,g,bw,ss,ls,rfl,x8,BM p j m C many n,BO p j m C many n,B7.same s8,(),(),λw hw=>(NA w hw).2,Rl,λb H9 s9 hb=>?_};have hb1:=hb.le;refine{l0,(b:Int),[V.int 0],rfl,rfl,s9 _ _ h8,(),(),ak (by show 1*((b:Int)).toNat<=_;lia),λpr YN=>?_};rw[ć,uL]
  let{VA,VB}:=bz (H:=H9) (o:=.lst ((nI (Ú b 0)).map V.int)) YN
  generalize upd H9 pr _=H10 at VA VB;have U:=s8.trans (s9.trans VA);refine⟨.ref C,0,pr,many,n,sX l r many.toNat,Ú b 0,rfl,bQ.same U _ _ r7,aL.of VB,W0,weI.mpr W0.ne,λt ht=>by rw[(wdR.mp ht).2];lia,by rw[Ő];lia,(),λq I YQ S=>?_⟩;have X:=U.trans YQ;have VC:=X _ _ x7;have Tx:q≠x:=λz=>by rw[z,VC]at S;cases S
  generalize YR:eJ (sX l r many.toNat) 0 (Ú b 0)=wk at S;refine{1,q,_,_,1,rfl,gF.of S,rfl,1,x,L.ao,a,1,VC,L.aq.cl,L.aq.ri,(show 6<1000 by decide),?_};rw[PD];refine{1,q,_,_,1,rfl,gF.of (by rw[a9 Tx];exact S),rfl,1,x,L.ao,a,1,a6,L.aq.cl,L.aq.Dy,(show 7<1000 by decide),?_};rw[Q7];have Uj:(upd (upd I x (.ins L.ao a (Pq p j many (n:Int) m C wk.1))) x _) x=ρ (.ins L.ao a (ph p j many (n:Int) m C wk.1 (wk.2:Int))):=a6;have VD:∀c o,I c=ρ o->c≠x->(upd (upd I x (.ins L.ao a (Pq p j many (n:Int) m C wk.1))) x (.ins L.ao a (ph p j many (n:Int) m C wk.1 (wk.2:Int)))) c=ρ o:=λc o e hc=>by rw[a9 hc,a9 hc];exact e
  generalize upd (upd I x _) x _=D at Uj VD;have Y:∀c o,T c=ρ o->c≠x->D c=ρ o:=λc o e hc=>VD _ _ (X _ _ e) hc;have Uk:∀c o,H5 c=ρ o->c≠x->D c=ρ o:=λc o e hc=>Y _ _ (k7 _ _ (R _ _ e) hc) hc;have Z:∀c o,H4 c=ρ o->c≠x->D c=ρ o:=λc o e hc=>Uk _ _ (k5 _ _ e hc) hc;have QM:∀c o,H2 c=ρ o->c≠x->D c=ρ o:=λc o e hc=>Z _ _ (G _ _ (s3 _ _ e)) hc
  have fla:H m=τ:=by
   cases e:H m with
   |none=>rfl
   |some o=>have:=s3 _ _ (Ud m o e O);rw[Ug]at this;cases this
  have m5:∀c o,H c=ρ o->∃o',H5 c=ρ o':=λc o e=>by
   by_cases z:c=x
   .rw[z];exact{_,x5}
   .exact{o,Vz c o e z}
  rw[<-YR]at Uj;refine k p m C f b D (λc o e hc=>QM _ _ (Ud c o e hc) hc) Uj (P1.same (n2.trans (cb hx QM))) (uT (cG fla (Z _ _ h4 O))) (bQ.same ((BK m5).trans (cb hx λc o e hc=>Y _ _ (k7 _ _ e hc) hc)) _ _ r6) hb
theorem QN(f:Str)(os:List Str):tG ((f::os).map V.str) (ρ 1) τ=os.map V.str:=by
 have hl:((f::os).map V.str).9=os.9+1:=by rw[Á];rfl
 unfold tG;rw[hl];have a:HT.B4 (os.9+1) 0 (ρ 1)=1:=by unfold HT.B4;simp
 have b:HT.B4 (os.9+1) (os.9+1) τ=os.9+1:=rfl;rw[a,b,wgL];show (os.map V.str).take os.9=_;rw[<-Á (f:=V.str),õ]
theorem qu(L:Lk K mg):aI P w K mg base (qH P w) 11 L.ji L.jr ["self","many","wide"] (NQ K L.aK L.au L.ao L.aP L.cj):=by
 refine L.fY.F.K8 oW (λT H Q E h=>?_) (λU A outer s H T Q E V h=>?_)
 .rcases h with⟨x,q,r,w,g,ss,ls,rfl,_⟩ |⟨x,q,r,w,v,u,rfl,_⟩<;>rfl
 .skip
  refine{_,(a0 (KH ⟨rfl,rfl⟩ EW (zM (Km (0) (Hw L.Fd (oH L) (V.mono ⋯) rfl L.Io L.iP.b (a5 (aM (0) rfl) (a5 (1) (aB (2))))) rfl)) rfl L.AD rfl L.IA L.qh L.za (L.qh.neT L.XT ∅) (L.za.neT L.XT ∅))
   (a8 (aj ai))),?_}
  ac_rfl
  rcases h with⟨x,q,r,X,g,ss,ls,rfl,y,B,J,k⟩ |⟨x,q,r,X,v,u,rfl,y,hn,k⟩
  .have g2:=J.lo;have M:=J.hi
   let{rfl,rfl}:=_B.aE.free 1.0 B
   have Y:=B.same lK;refine{1,x,L.aK,q,_,1,y,L.aN.cl,L.aN.eW,oV _ _,2,λm d i j C=>?_};have t:a7 H (upd (upd H d (.own m)) m (.ins L.ao d [])):=dU i j;refine .ok m d r g 2 2 [] [""] [""] [] [0] [""] [1] [dF g] rfl (.mk g2 M) a6 (Y.same t) J.nd λp a l f b S D Z P1 ra rl hb=>{rfl,?_};have F:hF g 2 2 [] [""] [""] [] [0] [""] [1] [dF g]:=.mk g2 M;obtain rfl:=F.WG hb;have G:x≠m:=λz=>by rw[<-z,y]at i;cases i
   have I:=t _ _ y;have x1:=D _ _ I G;have s1:a7 H S:=λc o e=>D _ _ (t _ _ e) (ae e i);refine{1,x,L.aK,q,1,x1,L.aN.cl,L.aN.bN,(show 2<1000 by decide),?_};rw[Li];refine k m _ (λc o e n=>by rw[a9 n];exact s1 _ _ e) a6 ?_;rw[yN];have N:=Dv (H':=S) I
   let{dp,wa,wb,wc,wz,hp,_,rb,_,_}:=P1.same N
   let{wb',ys,e,O,R}:=rb
   cases e;cases R;exact{{d,p,r,a,l,dp,wa,wb,wc,wz,[],fk Z (Ü G),hp,.inl O,rfl,bQ.same N _ _ rl,.inl (yY (bQ.same N _ _ ra)),B.same (lJ s1)},TN g2 M}
  .refine{1,x,L.aK,q,_,1,y,L.aN.cl,L.aN.eW,oV _ _,2,λm d i j C=>?_};have t:a7 H (upd (upd H d (.own m)) m (.ins L.ao d [])):=dU i j;exact .no m r v u rfl {ym hn t,λH' s'=>{L.cj,1,L.ju,L.qh.ne L.ju ∅,L.za.ne L.ju ∅,k H' (t.trans s')}}
theorem fg(L:Lk K mg):aI P w K mg base (qH P w) 12 L.vq L.vC ["self","row"] (CL K L.aK L.au L.ao L.aP L.dM L.dN L.cy L.bC L.aT L.cj):=by
 have T:=L.T;refine L.bP.F.Nh (N:=["self","row","words","first","others"]) (λgG A outer s H vs Q E nd hr h=>?_)
 let{x,p,v,wv,r,f,os,rfl,hx,er,hf,KA,Yq,hw,QI,hs}:=h
 refine{_,(a0 (al (i:=2) (iy δ Ν wfT AY (1) (aB ai)))
  (a0 (al (i:=3) (bI bj (2) af (λ_ _=>rfl)))
  (a0 (al (i:=4) (dA tU (2) (eM af) gb))
  (a0 (aQ (cQ (bO (ag (AQ L) L.vH (a5 (3) (aB (4)))))) (a8 (gV bW rfl L.vM L.Fo rfl L.AH (aB ai))) aw)
  (a0 (aQ (b8 bE (3) ai) (a8 (aj (F6 (0) L.aN.cl L.jt (ql L) (a5 (bI bj (4) af (λ_ _=>rfl)) (aB (dA tU (4) (eM af) gb)))))) aw)
  (a0 (aQ (b8 qJ (aM (0) rfl) cm) (a8 (gV bW rfl L.vN L.Fp rfl L.AI (aB ai))) aw)
  (a0 (aQ (b8 bE (3) ai) (a8 (aj (gM (0) L.aN.cl L.fY.m (qu L) (hr.mono ⋯) L.fY.b .nil (nj bW) (a5 (aY dY (by rfl) T.int wu (aB (bI bj (4) af (λ_ _=>rfl)))) (aB (aY dY (by rfl) T.int wu (aB (bI bj (4) af (λ_ _=>rfl))))))))) aw)
  (a0 (aQ (eL gR (3) (eC (a5 ai (a5 ai (aB ai)))) rfl) (a8 (aj (jF (qp L) (hr.mono ⋯) rfl L.dZ.g L.dZ.F.kp L.dZ.b .nil (nj bW) (a5 (aM (0) rfl) (a5 (3) (aB (4))))))) aw)
  (a0 (aQ (b8 qJ (aM (0) rfl) cm) (a8 (gV bW rfl L.oF L.AJ rfl L.vO (aB ai))) aw)
  (a8 (aj (jF (n9 L) (hr.mono ⋯) rfl L.d4.g L.d4.F.kp L.d4.b .nil (nj bW) (a5 (aM (0) rfl) (a5 (3) (aB (4)))))))))))))))),?_}
 ac_rfl
 refine⟨_,rfl,rfl,r,32,rfl,rfl,1.0,λl hl=>?_⟩;rw[er,vh 32 (by simp) hf]
 let{s1,h1}:=bz (H:=H) (o:=.lst ((f::os).map V.str)) hl
 show cA 2 (V.ref l) _ _ _;generalize upd H l _=H1 at s1 h1;refine{1,l,_,_,1,rfl,aL.of h1,b5 (j:=0) rfl,?_};refine{2,l,1,aL.of h1,λlo OX=>?_};rw[QN]
 let{s2,h2}:=bz (H:=H1) (o:=.lst (os.map V.str)) OX
 show cA 4 (V.ref lo) _ _ _;generalize upd H1 lo _=H2 at s2 h2;have Rn:=s1.trans s2;refine{2,f,os,lo,rfl,aL.of h2,1.0,hw,QI,λG s3=>{cq f os,rfl,?_}};have a:=Rn.trans s3;have I:=s3 _ _ h2;have q:=a _ _ hx
 cases hs with
 |nof e k=>
  rw[e];exact b6 {rfl,k G a}
 |nob e hb y k=>
  subst y;rw[e];refine aA {_,rfl,rfl,false,hA hb,aA ?_};exact{1,x,L.aK,p,_,1,q,L.aN.cl,L.aN.eW,oV _ _,rfl,true,rfl,b6 {rfl,k G a}}
 |band g ws C S sg UW YS k=>
  subst C S;rw[show cq "band" (g::ws)=true from (if_pos rfl).trans (decide_eq_true (by rw[å];omega))];refine aA {1,rfl,true,∅,b6 ?_};refine{1,x,p,1,q,cI (by show ("take_band":Str)∉[("band":Str),"writer"];decide+kernel),1,lo,_,_,1,rfl,aL.of I,b5 (j:=0) rfl,2,lo,1,aL.of I,λl2 QL=>?_};rw[QN]
  let{d,D}:=bz (H:=G) (o:=.lst (ws.map V.str)) QL
  generalize upd G l2 _=O at d D;exact{x,p,l2,v,wv,g,ws,rfl,d _ _ q,aL.of D,sg,UW,YS,λJ ss ls U kp M B=>k J ss ls U (λc o e n=>kp _ _ (d _ _ (a _ _ e)) n) M B}
 |ask J y e C k=>
  subst y;rw[e]
  obtain⟨X,Y,Z⟩:¬f="band"/\¬f="rate"/\jy (.str f) [.str "count",.str "row",.str "number"]=true:=by
   rcases C with rfl |rfl |rfl
   .exact{∅,∅,∅}
   .exact{∅,∅,∅}
   .exact{∅,∅,∅}
  refine aA {1,rfl,false,hA X,aA {1,x,L.aK,p,_,1,q,L.aN.cl,L.aN.eW,oV _ _,rfl,false,rfl,aA {1,rfl,false,hA Y,aA {1,by show 3<=sizeLine;decide,λt ht=>?_}}}}
  let{d,D}:=bz (H:=G) (o:=.tup [.str "count",.str "row",.str "number"]) ht
  generalize upd G t _=O at d D;exact{t,1,.inr (gF.of D),rfl,rfl,true,congrArg V.bl Z,b6 {1,x,L.aK,p,_,1,d _ _ q,L.aN.cl,L.aN.eW,oV _ _,2,k lo O (a.trans d) (aL.of (d _ _ I))}}
 |rno J z u m n y C S e hm hn U0 k=>
  subst y C S;have lz:=hw z (Ù ..);have lu:=hw u (Ø _ (Ù ..));rw[e];refine aA {1,rfl,false,∅,aA {1,x,L.aK,p,_,1,q,L.aN.cl,L.aN.eW,oV _ _,rfl,false,rfl,aA {1,rfl,true,∅,b6 ?_}}};exact{1,x,p,1,q,cI (by show ("take_rate":Str)∉[("band":Str),"writer"];decide+kernel),1,lo,_,_,1,rfl,aL.of I,b5 (j:=0) rfl,z,1,hm,1.0,1,lo,_,_,1,rfl,aL.of I,b5 (j:=1) rfl,u,1,hn,1.0,.no x p J wv (.int m) (.int n) rfl q (ym U0 a) λU s'=>k U (a.trans s')}
 |rok J z u g ss ls y C S e hm hn B sg k=>
  subst y C S;have lz:=hw z (Ù ..);have lu:=hw u (Ø _ (Ù ..));rw[e];refine aA {1,rfl,false,∅,aA {1,x,L.aK,p,_,1,q,L.aN.cl,L.aN.eW,oV _ _,rfl,false,rfl,aA {1,rfl,true,∅,b6 ?_}}};exact{1,x,p,1,q,cI (by show ("take_rate":Str)∉[("band":Str),"writer"];decide+kernel),1,lo,_,_,1,rfl,aL.of I,b5 (j:=0) rfl,z,1,hm,1.0,1,lo,_,_,1,rfl,aL.of I,b5 (j:=1) rfl,u,1,hn,1.0,.ok x p J wv g ss ls rfl q (B.same (lJ a)) sg λxw U kp M R=>k xw U (λc o e n=>kp _ _ (a _ _ e) n) M R}
 |now J y ew e C k=>
  subst y ew;rw[e]
  let{X,Y,Z}:=Dp C
  refine aA {1,rfl,false,hA X,aA {1,x,L.aK,p,_,1,q,L.aN.cl,L.aN.eW,oV _ _,rfl,false,rfl,aA {1,rfl,false,hA Y,aA {1,by show 3<=sizeLine;decide,λt ht=>?_}}}}
  let{d,D}:=bz (H:=G) (o:=.tup [.str "count",.str "row",.str "number"]) ht
  generalize upd G t _=O at d D;exact{t,1,.inr (gF.of D),rfl,rfl,false,congrArg V.bl Z,aA {1,x,L.aK,p,_,1,d _ _ q,L.aN.cl,L.aN.bN,BR _ _,rfl,true,rfl,b6 {rfl,k O (a.trans d)}}}
 |wr J xw y ew e C k=>
  subst y ew;rw[e]
  let{X,Y,Z}:=Dp C
  refine aA {1,rfl,false,hA X,aA {1,x,L.aK,p,_,1,q,L.aN.cl,L.aN.eW,oV _ _,rfl,false,rfl,aA {1,rfl,false,hA Y,aA {1,by show 3<=sizeLine;decide,λt ht=>?_}}}}
  let{d,D}:=bz (H:=G) (o:=.tup [.str "count",.str "row",.str "number"]) ht
  generalize upd G t _=O at d D;exact{t,1,.inr (gF.of D),rfl,rfl,false,congrArg V.bl Z,aA {1,x,L.aK,p,_,1,d _ _ q,L.aN.cl,L.aN.bN,BR _ _,rfl,false,rfl,aA {1,x,L.aK,p,_,1,d _ _ q,L.aN.cl,L.aN.bN,BR _ _,2,k lo O (a.trans d) (aL.of (d _ _ I))}}}
theorem fI(L:Lk K mg):aI P w K mg base cz 13 L.nH L.nR ["_law_desk","_law_row"] (Im (CL K L.aK L.au L.ao L.aP L.dM L.dN L.cy L.bC L.aT L.cj) L.aK L.aG L.aT K):=by
 refine L.eK.F.ok dE (λu H Q E h=>?_) (λy A outer s H u Q E z h=>?_)
 .rcases h with⟨x,a,v,c,r,B,rfl,_⟩ |⟨x,a,v,c,r,C,nm,rfl,_⟩ |⟨x,a,v,c,r,nm,rfl,_⟩<;>rfl
 .skip
  refine{_,(a0 (eT (i:=2) dE.nd rfl (ó rfl) cm)
   (a0 (eT (i:=3) dE.nd rfl (ó rfl) cm)
   (a0 (Nv ⟨rfl,rfl⟩ (zM (K7 (i:=3) dE.nd rfl (ó rfl) (GH (0) L.aN.cl L.bP.m (fg L) (z.mono ⋯) L.bP.b (aB (1))))) rfl L.sP L.XT dE.nd (j:=4) (i:=2) rfl rfl rfl (ó rfl))
   (a8 (aj (eC (a5 (3) (aB (2))))))))),?_}
  ac_rfl
  have ln:∀{v c:V},(fd2 v c).lookup ("say":Str)=τ:=@λv c=>cI (by show ("say":Str)∉[("band":Str),"writer"];decide+kernel);rcases h with⟨x,a,v,c,r,B,rfl,g,l,k⟩ |⟨x,a,v,c,r,C,nm,rfl,g,l,U,k⟩ |⟨x,a,v,c,r,nm,rfl,g,l,U,k⟩
  .exact{1,x,a,1,g,ln,1,l _ _ λt q pt n=>{2,by show 2<=sizeLine;decide,λp f=>k p t _ pt (n.trans (a7.upd f)) a6}}
  .exact{1,x,a,1,g,ln,1,l _ _ λq n=>{C,nm,rfl,U,λe o=>{2,by show 2<=sizeLine;decide,λp f=>k p e _ ((n.trans (a7.upd o)).trans (a7.upd f)) a6 (a7.upd f _ _ a6)}}}
  .exact{1,x,a,1,g,ln,1,l _ _ λd q n fd hd=>{L.aT,nm,rfl,U,λe o=>{2,by show 2<=sizeLine;decide,λp f=>k p e d _ ((n.trans (a7.upd o)).trans (a7.upd f)) a6 (a7.upd f _ _ a6) (a7.upd f _ _ (a7.upd o _ _ hd))}}}
theorem kc(L:Lk K mg):aI P w K mg base cz 13 L.dh L.fM ["_law_desk","_law_found","_law_caught_here"] (IU L):=by
 have T:=L.T;refine L.fN.F.d2 (N:=["_law_desk","_law_found","_law_caught_here","_law_lead"]) (λa A outer s H q Q E nd d h=>?_)
 let{x,r,u,g,bw,rfl,f,G,k}:=h
 have c:(A.deeper (wcX "_law_none_or_length" (ax (top 114)) s.heap.objs.size L.dh a)).units<ú:=d.ud
 refine{_,(a0 (al (i:=3) (gM (0) L.aN.cl L.bP.m (fg L) (d.mono ⋯) L.bP.b .nil uh (aB ai)))
  (a0 (aQ (b8 fq (A3 T.len (3)) af) (a8 (aj (dD (bc gd (2) cm (bH _)) (dD (bc bE (ag (bS L) L.bX (aB (2))) af (bH _)) (fP (bc bE (DE (2) rfl) af (bH _))))))) aw)
  (a0 (aQ (b8 gd (2) cm) (a8 (aj (bc bE (ag (bS L) L.bX (aB (2))) af (bH _)))) aw)
  (a8 (aj (bc (IW c) (1) ai (bH _))))))),?_}
 ac_rfl
 let{j,v,y,l}:=f.IQ
 refine{1,x,j,1,l,cI (by show ("say":Str)∉[("band":Str),"writer"];decide+kernel),NR f λn s1=>?_};refine{1,"",rfl,ak ∅,_,1,rfl,false,∅,aA ?_};rcases G with G |G
 .cases G with
  |ans P t h=>
   subst h;exact{1,rfl,false,rfl,aA {1,rfl,.flat rfl,k n s1}}
 .let{e,rfl,o}:=mF (G.same s1)
  exact{1,rfl,true,rfl,b6 {1,o _ _ λp s2=>{rfl,k p (s1.trans s2)}}}
theorem zm(L:Lk K mg):aI P w K mg base cz 14 L.lY L.sG ["_law_desk","_law_state","_law_k"] (NS L):=by
 have T:=L.T;refine L.sN.F.d2 (N:=["_law_desk","_law_state","_law_k","_law_rows","_law_great","_law_row","_law_found","_law_caught_here","_law_due"]) (λgG A outer s H vs Q E nd hr h=>?_)
 let{x,st,n,g,bw,rfl,S0,k}:=h
 have hu:=fo hr;have Qi:(A.deeper (wcX "_law_good" (ax (top 113)) s.heap.objs.size L.lY gG)).units<ú:=hr.ud
 refine{_,(a0 (al (i:=3) (bM (a5 ai (a5 ai (a5 ai (a5 ai (a5 ai (a5 ai (a5 ai (a5 ai (aB ai)))))))))))
  (a0 (al (i:=4) (aD tK ai af))
  (a0 (al (i:=3) (aD gq (3) (bM (a5 ai (a5 (aD b9 ai (4)) (a5 (aD b9 (aD b9 ai (4)) ai) (a5 (aD b9 ai (4)) (a5 ai (aB ai)))))))))
  (a0 (al (i:=5) (bI bj (aD gq (3) (bM (aB (aD b9 ai (4))))) (aD eB (2) af) (λ_ _=>rfl)))
  (a0 (uj (ag (fI L) L.eK (a5 (0) (aB (5)))) (eV rfl (aS (ay (i:=6)) (aS (ay (i:=7)) cW))))
  (a0 (aQ (b8 bE (1) af) (a8 (aj (dD (bc gd (7) cm (bH _)) (fP (bc bE (ag (bS L) L.bX (aB (7))) af (bH _)))))) aw)
  (a0 (aQ (PW.pt (jE (b8 bE (dA oh (5) gb (eM af)) ai) (gH (b8 kZ (5) ai)))) (a8 (aj (dD (bc gd (7) cm (bH _)) (fP (bc bE (ag (bS L) L.bX (aB (7))) af (bH _)))))) aw)
  (a0 (aQ (PW.pt (jE (b8 bE (dA oh (5) gb (eM af)) ai) (gH (b8 kZ (5) ai)))) (a8 (aj (dD (bc gd (7) cm (bH _)) (fP (bc bE (ag (bS L) L.bX (aB (7))) af (bH _)))))) aw)
  (a0 (aQ (PW.pt (jE (b8 bE (1) af) (gH (eL gR (bI bj (iy δ Ν wfT AY (5) (aB ai)) af (λ_ _=>rfl)) (bM (a5 ai (a5 ai (aB ai)))) rfl)))) (a8 (aj (dD (bc gd (7) cm (bH _)) (fP (bc bE (ag (bS L) L.bX (aB (7))) af (bH _)))))) aw)
  (a0 (aQ (b8 bE (5) (aD b9 ai (4))) (a8 (aj (dD (bc gd (7) cm (bH _)) (dD (bc bE (ag (bS L) L.bX (aB (7))) af (bH _)) (fP (bc bE (DE (7) rfl) af (bH _))))))) aw)
  (a0 (aQ (PW.pt (cH (b8 bE (5) ai) (dg (b8 bE (5) ai)))) (a8 (aj (ag (kc L) L.fN (a5 (0) (a5 (6) (aB (7))))))) aw)
  (a0 (al (i:=8) (Dj (oO ai ai (oO ai ai (oO ai ai D9))) rfl rfl (by simp) ⋯))
  (a8 (aj (dD (bc qJ (7) cm (bH _)) (dD (aF cU (by rfl) T.sY gu (a5 (6) (aB (gJ (v:=.ty "str") (by rfl) T.str zZ rfl)))) (fP (bc (IW Qi) (GI hu (8) (5) (6) ⟨rfl,rfl,rfl,rfl⟩) (6) (bH _))))))))))))))))))),?_}
 ac_rfl
 refine{by show 9<=sizeLine;decide,λl1 Tn=>?_};generalize u1:upd H l1 _=H1;have t1:a7 H H1:=u1 ▸ a7.upd Tn;have g1:=(congrFun u1.symm l1).trans a6;clear u1;refine⟨"9",60,rfl,rfl,Hc,?_⟩;rw[HP];refine{2,_,1,rfl,ak ∅,1,_,1,rfl,ak ∅,_,1,rfl,ak ∅,1,_,1,rfl,ak ∅,by show 6<=sizeLine;decide,λm2 V1=>?_};generalize v2:upd H1 m2 _=J2;have w2:a7 H1 J2:=v2 ▸ a7.upd V1;have q2:=(congrFun v2.symm m2).trans a6;clear v2;refine{l1,m2,_,1,rfl,w2 _ _ g1,q2,by show 15<=sizeLine;decide,λl2 QL=>?_};generalize u2:upd J2 l2 _=H2;have t2:a7 J2 H2:=u2 ▸ a7.upd QL;have g2:=(congrFun u2.symm l2).trans a6;clear u2;refine{2,_,1,rfl,ak ∅,by show 1<=sizeLine;decide,λm3 TL=>?_};generalize v3:upd H2 m3 _=J3;have w3:a7 H2 J3:=v3 ▸ a7.upd TL;have q3:=(congrFun v3.symm m3).trans a6;clear v3;refine{l2,m3,_,1,rfl,w3 _ _ g2,q3,by show 16<=sizeLine;decide,λl3 O6=>?_};generalize u3:upd J3 l3 _=H3;have t3:a7 J3 H3:=u3 ▸ a7.upd O6;have g3:=(congrFun u3.symm l3).trans a6;clear u3;have g9:H3 l3=ρ (.lst ((cx.map (Ó SP)).map V.str)):=g3.trans (congrArg (λz=>ρ (HO.lst z)) ∅);have s3:=t1.trans (w2.trans (t2.trans (w3.trans t3)));have m0:=Š n (show (16:Int)≠0 by decide);have m1:=ş n (show (0:Int)<16 by decide);obtain⟨j,ej⟩:∃j:Nat,n%16=(j:Int):={(n%16).toNat,1.0};have I:j<16:=1.0;refine{1,_,1,rfl,⋯,?_};rw[ej]
 have X:yq ((cx.map (Ó SP)).map V.str) ((j:Nat):Int)=ρ (.str (cT j)):=b5 (by
  have Y:j<cx.9:=I;rw[Ê,Ê,È Y];show ρ (V.str (Ó SP cx[j]))=ρ (V.str (Ó SP (cx.getD j [])));rw[ï,È Y]
  rfl)
 refine{l3,_,_,1,rfl,aL.of g9,X,?_};clear X g9 g3 t3 w3 t2 w2 t1 g1 g2 q2 q3;have S3:=S0.same s3
 let{dx,v,wv,hx}:=S3.IQ
 refine{2,qm hx (QG S3 j I) λp Z vc U s4 hp G=>{p,1,gF.of hp,rfl,_,1,_,1,rfl,?_}};have y:=s3.trans s4;have S4:=S3.same s4;dsimp only[Ends.M9];generalize eσ:List.set (List.set (List.set _ 5 _) 6 _) 7 _=σ;have o1:σ[1]?=ρ (ρ (.int st)):=eσ ▸ rfl;have o0:σ[0]?=ρ (ρ (.ref x)):=eσ ▸ rfl;have o4:σ[4]?=ρ (ρ (.str jI)):=eσ ▸ rfl;have a:σ[5]?=ρ (ρ (.str (cT j))):=eσ ▸ rfl;have o6:σ[6]?=ρ (ρ Z):=eσ ▸ rfl;have m:σ[7]?=ρ (ρ vc):=eσ ▸ rfl;have ol:σ.9=9:=eσ ▸ rfl;clear eσ;refine Jc λR1 c1=>?_
 by_cases z0:st=0
 .subst z0;rw[if_pos rfl]at G
  let{e,rfl,B}:=mF G
  exact{_,o1,rfl,true,rfl,b6 {_,m,rfl,true,rfl,b6 {_,m,B _ _ λb q=>{rfl,k b (y.trans q)}}}}
 rw[if_neg z0]at G;refine{_,o1,rfl,false,congrArg V.bl (decide_eq_false λz=>z0 (V.int.inj z)),aA (c1 _ _ ?_)};clear c1
 let{C,D}:=Nb ⟨j,I⟩
 let{tc,td,J,tl,c9}:=ME ⟨j,I⟩
 have tf:=MF ⟨j,I⟩;have hr5:(cT j).9<=100:=tl;have r:(cT j).9<=sizeLine:=ak 1.0;have fr:=Nc ⟨j,I⟩;have ne:=(Dw ⟨j,I⟩).2.2.2
 have M:st=1\/st=2:=by
  cases S4 with
  |s0=>exact absurd rfl z0
  |s1=>exact .inl rfl
  |s2=>exact .inr rfl
 generalize ec:fK.getD j 0=c at G C D tc td J tf c9;clear ec;refine Jc λR1 c1=>?_
 by_cases z8:c=8
 .subst z8
  let{e,rfl,B}:=mF G
  rw[decide_eq_true rfl,ś]at C;exact{_,a,2,r,rfl,true,rp C.1,b6 {_,a,rfl,true,KC C.2,b6 {_,m,rfl,true,rfl,b6 {_,m,B _ _ λb q=>{rfl,k b (y.trans q)}}}}}
 rw[decide_eq_false z8]at C
 suffices n1:R1 σ U by
  by_cases b1:á (cT j) τ (ρ 4)="row "
  .rw[decide_eq_true b1,wgo]at C;exact{_,a,2,r,rfl,true,rp (decide_eq_true b1),b6 {_,a,rfl,false,KC C,aA n1}}
  .exact{_,a,2,r,rfl,false,rp (decide_eq_false b1),aA (aA n1)}
 refine c1 _ _ (Jc λR2 c2=>?_);clear c1 C
 by_cases z3:c=3
 .subst z3
  let{e,rfl,B}:=mF G
  rw[decide_eq_true rfl,ś]at D;exact{_,a,2,r,rfl,true,rp D.1,b6 {_,a,rfl,true,KC D.2,b6 {_,m,rfl,true,rfl,b6 {_,m,B _ _ λb q=>{rfl,k b (y.trans q)}}}}}
 rw[decide_eq_false z3]at D
 suffices n1:R2 σ U by
  by_cases b1:á (cT j) τ (ρ 5)="rate "
  .rw[decide_eq_true b1,wgo]at D;exact{_,a,2,r,rfl,true,rp (decide_eq_true b1),b6 {_,a,rfl,false,KC D,aA n1}}
  .exact{_,a,2,r,rfl,false,rp (decide_eq_false b1),aA (aA n1)}
 refine c2 _ _ (Jc λR3 c3=>?_);clear c2 D
 suffices n1:(st=1->c∉[4,5,6,9])->∀b,a7 U b->R3 σ b by
  by_cases z1:st=1
  .subst z1
   obtain⟨f,os,e⟩:∃f os,cx.getD j []=f::os:=by
    cases h:cx.getD j [] with
    |nil=>exact absurd h ne
    |cons f os=>exact⟨f,os,rfl⟩
   refine{_,o1,rfl,true,rfl,b6 ⟨_,a,rfl,cT j,32,rfl,rfl,1.0,λl hl=>?_⟩};rw[show θ (cT j) {#[32]}=f::os from (vh 32 ne fr).trans e]
   let{q,h5}:=bz (H:=U) (o:=.lst ((f::os).map V.str)) hl
   generalize upd U l _=b at q h5;refine{l,_,_,1,rfl,aL.of h5,b5 (j:=0) rfl,by show 3<=sizeLine;decide,λt ht=>?_}
   let{u,h6}:=bz (H:=b) (o:=.lst [.str "write",.str "read",.str "touched"]) ht
   generalize upd b t _=O at u h6;simp only[e,wfG]at tc
   by_cases z4:c∈[4,5,6,9]
   .rw[Qm z4]at G
    let{e,rfl,B}:=mF (G.same (q.trans u))
    exact{t,1,.inl (aL.of h6),rfl,rfl,true,congrArg V.bl (tc.trans (decide_eq_true z4)),b6 {_,m,rfl,true,rfl,b6 {_,m,B _ _ λH7 s7=>{rfl,k H7 (y.trans (q.trans (u.trans s7)))}}}}
   .exact{t,1,.inl (aL.of h6),rfl,rfl,false,congrArg V.bl (tc.trans (decide_eq_false z4)),aA (n1 (λ_=>z4) O (q.trans u))}
  .exact{_,o1,rfl,false,congrArg V.bl (decide_eq_false λz=>z1 (V.int.inj z)),aA (aA (n1 (λz=>absurd z z1) U (a7.refl _)))}
 intro h4 b q;have S5:=S4.same q;have G5:=G.same q;have R:=y.trans q;clear S4 G hp hx S3 S0 tc fr ne;refine c3 _ _ (Jc λR4 c4=>?_);clear c3;have hn:(("write ":Str).length+jI.9)<=sizeLine:=ak ∅
 by_cases z9:c=9
 .subst z9;obtain rfl:st=2:=M.resolve_left λz=>h4 z ⋯
  let{e,d,rfl,he,hd,B}:=KI G5
  exact{_,a,_,o4,_,1,rfl,hn,rfl,true,rp (td.trans (decide_eq_true rfl)),b6 {_,m,rfl,true,rfl,b6 {_,m,B _ _ λO u=>{rfl,true,rfl,b6 {_,m,e,L.aT,L.aG,d,_,_,1,u _ _ he,u _ _ hd,L.dJ,L.gz,rfl,rfl,k O (R.trans u)}}}}}
 refine{_,a,_,o4,_,1,rfl,hn,rfl,false,rp (td.trans (decide_eq_false z9)),aA (c4 _ _ (Jc λR5 c5=>?_))};clear c4 td
 by_cases z5:c=5\/c=6
 .obtain rfl:st=2:=M.resolve_left λz=>h4 z (by rcases z5 with rfl |rfl<;>decide)
  have G6:ic L b (.ans λt=>t="none") Z vc\/ic L b (.err 4) Z vc:=by
   rcases z5 with rfl |rfl
   .exact .inl G5
   .exact .inr G5
  rw[decide_eq_true z5,whq]at J;have n2:IU L [.ref x,Z,vc] b Q E0:={x,Z,vc,g,bw,rfl,S5,G6,λO u=>k O (R.trans u)}
  by_cases b1:cT j="read "
  .exact{_,a,rfl,true,rp (decide_eq_true b1),b6 (b6 {_,o0,_,o6,_,m,n2})}
  .exact{_,a,rfl,false,rp (decide_eq_false b1),aA {_,a,rfl,true,rp (J.resolve_left (λz=>b1 (of_decide_eq_true z))),b6 {_,o0,_,o6,_,m,n2}}}
 rw[decide_eq_false z5,Bool.or_eq_false_iff]at J;refine{_,a,rfl,false,rp J.1,aA {_,a,rfl,false,rp J.2,aA (c5 _ _ ?_)}};clear c5 J
 let{t,rfl,rfl,hd}:=Qn M h4 z8 z3 z9 z5 c9 G5
 refine λp hp=>{a6,xO,rfl,⋯,?_};have S:(upd (upd b p (.dK [])) p (.dK (gX [] xO))) p=ρ (.dK (gX [] xO)):=a6;have u:a7 b (upd (upd b p (.dK [])) p (.dK (gX [] xO))):=λc o e=>by rw[a9 (ae e hp),a9 (ae e hp)];exact e
 show cA 8 (V.ref p) _ _ _;generalize upd (upd b p (.dK [])) p (.dK (gX [] xO))=O at S u;have y5:(σ.set 8 (ρ (.ref p)))[5]?=ρ (ρ (.str (cT j))):=by rw[ĵ ⋯];exact a
 have y6:(σ.set 8 (ρ (.ref p)))[6]?=ρ (ρ (.str t)):=by rw[ĵ ⋯];exact o6
 have y7:(σ.set 8 (ρ (.ref p)))[7]?=ρ (ρ .non):=by rw[ĵ ⋯];exact m
 have y8:(σ.set 8 (ρ (.ref p)))[8]?=ρ (ρ (.ref p)):=by rw[ζ 1.0]
 exact{_,y7,rfl,true,rfl,b6 {_,y6,_,_,_,true,rfl,eA.str _,rfl,true,rfl,b6 {_,y8,p,rfl,.inl {_,.inl S},_,y5,_,y6,_,eQ.k (k:=Ã (cT j)) S,_,y6,(congrArg (λo=>Option.getD o (V.str t)) tf).trans hd,by rw[(congrArg (λo=>Option.getD o (V.str t)) tf).trans hd];exact .flat rfl,k O (R.trans u)}}}
theorem KS{ns:List Int}{y:V}(h:y∈tG (ns.map V.int) (ρ 9) (ρ 23)):∃c,y=.int c:=by
 unfold tG at h
 let{c,_,e}:=Å.mp (wge (wcO h))
 exact⟨c,e.symm⟩
theorem O2{f:Addr}{fd:î}(L:Lk K mg)(F:zo K "law" "law" (top 115) f fd):aI P w K mg base cz 15 f fd ["_law_script"] (Dr K):=by
 have T:=L.T;refine F.d2 (N:=["_law_script","_law_signs_here","_law_words_here","_law_row","_law_state","_law_desk","_law_cell_here","_law_found","_law_caught_here"]) (λgG A outer s H vs Q E nd hr h=>?_)
 let{a,ns,rfl,hS,hlen,k}:=h
 refine{_,(a0 (uj (ag (rq L) L.kI (a5 (0) (aB af))) (eV rfl (aS (ay (i:=1)) (aS (ay (i:=2)) (aS (ay (i:=3)) cW)))))
  (a0 (al (i:=4) (aD eB (ag (gQ L) L.gm (a5 (0) (aB af))) af))
  (a0 (al (i:=5) (GB L.Kx (ro L) (hr.mono ⋯) rfl L.Nz L.kM.b .nil ni))
  (a0 (aQ (b8 bE (4) af) (a0 (al (i:=3) (aD b9 ai (1)))
  (a8 (al (i:=2) (bM jB)))) aw)
  (a0 (aQ (PW.pt (jE (b8 fq (4) af) (gH (b8 kZ (gM (5) L.aN.cl L.bP.m (fg L) (hr.mono ⋯) L.bP.b .nil uh (aB (3))) ai)))) (a8 (aj dj)) aw)
  (a0 (aQ (PW.pt (jE (b8 bE (4) af) (gH (b8 kZ (gM (5) L.aN.cl L.bP.m (fg L) (hr.mono ⋯) L.bP.b .nil uh (aB ai)) ai)))) (a8 (aj dj)) aw)
  (a0 (forA (aW (dA tU (0) (eM af) (eM af))) (ay (i:=6)) (a8 (aQ (b8 bE (aD eB (6) af) af) (a0 (uj (ag (fI L) L.eK (a5 (5) (aB (ag (AR L) L.vJ (aB (aD gK (6) af)))))) (eV rfl (aS (ay (i:=7)) (aS (ay (i:=8)) cW))))
  (a8 (aQ (PW.pt (cH (b8 qJ (8) cm) (dg (b8 kZ (ag (bS L) L.bX (aB (8))) af)))) (a8 (aj dj)) aw))) (a8 (aQ (cQ (bO (ag (zm L) L.sN (a5 (5) (a5 (4) (aB (aD gK (6) af))))))) (a8 (aj dj)) aw)))))
  (a0 (aQ (b8 bE (4) af) (a0 (uj (ag (fI L) L.eK (a5 (5) (aB ai))) (eV rfl (aS (ay (i:=7)) (aS (ay (i:=8)) cW))))
  (a0 (aQ (PW.pt (cH (b8 qJ (8) cm) (cH (b8 kZ (ag (bS L) L.bX (aB (8))) af) (dg (b8 kZ (gM (5) L.aN.cl L.bP.m (fg L) (hr.mono ⋯) L.bP.b .nil uh (aB (3))) ai))))) (a8 (aj dj)) aw)
  (a0 (uj (ag (fI L) L.eK (a5 (5) (aB ai))) (eV rfl (aS (ay (i:=7)) (aS (ay (i:=8)) cW))))
  (a8 (aQ (PW.pt (cH (b8 qJ (8) cm) (dg (b8 kZ (ag (bS L) L.bX (aB (8))) af)))) (a8 (aj dj)) aw))))) aw)
  (a8 (aj (bc bE (gM (5) L.aN.cl L.bP.m (fg L) (hr.mono ⋯) L.bP.b .nil uh (aB ai)) (aY rB (by rfl) T.str zZ (aB (A4 T.len (c6 rfl (az ["_law_words_here"] [2]) (qL (1)) (λ_ _ _ _ _ _=>gL (eL (wj (K:=K) rfl) (0) (1) rfl)) (λ_ _ _ _ _ _=>(0)))))) (bH _)))))))))))),?_}
 ac_rfl
 refine⟨_,rfl,a,ns,0,rfl,hS,⋯,λt I g ws H1 s1 ht NA sg ul wd=>{t,1,gF.of ht,rfl,_,1,_,1,_,1,rfl,?_}⟩;refine⟨_,rfl,a,ns,8,rfl,s1.seq hS,⋯,_,_,rfl,rfl,⋯,?_⟩;have q0:=Š (iD ns 8) (show (3:Int)≠0 by decide);have q1:=ş (iD ns 8) (show (0:Int)<3 by decide);generalize iD ns 8%3=st at q0 q1;refine λx dx nx VE YT=>{x,dx,rfl,a6,λH3 VF Qk=>{rfl,?_}};have s3:a7 H1 H3:=λc o e=>VF c o (dU nx VE _ _ e) (ae e nx);have Ul:=(s1.trans s3).seq hS;have VG:=s3 _ _ NA;clear hS NA ht VF nx VE YT s1 s3;dsimp only[Ends.M9,cA];change Bu _ _ (Ends.fn Q) (Ek a g I ws st x τ τ τ) H3;refine Jc λR1 c1=>?_;have ls:∀{v wv:V},(fd2 v wv).lookup ("say":Str)=τ:=@λv wv=>cI (by show ("say":Str)∉[("band":Str),"writer"];decide+kernel)
 suffices n1:∀I bw J,aL K J a (ns.map V.int)->J I=ρ (.lst (bw.map V.str))->J x=ρ (eD L.aK dx .non .non)->bw.9<=6->(∀w∈bw,fh g w)->(st=2->bw=[])->R1 (Ek a g I bw st x τ τ τ) J by
  by_cases z2:st=2
  .subst z2;have g4:=sg.hi;refine{1,rfl,true,rfl,b6 {1,_,1,rfl,ak (by show 5+g.9<=_;omega),by show 0<=sizeLine;decide,λl hl=>?_}}
   let{s4,h4}:=bz (H:=H3) (o:=.lst []) hl
   have e:("band ":Str)++g=Ó SP ["band",g]:=eE (by
    rw[zh,aV,show ch ("band ":Str)=ch ("band":Str)++[32] by decide+kernel]
    simp)
   have r:R1 [ρ (.ref a),ρ (.str g),ρ (.ref l),ρ (.str (Ó SP ["band",g])),ρ (.int 2),ρ (.ref x),τ,τ,τ] (upd H3 l (.lst [])):=n1 l [] _ (s4.seq Ul) h4 (s4 _ _ Qk) ⋯ (λw h=>nomatch h) λ_=>rfl;rw[<-e]at r;exact r
  .exact{1,rfl,false,congrArg V.bl (decide_eq_false λz=>z2 (V.int.inj z)),aA (n1 I ws H3 Ul VG Qk 1.0 wd λz=>absurd z z2)}
 clear Ul VG Qk;intro I bw J j n u VH VI YV;refine c1 _ _ (Jc λR2 c2=>?_);clear c1 wd ul
 suffices n1:∀D,aL K D a (ns.map V.int)->D I=ρ (.lst (bw.map V.str))->jw L D x g bw (if st=0 then 0 else 1)->R2 (Ek a g I bw st x τ τ τ) D by
  by_cases R:st=0
  .subst R;exact{1,_,1,rfl,false,rfl,aA (aA (n1 J j n (.s0 dx u)))}
  .refine{1,_,1,rfl,true,congrArg V.bl (decide_eq_true 1.0),b6 {1,x,dx,1,u,ls,1,IV u sg VH VI λD kp S5=>{rfl,false,rfl,aA (n1 D (DK j u kp) (vV n u kp) ?_)}}};rw[if_neg R];exact S5
 clear j n u J;intro J j n S;refine c2 _ _ (Jc λR3 c3=>?_);clear c2
 suffices n1:∀D,aL K D a (ns.map V.int)->D I=ρ (.lst (bw.map V.str))->jw L D x g bw st->R3 (Ek a g I bw st x τ τ τ) D by
  by_cases z2:st=2
  .subst z2;obtain rfl:=YV rfl;have S:jw L J x g [] 1:=S
   let{C,v',w',u}:=S.IQ
   exact{1,rfl,true,rfl,b6 {1,x,C,1,u,ls,NU S λD kp S5=>{rfl,false,rfl,aA (n1 D (DK j u kp) (vV n u kp) S5)}}}
  .refine{1,rfl,false,congrArg V.bl (decide_eq_false λz=>z2 (V.int.inj z)),aA (aA (n1 J j n ?_))}
   by_cases R:st=0
   .subst R;exact S
   .obtain rfl:st=1:=1.0;exact S
 clear j n S J;intro J j n S;refine c3 _ _ ?_;clear c3;refine{3,a,1,j,λl hl=>?_}
 let{s5,h5}:=bz (H:=J) (o:=.lst (tG (ns.map V.int) (ρ 9) (ρ 23))) hl
 generalize upd J l _=D at s5 h5;have S5:=S.same s5;have To:=s5 _ _ n;clear j S n hl s5;refine{l,rfl,{_,aL.of h5},eG (K:=K) (a:=l) (xs:=tG (ns.map V.int) (ρ 9) (ρ 23)) (λi σ Y=>∃v6 v7 v8,σ=Ek a g I bw st x v6 v7 v8/\a7 D Y) {_,_,1,a7.refl _} (λi σ Y _ {_,_,_,_,U}=>aL.of (U _ _ h5)) ?_ ?_}
 .rintro i y σ Y hy ⟨v6,v7,v8,rfl,U⟩
  let{c,rfl}:=KS (ê hy)
  have X:=S5.same U
  by_cases ce:c%2=0
  .refine{1,_,1,rfl,⋯,rfl,true,congrArg V.bl (decide_eq_true (congrArg V.int ce)),b6 {2,_,1,rfl,Qq,1,λps H7 Rp Z=>?_}};have S7:=X.same Z
   let{C,v',w',VJ}:=S7.IQ
   let{f,os,rfl,b7,hf}:=Ng Rp
   refine qm VJ (QB VJ b7 hf) λp vf vc H8 s8 hp G=>{p,1,gF.of hp,rfl,_,1,_,1,rfl,?_}
   let{e,rfl,hE}:=mF G
   exact{1,rfl,false,rfl,aA {1,hE _ _ λH9 s9=>{rfl,false,rfl,aA {_,_,1,U.trans (Z.trans (s8.trans s9))}}}}
  .exact{1,_,1,rfl,⋯,rfl,false,congrArg V.bl (decide_eq_false λz=>ce (V.int.inj z)),aA {3,_,1,rfl,Qq,x,st,_,g,bw,rfl,X,λH7 Z=>{true,rfl,aA {_,_,1,U.trans Z}}}}
 rintro σ Y ⟨v6,v7,v8,rfl,U⟩;have X:=S5.same U;have M:=U _ _ To;clear S5 To U h5 D;dsimp only[Ends.M9];refine Jc λR4 c4=>?_
 suffices n1:∀v7 v8 H7 Lz,H7 I=ρ (.lst (bw.map V.str))->¬Lz=0->jw L H7 x g bw Lz->R4 (Ek a g I bw st x v6 v7 v8) H7 by
  by_cases R:st=0
  .subst R
   obtain⟨C,O⟩:∃C,Y x=ρ (eD L.aK C .non .non):=by
    cases X with
    |s0 dx h=>exact⟨dx,h⟩
   refine{1,rfl,true,rfl,b6 {1,qm (r:=Ó SP ["rate","2","2"]) O (Lw O Dx.1 Dx.2.1 ∅) λp vf vc H7 Z hp G=>{p,1,gF.of hp,rfl,_,1,_,1,rfl,?_}}}
   let{e,rfl,hE}:=mF G
   refine{1,rfl,false,rfl,aA {1,hE _ _ λH8 s8=>{rfl,false,rfl,aA ?_}}};have VL:=Z.trans s8;have Um:=VL _ _ O;refine{1,x,C,1,Um,ls,1,IV Um sg VH VI λH9 kp S9=>{rfl,false,rfl,aA ?_}};have YW:=vV (VL _ _ M) Um kp
   obtain⟨dx9,xb9,VM⟩:∃C xb,H9 x=ρ (eD L.aK C (.ref xb) .non):=by
    cases S9 with
    |s1 dx xb ss ls h B a b c=>exact{_,_,h}
   refine{1,qm (r:=Ó SP ["write","0"]) VM (Lx VM Dx.2.2.1 Dx.2.2.2 (.inl rfl)) λp vf vc Ha sa hp G=>{p,1,gF.of hp,rfl,_,1,_,1,rfl,?_}}
   let{e,rfl,hE}:=mF G
   exact{1,rfl,false,rfl,aA {1,hE _ _ λHb sb=>{rfl,false,rfl,aA (n1 _ _ Hb 1 ((sa.trans sb) _ _ YW) ⋯ (S9.same (sa.trans sb)))}}}
  .exact{1,rfl,false,congrArg V.bl (decide_eq_false λz=>R (V.int.inj z)),aA (n1 _ _ Y st M R X)}
 clear X M Y;intro v7 v8 Y Lz M R X;refine c4 _ _ ?_
 let{C,v',w',O}:=X.IQ
 refine{1,x,C,1,O,ls,QC X R λss H7 Z ul wd=>{1,g,rfl,λlc Qw=>?_}};have g4:=sg.hi;refine da (λv=>!jy v (bw.map V.str)) (λv=>v) (j1 g) Qw (by unfold cD;rw[Á,aR];exact ak 1.0) (λ_ _=>trivial) (λv H8 Q' hv s8 q=>?_) (λv H8 Q' hv _ s8 q=>{1,q H8 (a7.refl _)}) (λH8 s8 h8=>?_)
 .let{d,hd,rfl}:=Å.mp (show v∈(ch g).map λc=>V.str {#[c]} from hv)
  exact{2,I,1,.inl (aL.of ((Z.trans s8) _ _ M)),rfl,í.mpr (λy hy=>by let{z,1}:=Å.mp hy;rfl),1,q H8 (a7.refl _)}
 .have e8:(((cD g).filter λv=>!jy v (bw.map V.str)).map λv=>v).9=((ch g).filter λc=>!jy (.str {#[c]}) (bw.map V.str)).9:=by
   unfold cD;rw[Á,Ŭ,Á];rfl
  have el:=KG g bw ss wd;have lg:=DM (ws:=bw) (ss:=ss) g4 (show 1<=200 by decide);refine{lc,1,.inl (aL.of h8),?_};rw[e8,<-el];refine{1,lg,rfl,?_};have:=k H8;rw[show decide (V.str (æ (toString (dW g bw ss 1 "")))=V.str (æ (toString (dW g bw ss 1 ""))))=true from decide_eq_true rfl];exact this
end
end K61
end
namespace K61
open PySem PySem.W _L _B _S
theorem nz{K:Frag}{mg:Str->Option Value}{hp:Heap}{x:Str}(X:K.In hp)(G:hp.Ns è mg)(a:nsIn K è x=some none:=by k_is):mg x=none:=mg_none_of X G a
theorem na{K:Frag}{C:Addr}{f:Str}(a:findIn K (.ref C) f=some none:=by k_is):bA K C f:=a
theorem YX{K:Frag}{mg:Str->Option Value}{hp:Heap}{f:Addr}{oc:Value}{od an:Option Addr}{FY:Array (Option Value)}{kV doc pm gG ct:Value}{nm:Str}{st:Stmt}{ps:List Str}(X:K.In hp)(G:hp.Ns è mg)(a:nsIn K è nm=some (some (.ref f)):=by k_is)(l:K.lookup f=some ⟨oc,od,.func (fnOf nm nm (cV st) (ck st) (ax st) .none kV doc pm an gG ct),FY⟩:=by k_is)(c:codeIn K gG nm=true:=by k_is)(k:keepIn K (.ref f)=true:=by k_is)(b:∀(kV doc pm:Value) (an:Option Addr) (gG ct:Value) (us:List Value),us.length=ps.length->bindArgs (fnOf nm nm (cV st) (ck st) (ax st) .none kV doc pm an gG ct) ⟨us,[]⟩=pure (ps.zip us):=by intro _ _ _ _ _ _;refine _L.Bi _ _ ?_;(repeat refine λ_=>?_);rfl):∃fd,FnAt K mg nm st ps f fd:=Raw.at_ X G a (C0 l c k) b
theorem YY{K:Frag}{C f:Addr}{oc:Value}{od an:Option Addr}{FY:Array (Option Value)}{kV doc pm gG ct:Value}{nm q:Str}{st:Stmt}{ps:List Str}(a:findIn K (.ref C) nm=some (some (.ref f)):=by k_is)(i:isFn K (.ref f)=true:=by k_is)(l:K.lookup f=some ⟨oc,od,.func (fnOf nm q (cV st) (ck st) (ax st) .none kV doc pm an gG ct),FY⟩:=by k_is)(c:codeIn K gG q=true:=by k_is)(k:keepIn K (.ref f)=true:=by k_is)(b:∀(kV doc pm:Value) (an:Option Addr) (gG ct:Value) (us:List Value),us.length=ps.length->bindArgs (fnOf nm q (cV st) (ck st) (ax st) .none kV doc pm an gG ct) ⟨us,[]⟩=pure (ps.zip us):=by intro _ _ _ _ _ _;refine _L.Bi _ _ ?_;(repeat refine λ_=>?_);rfl):∃fd,cu K C nm q st ps f fd:=by
 obtain⟨fd,F,B⟩:=(C0 l c k).fn b;exact⟨fd,F,B,a,i,k⟩
theorem YZ{K:Frag}{mg:Str->Option Value}{hp:Heap}{x:Str}{t:Tok}(X:K.In hp)(G:hp.Ns è mg)(a:nsIn K è "KNOWN_SIGNS"=some (some (.str x t)):=by k_is)(e:x=iC:=by first |rfl |decide+kernel):∃t,mg "KNOWN_SIGNS"=some (.str iC t):=⟨t,e ▸ mg_of X G a⟩
theorem Z0{K:Frag}{mg:Str->Option Value}{hp:Heap}{x:Str}{t:Tok}(X:K.In hp)(G:hp.Ns è mg)(a:nsIn K è "FIGURES"=some (some (.str x t)):=by k_is)(e:x=æ "0123456789":=by first |rfl |decide+kernel):∃t,mg "FIGURES"=some (.str (æ "0123456789") t):=⟨t,e ▸ mg_of X G a⟩
theorem Rq{K:Frag}{f:Addr}{oc:Value}{od an:Option Addr}{FY:Array (Option Value)}{kV doc pm gG ct:Value}{nm q:Str}{st:Stmt}{ps:List Str}(l:K.lookup f=some ⟨oc,od,.func (fnOf nm q (cV st) (ck st) (ax st) .none kV doc pm an gG ct),FY⟩:=by k_is)(c:codeIn K gG q=true:=by k_is)(k:keepIn K (.ref f)=true:=by k_is)(b:∀(kV doc pm:Value) (an:Option Addr) (gG ct:Value) (us:List Value),us.length=ps.length->bindArgs (fnOf nm q (cV st) (ck st) (ax st) .none kV doc pm an gG ct) ⟨us,[]⟩=pure (ps.zip us):=by intro _ _ _ _ _ _;refine _L.Bi _ _ ?_;(repeat refine λ_=>?_);rfl):∃fd,zo K nm q st f fd/\Binds K fd ps []:=(C0 l c k).fn b
theorem walk{l:η}{q:É}{loose:List Str}{XP:(Str->Option Value)->Heap->Prop}{YP:World->Heap->Prop}{d:DefRec}{K:Params->À}(hn:l.most=some 63)(Z1:d.params.defaults=[])
 (hY:∀(w:World) (h:Heap),YP w h->(K w.params).In h)
 (F:∀(w:World) (mg:Str->Option Value) (fa:Addr) (h:Heap),(K w.params).In h->h.Ns è mg->mg d.name=some (.ref fa) ->
   ∃fd:î,(∀(s:Shared) (u:Value),BindsTo s fd ⟨[u],[]⟩ [("_law_script",u)])/\∀base:Heap,(K w.params).In base->base.Ns è mg->aI l.prog w (K w.params) mg base cz 15 fa fd ["_law_script"] (Dr (K w.params))) :
 whn q loose XP YP l.row.toRowW d [] (λf vs=>whz f vs):=
 _L.KM (n:=63) (k:=15) (x:="_law_script") (CX:=λ_=>cz) (sp:=λw=>Dr (K w.params)) hn (by decide) Z1 ⟨rfl,by decide,by decide⟩ hY F (λ_ _ a ns hl _ hS=>⟨a,ns,rfl,hS,hl,λ_=>rfl⟩) λ_ _ _ _ _ z=>z
theorem Uo{K:Frag}{mg:Str->Option Value}{hp:Heap}{f:Addr}{oc:Value}{od an:Option Addr}{FY:Array (Option Value)}{kV doc pm gG ct:Value}(l:η)(w:World)(fa:Addr)(Z2:mg "law"=some (.ref fa))(X:K.In hp)(G:hp.Ns è mg)(L:Lk K mg)(a:nsIn K è "law"=some (some (.ref f)):=by k_is)(lk:K.lookup f=some ⟨oc,od,.func (fnOf "law" "law" (cV (top 115)) (ck (top 115)) (ax (top 115)) .none kV doc pm an gG ct),FY⟩:=by k_is)(c:codeIn K gG "law"=true:=by k_is)(k:keepIn K (.ref f)=true:=by k_is) :
 ∃fd:î,(∀(s:Shared) (v:Value),BindsTo s fd ⟨[v],[]⟩ [("_law_script",v)])/\∀base:Heap,K.In base->base.Ns è mg->aI l.prog w K mg base cz 15 fa fd ["_law_script"] (Dr K):=by
 have e:=Z2.symm.trans (mg_of X G a);cases e;exact⟨_,λs v=>.of_eq rfl,λbase _ _=>O2 L (G8 (st:=top 115) lk c k)⟩
end K61
open PySem PySem.W PyProof.Rows
set_option maxRecDepth 100000 in
set_option maxHeartbeats 0 in
theorem PySem.Challenge.cw_bandscribe_k61_forms_refused_holds : PySem.Challenge.rw_bandscribe_k61_forms_refused.Holds := by
 w_on;o_law;(refine PySem.W.holds_open (q:=K61.view) (loose:=[]) (Xt:=λs=>ĥ K61.view [] s&&ĝ (Ģ (ī (Ġ ď))) s) (XP:=PySem.W.XL K61.view []) (Yf:=PySem.W.Hook.obs (wed K61.pre.heap_39 K61.addrs (λ_=>by kernel_rfl))) (Ya:=PySem.W.Hook.val (wed K61.pre.heap_39 K61.addrs (λ_=>by kernel_rfl))) (YP:=PySem.W.Hook.says (wed K61.pre.heap_39 K61.addrs (λ_=>by kernel_rfl))) (N:=12100) ?hl (PySem.W.Hook.of (wed K61.pre.heap_39 K61.addrs (λ_=>by kernel_rfl))) (PySem.W.Hook.keeps (wed K61.pre.heap_39 K61.addrs (λ_=>by kernel_rfl))) (λs e=>PySem.W.xl_of s (wgk.mp e).1) PySem.W.XL.keeps (by rfl) (by rfl) (by rfl) (λs e=>PySem.W.recFacts_of (wgk.mp e).2) (by rfl) (by first |assumption |decide+kernel) (by decide+kernel) ⟨rfl,rfl,rfl,rfl,rfl,by decide+kernel⟩ ?hw ?hc;(case hl=>(intro w;exact K61.whole w)));(case hw=>w_witness2)
 k_fill
 refine K61.walk (l:=ď) rfl rfl (λw h Y=>PySem.W.kIn_of Y) ?F
 case F=>
  intro w mg fa h X G Z3;refine K61.Uo _ w fa Z3 X G ?L;constructor
  all_goals try first |exact(K61.YX X G).choose_spec |exact(K61.YY).choose_spec |exact mg_of X G (by k_is) |exact K61.na |k_is |exact⟨_,mg_of X G (by k_is)⟩ |exact K61.YZ X G |exact K61.Z0 X G |exact _S.Ku (by k_is) |exact _S.DF (by k_is) |exact⟨(_S.DF (by k_is)).lk,by k_is,by k_is,by k_is,by k_is⟩ |exact⟨by k_is,by k_is,by k_is⟩ |exact⟨by k_is,by k_is,by k_is,by k_is⟩ |(constructor;exact K61.nz X G;all_goals exact K61.nz X G) |(constructor;exact⟨by k_is,by k_is,by k_is,by k_is⟩;all_goals exact K61.na)
  case L.Iy=>exact(K61.Rq (ps:=["self","length","rows"])).choose_spec.1
  case L.Iz=>exact(K61.Rq (nm:="__init__") (q:="Scarce.__init__") (st:=_L.inClass (K61.top 13) 0)).choose_spec.2
  case L.AG=>exact(K61.Rq (ps:=["self","number"])).choose_spec.1
  case L.vL=>exact(K61.Rq (nm:="__init__") (q:="NoData.__init__") (st:=_L.inClass (K61.top 15) 0)).choose_spec.2
#print axioms PySem.Challenge.cw_bandscribe_k61_forms_refused_holds
