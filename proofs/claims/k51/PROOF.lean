import PyProof.Rows.All
import KE.KDictOf
import KE.KIsAll
import KE.KFromBytes
import KE.KDictSum
import KE.KEqDict
import KE.LcSums
import KE.KItem
import Lean
import PyProof.EqAt
import PyProof.EqKinds
import PyProof.TupleCall
import PyProof.Rows.SortStr
import PyProof.StrLawsReplace
import PyProof.StrLawsIdx
import PyProof.StrLawsIn
import PyProof.StrBlockI
import PyProof.StrBlockL
import PyProof.SliceList
import PyProof.InstStoreFacts
import PyProof.NsDelKeeps
import PyProof.StationsW
import PyProof.ExcArgs
import PyProof.ExcBaseAll.ValueError
import PyProof.StrCalls
import PyProof.ListRange
import PyProof.EnumMake
import PyProof.Draws
import PyProof.FactsAll.dict
import PyProof.StrBlock2
import PyProof.Rows.SumAny
import PyProof.NeKinds
import PyProof.Rows.MinMaxN
import PyProof.Rows.Range3
import PyProof.StrLawsFirst
import PyProof.AttrMissHeap
import PyProof.Rows.CallKwBuiltin
import KE.KMinKey
import PyProof.FString2
import KE.KDictLaws
import KE.KRevIter
import PyProof.DictItems
import PyProof.ZipIter
import PySem.Challenge.RW_bandscribe_k51_windows_told
set_option genInjectivity false
set_option genSizeOfSpec false
open PySem.Challenge renaming pw_bandscribe_k51_windows_told→pw0,rw_bandscribe_k51_windows_told→rw0
open List renaming length_map→wa0,getElem?_eq_getElem→wa1,getElem?_map→wa3,getD_eq_getElem?_getD→wa4,length_append→wa5,getElem?_eq_some_iff→wa6,mem_of_getElem?→wa8,mem_map→wab,mem_cons_of_mem→wac,length_take→wad,mem_cons_self→wag,map_map→wah,map_append→wai,replicate→waj,mem_singleton→wao,map_cons→wat,mem_filter→wau,mem_append→wax,getElem?_append_left→waA,getElem?_append_right→waB,range→waD,length_cons→waE,size_toArray→waF,mem_cons→waG,take_length→waH,mem_append_right→waI,length_range→waJ,getElem_mem→waK,take_add_one→waM,length_replicate→waN,append_assoc→waQ,all_eq_true→waR,mem_append_left→waS,length_drop→waW,map_congr_left→waX,append_nil→waY,filter_eq_self→wb1,filter_cons_of_pos→wb5,length_filter_le→wb6,mem_range→wb7,filter_cons_of_neg→wba,take_of_length_le→wbf,take_append_drop→wbi,filterMap_cons→wbl,not_mem_nil→wbn,take_sublist→wbp,drop_eq_nil_of_le→wbs,sum_cons→wbu,filter_append→wbB,eq_nil_of_length_eq_zero→wbE,nodup_cons→wbI,any_eq_true→wbN,mem_of_mem_take→wbP,flatten_cons→wbV,getElem_of_mem→wbZ,length_pos_iff→wc1,drop_append_of_le_length→wc3,idxOf_lt_length_iff→wc7,count_pos_iff→wc8,getElem_inj→wcm,length_singleton→wco,getElem?_eq_none→wcp,drop_eq_getElem_cons→wcq,range_succ→wcv,length_set→wcx,replicate_succ→wcC,length_reverse→wcF,mem_flatMap→wcH,getElem?_set_ne→wcU,mem_or_eq_of_mem_set→wcW,map→wcZ,getElem?_take_of_lt→wd1,any_cons→wdb,map_take→wdd,find?_cons→wdg,mem_replicate→wdo,getElem?_set_self→wdr,length→wdt,nodup_nil→wdx,dropLast_concat_getLast→wdy,drop_zero→wdz,take_zero→wdB,lookup_cons→wdF,take_prefix→wdJ,getElem_toArray→wdK,filter_sublist→wdN,getElem?_range→wdO,foldl_cons→wdQ,nil_append→wdR,mem_filterMap→wdW,map_nil→wdY,any_map→wdZ,length_filterMap_le→we7,map_id'→we9,getElem_idxOf→wea,prefix_append→web,take_left→wef,flatMap_cons→wej,drop_of_length_le→weo,map_drop→wer,mem_iff_getElem→weW,filter_map→weY,flatMap_append→wf3,all_cons→wff,any_eq_false→wfm,foldl_append→wfp,nodup_append→wft,getElem_take→wfv,extract_eq_take_drop→wfB,getElem?_eq_none_iff→wfD,all_map→wfF,nodup_range→wfM,drop_length→wfN,suffix_refl→wfR,length_eq_zero_iff→wfV,prefix_iff_eq_take→wg0,of_mem_zip→wg6,length_nil→wg9,lookup→wgd,range'→wgn,drop_left→wgB,getElem?_reverse→wgC,singleton_append→wgE,eq_nil_or_concat→wgG,filterMap_append→wgH,drop_take→wgJ,idxOf_cons_self→wgN,mem_of_mem_drop→wgS,map_eq_nil_iff→wh6,contains_cons→whl,mem_range'_1→whu,map_dropLast→whv,filter_congr→whx,ext_getElem?→whz,drop_sublist→whB,range'_succ→whP,drop_suffix→whQ,mem_flatten→whR,drop_append→whT,append_inj'→whU,getElem_map→whW,foldl→whY,idxOf_cons→wi2,sum_append→wi3
open PySem.W renaming Frag→wa2,findIn→wbj,kia_one→wbK,emptyDict→wbY,recOk→wcj,xlAt→wcr,instObj→wcs,fnOf→wct,callWith_K→wcL,keepIn→wcX,boot_heap→wde,codeIn→wec,looks_clsIn→wei,plainGet→wet,methodCall_KW→weD,OpenLaw→wf0,plainGet_of→wf2,lookIn→wf6,looks_findIn→wf8,hasDictIn→wfk,methodObj→wfl,set_plain→wfs,isFn→wfG,takerIn→wg5,cellsFrom_some→wge,SharedT→wgu,kdl_values→whe,specialIn→whn,plainOver→whq,kitx_list→whs,kitx_dict→wht,boot_o_0→whJ,handedIn→whK,kdl_dict→whN,kdl_call→whO,WalkO→whX,makesIn→wi0,KeqHits→wi1,kitOne→wia
open PySem renaming wpAny_bind→wa7,wpAny_pure→waz,Program→waC,bootBuiltins→waV,mainGlobals→wb2,wpAny_mono→wb8,wpAny_loadPart_at→wbd,compareOp→wbo,wpAny_Call_Name_kw→wbr,wpAny_holding→wbt,FuncData→wbw,importedModules→wbH,codeAny_builtin→wbJ,excClassObj→wbL,strKind→wbQ,wpAny_tryCatch→wbU,wpAny_truthy_bool→wbW,foldedSetIterable→wbX,wpAny_isSubtype_exc→wc0,OsState→wc2,sysModules→wcb,swapsWith→wcc,sizeLine_eq→wcg,codeAny_mono→wch,plainId_quiet→wck,wpAny_execs_nil→wcu,lookup_relabel_local→wcw,attributeBase→wcz,mem_of_lookup→wcE,keywordEach→wcI,cLine→wcJ,wpAny_passesOwn→wcO,wpAny_pyIter_list→wcR,wpAny_pyIter_enum→wcS,codeAny_call_builtin→wcV,wpAny_seqItems→wcY,wpAny_execs_cons→wd0,Scope→wd3,plainObj_wpAny_Assign_Attribute→wd5,wpAny_getItem_str_slice→wd7,behindInMarks→wda,scanBound→wdk,tupleKind_room_in1→wdl,wpAny_call→wdn,wpAny_updateSeq→wdp,wpAny_letGo→wdw,boot_len→wdA,GenState→wdD,assignEach→wdE,wpAny_standAt→wdL,wpAny_letOwnedTupleGo_enum→wdM,wpAny_loadPart'→wdU,Within→we0,wpAny_pyIter_range→we3,wpAny_Assign_Name→weg,Result→wek,IsRangeIter→wel,wpAny_field→wen,NameKind→weu,checkBuiltinCall→wew,Builtin→wey,Keyword→wez,getMethod→weC,seqItems?→weE,codeAny_handlers_test→weG,letOwnedTupleGo→weK,call_meets→weP,post_val_or_str→weS,wpAny_handleBy_cons→wf5,wpAny_setField→wf7,tupleKind→wfb,wpAny_newObj_type→wfq,typeLookup→wfy,call_meetsIn→wfI,wpAny_lookBehind→wfJ,pastItsLine_dict→wfK,wpAny_comprehension_free→wfL,wpAny_pyNext_enum_itemD→wfY,treeTable→wg2,setFlight→wga,codeAny_of_tree→wgc,subscripted→wgf,wpAny_pyNext_range_end→wgj,wpAny_pyIter_rangeiter→wgk,wpAny_pyNext_enum_endD→wgo,codeAny_handlers_suite→wgs,wpAny_isTrue_Compare1→wgy,wpAny_loadPart→wgz,weight_type_call_type→wgA,wpAny_loadName_local→wgK,PlainAttrs→wgL,wpAny_pyIter_revIter→wgR,excMatches→wgU,wpAny_loadName_cell→wh1,wpAt_of_wpAny→wh4,seqIndex_neg→whc,wpAny_nsSet1→whf,updateSeq→whj,call_range_3→whk,seqIndex_of→whE,intItems_at→whF,wpAny_of_eq→whH,sliceBounds→whI,wpAt_bind→wi6,call→wi7
open PySem.Heap renaming get?_push_of_some→wa9,lt_size→wae,get?_push_size→wap,get?_update_other→waO,get?_update_self→wbG,size_push→wbS,SameBut→wfH,get?_update_ne→wh7
open Nat renaming le_refl→waa,le_trans→wal,zero_le→waq,ne_of_lt→wav,lt_of_lt_of_le→waw,lt_of_le_of_lt→wbg,lt_irrefl→wbm,mul_le_mul→wby,sub_self→wbA,lt_succ_self→wbO,le_succ→wbR,ne_of_gt→wc4,mul_le_mul_left→wcd,mul_add→wci,add_sub_cancel_left→wcB,not_lt_zero→wcP,le_add_right→wdI,min_eq_left→wdS,le_of_eq→we2,lt_succ_of_lt→weh,add_comm→weL,le_of_lt→weN,mul_le_mul_right→weU,lt_or_eq_of_le→wfe,lt_trichotomy→wfu,pow_le_pow_right→wgT,zero_add→whi,sub_zero→whm,lt_succ_of_le→why,le_succ_of_le→whA,mul_one→whG,le_of_not_lt→whV,le_antisymm→wi4
open Option.some renaming inj→waf
open Sum renaming inr→wak,inl→wb4
open PySem.Value renaming ref→wam,none→wbF,type→weJ,bool→wfx,int→wg3,str→wg4,isStrOf→wgV,isStrOf_shape→wh0,float→whD
open Bool renaming false_ne_true→wan,and_eq_true→wbc,false_eq_true→wc5,true_and→wcA,false_and→wcG,eq_iff_iff→wdf,and_false→wed,or_eq_true→weO,eq_false_iff→wfw,and_eq_true_iff→wgQ,not_true→wgZ
open Int renaming toNat_natCast→war,natCast_mul→wb0,emod_nonneg→wbb,emod_lt_of_pos→wbh,natCast_add→wbk,zero_add→wca,natCast_pow→wdT,le_trans→we8,mul_comm→weV,le_refl→wfa,le_of_mul_le_mul_right→wfj,pow_succ→wfT,eq_ofNat_of_zero_le→wfW,mul_pos→wgg,ediv_eq_zero_of_lt→wgh,add_mul→wgp,le_ediv_iff_mul_le→wgr,add_mul_ediv_left→wgv,mul_ediv_add_emod→wgD,mul_nonneg→wgI,toNat_of_nonneg→wh3,ediv_nonneg→wi5
open PySem.F renaming plainAttrs_list→waL,slot_list_append→waP,type_list_append→waT,plain_min_loop→wbT,called_set→wc6,plain_max_loop→wc9,excBase_ValueError→wcl,plainAttrs_dict→wd8,slot_list_index→wd9,slot_dict_values→we4,entry_min_loop→wep,plainAttrs_str→weq,entry_max_loop→wex,slot_dict_get→weB,slot_str_join→weH,type_str_join→weI,slot_dict_setdefault→wf9,called_enumerate→wfd,args_list_index_2→wfC,entry_list_index→wfO,type_dict_values→wfS,args_dict_get_3→wfX,type_list_index→wg1,entry_dict_get→wgm,entry_type_call→wgM,slot_list_pop→whg
open PySem.Txt renaming slice→waU,join→wd2,startswith→wee,slice_le→weT
open PyProof.Rows renaming callWith_type1→waZ,envOfC→wdP,kws_cons→weF,callWith_builtin1→weQ,kws_nil→weX,int_text_len_1921→weZ,boot_range→wfz,callWith_kw→wfQ,sortedS→wfU,subscriptTail_builtinR→wgi,subscriptTail→wgX,kmk_tree→wi8
open False renaming elim→wb3
open PySem.Builtin.Range renaming rangeSize→wb9,small→wd4,rangeFitsLong→wdC
open PySem.W.OpenRow renaming toRowW→wbe
open PySem.W.RowW renaming records→wbq
open PySem.W.OpenLaw renaming row→wbv
open Ne renaming symm→wbx
open True renaming intro→wbz
open PySem.Around renaming under_plainId→wbC,under→wha,under_plain→whh
open Classical renaming byContradiction→wbD,propDecidable→wfZ,choose_spec→wgF,choose→whS
open PySem.Builtin.Str renaming strSliceIndices→wbM,occurrences→wd6,subAt→whw
open Prod.mk renaming inj→wce
open Sum.inr renaming inj→wcf
open Array renaming getElem?_toList→wcn,length_toList→wcD,getD_eq_getD_getElem?→wcK,getElem?_eq_none→wdu,toArray_toList→wdH,toList_inj→wev,getElem?_eq_some_iff→wfi,toList_extract→wgP
open PySem.Str renaming ofString→wcy,length→wdG
open PyProof.Rows.F renaming plain_set_update_loop→wcM,entry_set_update_loop→we5
open PySem.Builtin.Builtins renaming bindParams→wcN
open PySem.NameKind renaming free→wcQ,cell→wfh
open PySem.Obj renaming mapSeq→wcT,mapFields→wdc,data_mapFields→wdj,isFreed_of_fields→weA
open PySem.PassesOwn renaming never→wdh,leaving→whC
open ForInStep renaming yield→wdi
open PySem.Calls renaming spliced_cons→wdm,callWith_builtin→wdv,evalArgs_plain→weR,call_len_list→wf1,Name_function_global→wfg,spliced_nil→wfn,Constant_str→whd
open Option renaming map_eq_some_iff→wdq,map_some→weM,isSome_map→wfo,isSome_iff_exists→wfE,getD_some→whM
open PyProof renaming noPylong_small→wds
open Eq renaming trans→wdV
open PySem.Builtin.List renaming listTooLong→wdX
open Or renaming inl→we1
open PySem.Code renaming quiet_builtin→we6,isFrame→whb
open PySem.Data renaming fields→wem,cell→wg8
open Prod renaming ext→wes
open PySem.Heap.SameBut renaming update→wf4
open PySem.W.Looks renaming here→wfc
open List.Sublist renaming refl→wfr
open PySem.Walks renaming list→wfA
open PySem.SeqAt renaming list_indexAt→wfP,eq_listAt→whZ
open PySem.SeqAt.EqAt renaming same→wg7,int_int→wgw,str_str→wgx,int_str→wh8,str_int→wh9
open PySem.Within renaming cons→wgb
open PySem.IsRange renaming new→wgl
open PySem.StrLaws renaming sliceText_from→wgq,sliceText_to→wgO
open PySem.Builtin.Dict renaming samePairs→wgt
open PySem.Paired renaming length→wgW
open List.cons renaming inj→wgY
open PySem.EntryCells renaming newEntry→wh2
open Std.Legacy.Range renaming forIn_eq_forIn_range'→wh5
open PySem.Flt renaming mathRow→whp
open PySem.Heap.Ns1 renaming of_empty→whr
open PySem.P renaming add_list→whL
open PySem.Builtin.Frozenset renaming updateFrom→wi9
open PySem.Shared renaming TypeIs→wib
open Nat.succ renaming inj→wic
set_option Elab.async false
set_option linter.all false
set_option maxRecDepth 100000
set_option maxHeartbeats 4000000
namespace Tt
open PySem PySem.W PySem.Calls PyProof.Rows
noncomputable def Ge(tb:String->Option wey)(p:waC)(w:World)(n₀:Nat)(ann:Option Value):Nat->wgu->Thread->Option wgu
 |0,_,_=>none
 |n+1,s,t=>match through t with
  |true=>some s
  |false=>match stepOk n₀ ann t with
   |false=>none
   |true=>match stepT (denote tb) p w s t with
    |some (s',t')=>Ge tb p w n₀ ann n s' t'
    |none=>none
theorem Gf{tb:String->Option wey}{p:waC}{w:World}{n₀:Nat}{ann:Option Value}:∀{n:Nat} {s s':wgu} {t:Thread},Ge tb p w n₀ ann n s t=some s'->topRun tb p w n₀ ann n s.abs t=some s'.abs
 |0,_,_,_,h=>by cases h
 |n+1,s,s',t,h=>by
  unfold Ge at h;unfold topRun
  cases ht:through t with
  |true=>rw[ht]at h;cases h;rfl
  |false=>
   rw[ht]at h
   cases hk:stepOk n₀ ann t with
   |false=>rw[hk]at h;cases h
   |true=>
    rw[hk]at h
    cases hs:stepT (denote tb) p w s t with
    |none=>rw[hs]at h;cases h
    |some r=>obtain⟨s₂,t₂⟩:=r;rw[hs]at h;rw[stepT_spec hs];exact Gf h
noncomputable def sound(p:waC)(h₀:Heap)(s:wgu):Bool:=staticsOk (wbH p.main.body) h₀ s.abs.heap&&namesBound p s.abs.heap&&gensDone s.abs&&laidKept h₀ s.abs.heap
theorem JI{p q:waC}{loose:List Str}{Xt:Shared->Bool}{α:Type}{Yf:Shared->α}{Ya:World->α}{N n m₀:Nat}{life:Params->Life}{g0:Bool}{H₀:Params->Heap}{T₀:Params->BT}{RH:Array wdD}{d₀:Drawn}{k₀:Nat}{ann:Option Value}
 (P6:∀w:World,(fencedOpening wg2 p w N).map (λs=>(s.heap,s.gens,s.drawn,s.toks))=some (H₀ w.params,RH,d₀,k₀))
 (size:∀P:Params,((H₀ P).isNs wb2&&RH.size==0,(H₀ P).objs.size,(H₀ P).nsMap wb2 "__annotations__")=(true,m₀,ann))
 (tree:∀P:Params,absHeap (T₀ P) n (life P)=H₀ P)
 (run:∀(w:World) (os:wc2),∃s,Ge wg2 p w m₀ ann N ⟨T₀ w.params,n,life w.params,RH,d₀,k₀,os⟩ (topStub p)=some s/\sound p (H₀ w.params) s=true/\openSeen q loose (wbH p.main.body) Xt g0 s.abs=openGood q loose/\Yf s.abs=Ya w):LeftO p q loose Xt Yf Ya N g0:=λw=>by
 obtain⟨⟨h,gs,d,k,os⟩,e,e'⟩:=wdq.mp (P6 w);obtain⟨rfl,rfl,rfl,rfl⟩:h=H₀ w.params/\gs=RH/\d=d₀/\k=k₀:=by simpa using e'
 obtain⟨z1,z2,z3⟩:_/\_/\_:=by simpa only[Prod.mk.injEq] using size w.params
 obtain⟨s,r,l1,l2,l3⟩:=run w os;have r:=Gf r
 have ea:(SharedT.mk (T₀ w.params) n (life w.params) gs d k os).abs=⟨H₀ w.params,gs,d,k,os⟩:=by
  unfold SharedT.abs;rw[tree]
 rw[ea]at r
 have t:topFrom wg2 p w N ⟨H₀ w.params,gs,d,k,os⟩=some s.abs:=by
  unfold topFrom;dsimp only;rw[z1,z2,z3,r];show (match sound p (H₀ w.params) s with |true=>_ |false=>_)=_;rw[l1]
 unfold openEnds;rw[e];show (topFrom wg2 p w N _).map _=_;rw[t];exact congrArg some (wes l2 l3)
theorem ME{S A B C:Type}{o:Option S}{f:S->A}{g:S->B}{h:S->C}{a:A}{b:B}{c:C}(x:o.map f=some a)(y:o.map g=some b)(z:o.map h=some c):∃s,o=some s/\f s=a/\g s=b/\h s=c:=by
 cases o with
 |none=>cases x
 |some s=>exact⟨s,rfl,waf x,waf y,waf z⟩
theorem four{S A B C D E F G:Type}{o:Option S}{f:S->A×B×C×D×E×F×G}{a:A×B×C×D×E×F×G}(h1:o.map (λs=>(f s).1)=some a.1)(h2:o.map (λs=>((f s).2.1,(f s).2.2.1))=some (a.2.1,a.2.2.1))(h3:o.map (λs=>((f s).2.2.2.1,(f s).2.2.2.2.1))=some (a.2.2.2.1,a.2.2.2.2.1))(h5:o.map (λs=>(f s).2.2.2.2.2.1)=some a.2.2.2.2.2.1)(h4:o.map (λs=>(f s).2.2.2.2.2.2)=some a.2.2.2.2.2.2):o.map f=some a:=by
 cases o with
 |none=>cases h1
 |some s=>
  have e1:(f s).1=a.1:=waf h1;have e2:((f s).2.1,(f s).2.2.1)=(a.2.1,a.2.2.1):=waf h2;have e3:((f s).2.2.2.1,(f s).2.2.2.2.1)=(a.2.2.2.1,a.2.2.2.2.1):=waf h3;have e5:(f s).2.2.2.2.2.1=a.2.2.2.2.2.1:=waf h5;have e4:(f s).2.2.2.2.2.2=a.2.2.2.2.2.2:=waf h4;exact congrArg some (wes e1 (wes (wce e2).1 (wes (wce e2).2 (wes (wce e3).1 (wes (wce e3).2 (wes e5 e4))))))
theorem cut(n:Nat){o:Option wgu}{as:List Addr}{v:List (Option Obj)}(h:o.map (λs=>(as.take n).map s.abs.heap.get?)=some (v.take n))(h':o.map (λs=>(as.drop n).map s.abs.heap.get?)=some (v.drop n)):o.map (λs=>as.map s.abs.heap.get?)=some v:=by
 cases o with
 |none=>cases h
 |some s=>
  have h1:(as.take n).map s.abs.heap.get?=v.take n:=waf h;have h2:(as.drop n).map s.abs.heap.get?=v.drop n:=waf h';show some (as.map s.abs.heap.get?)=some v;rw[<-wbi n as,wai,h1,h2,wbi]
end Tt
namespace K51
open PySem PySem.W
noncomputable def tp(i:Nat):Stmt:=pw0.main.body.getD i (.Pass ⟨0,0,0,0⟩)
noncomputable def view:waC:={pw0 with main:={pw0.main with body:=[tp 0,tp 2,tp 3,tp 4,tp 5,tp 6,tp 7,tp 8,tp 9,tp 10,tp 11,tp 12,tp 13,tp 14,tp 16,tp 18,tp 19,tp 20,tp 22,tp 23,tp 24,tp 25,tp 26,tp 27,tp 28,tp 29,tp 30,tp 31,tp 32,tp 33,tp 35,tp 36,tp 37,tp 38,tp 39,tp 41,tp 42,tp 43,tp 44,tp 45,tp 47,tp 48,tp 49,tp 50,tp 51,tp 53,tp 54,tp 55,tp 56,tp 57,tp 58,tp 59,tp 61,tp 62,tp 63,tp 64,tp 65,tp 66,tp 67,tp 68,tp 69,tp 70,tp 71,tp 72,tp 73,tp 74,tp 75,tp 77,tp 78,tp 79,tp 80,tp 81,tp 83,tp 84,tp 85,tp 86,tp 87,tp 88,tp 89,tp 90,tp 91,tp 92,tp 93,tp 94]}}
noncomputable def tree0(P:Params):BT:=(.node (boot_o_0 P) (.node (boot_o_1 P) (.node (boot_o_3 P) (.node (boot_o_7 P) .nil .nil) .nil) (.node (boot_o_5 P) (.node (boot_o_9 P) .nil .nil) .nil)) (.node (boot_o_2 P) (.node (boot_o_4 P) (.node (boot_o_8 P) .nil .nil) .nil) (.node (boot_o_6 P) (.node (boot_o_10 P) .nil .nil) .nil)))
noncomputable def run(w:World)(os:wc2):Option wgu:=(Tt.Ge wg2 pw0 w 11 (some (wam 6)) 8100 ⟨tree0 w.params,11,(wde w.params).life,Array.mk [],boot_drawn,boot_toks,os⟩ (topStub pw0))
noncomputable def lhsS(w:World)(os:wc2):=(run w os).map (λs=>Tt.sound pw0 (wde w.params) s)
noncomputable def lhsA1(w:World)(os:wc2):=(run w os).map (λs=>(openSeen view [] (wbH pw0.main.body) (λs=>wcr view [] s&&wcj (wbq (wbe (wbv rw0))) s) true s.abs).1)
noncomputable def lhsA2(w:World)(os:wc2):=(run w os).map (λs=>((openSeen view [] (wbH pw0.main.body) (λs=>wcr view [] s&&wcj (wbq (wbe (wbv rw0))) s) true s.abs).2.1,(openSeen view [] (wbH pw0.main.body) (λs=>wcr view [] s&&wcj (wbq (wbe (wbv rw0))) s) true s.abs).2.2.1))
noncomputable def lhsA3(w:World)(os:wc2):=(run w os).map (λs=>((openSeen view [] (wbH pw0.main.body) (λs=>wcr view [] s&&wcj (wbq (wbe (wbv rw0))) s) true s.abs).2.2.2.1,(openSeen view [] (wbH pw0.main.body) (λs=>wcr view [] s&&wcj (wbq (wbe (wbv rw0))) s) true s.abs).2.2.2.2.1))
noncomputable def lhsA5(w:World)(os:wc2):=(run w os).map (λs=>(openSeen view [] (wbH pw0.main.body) (λs=>wcr view [] s&&wcj (wbq (wbe (wbv rw0))) s) true s.abs).2.2.2.2.2.1)
noncomputable def lhsA4(w:World)(os:wc2):=(run w os).map (λs=>(openSeen view [] (wbH pw0.main.body) (λs=>wcr view [] s&&wcj (wbq (wbe (wbv rw0))) s) true s.abs).2.2.2.2.2.2)
noncomputable def lhsB(as:List Addr)(w:World)(os:wc2):=(run w os).map (λs=>as.map s.abs.heap.get?)
end K51
noncomputable def PySem.W.Fast.tw14598715356260435866:=whJ
theorem PySem.W.Fast.te14598715356260435866:whJ=PySem.W.Fast.tw14598715356260435866:=rfl
noncomputable def PySem.W.Fast.tw3683353368935848412:=pw0
theorem PySem.W.Fast.te3683353368935848412:pw0=PySem.W.Fast.tw3683353368935848412:=rfl
noncomputable def PySem.W.Fast.tw13899100880601395773:=whp
theorem PySem.W.Fast.te13899100880601395773:whp=PySem.W.Fast.tw13899100880601395773:=rfl
lay_quick K51.lhsS K51.lhsA1 K51.lhsA2 K51.lhsA3 K51.lhsA4 K51.lhsA5 K51.lhsB
section
open PySem PySem.W PyProof.Rows
local macro_rules |`(tactic|o_head $H)=>`(tactic|(refine PySem.W.holds_open (q:=K51.view) (loose:=[]) (Xt:=λs=>PySem.W.xlAt K51.view [] s&&PySem.W.recOk (PySem.W.RowW.records (PySem.W.OpenRow.toRowW (PySem.W.OpenLaw.row PySem.Challenge.rw_bandscribe_k51_windows_told))) s) (XP:=PySem.W.XL K51.view []) (Yf:=PySem.W.Hook.obs $H) (Ya:=PySem.W.Hook.val $H) (YP:=PySem.W.Hook.says $H) (N:=8100) ?hl (PySem.W.Hook.of $H) (PySem.W.Hook.keeps $H) (λs e=>PySem.W.xl_of s (Bool.and_eq_true_iff.mp e).1) PySem.W.XL.keeps (by rfl) (by rfl) (by rfl) (λs e=>PySem.W.recFacts_of (Bool.and_eq_true_iff.mp e).2) (by rfl) (by first |assumption |decide+kernel) (by decide+kernel) ⟨rfl,rfl,rfl,rfl,rfl,by decide+kernel⟩ ?hw ?hc;(case hl=>(intro w;contradiction))))
theorem K51.pre(h:False):(rw0).Holds:=by
 w_on;o_law;k_head
 all_goals contradiction
end
namespace K51
open PySem PySem.W
noncomputable def addrs:List Addr:=[2,3,15,17,18,20,21,22,29,30,31,32,35,42,43,44,47,54,56,57,59,60,61,62,63,66,73,75,76,78,79,80,81,82,85,92,94,95,97,98,99,100,101,104,111,113,114,116,117,118,119,120,123,130,132,133,135,136,137,138,139,142,149,150,151,154,161,162,163,166,173,175,176,178,179,180,181,182,185,192,194,195,197,198,199,200,201,204,211,212,213,216,223,225,226,228,229,230,231,232,235,237,238,240,241,242,244,245,247,248,249,251,252,254,255,263,265,266,268,269,270,272,273,275,276,277,280,281,282,284,285,287,288,289,291,292,294,295,296,298,299,301,302,303,306,307,308,310,311,313,314,315,316,317,318,319,322,325,326,327,329,330,332,333,334,336,337,339,340,341,343,344,346,347,348,351,352,353,355,356,358,359,360,362,363,365,366,367,369,370,372,373,374,377,378,379,382,383,391,393,394,396,397,398,400,401,403,404,405,407,408,410,411,412,414,415,417,418,419,421,422,424,425,426,428,429,431,432,433,435,436,438,439,440,442,443,445,446,447,449,450,452,453,454,457,458,459,460,461,462,463,466,468,469,471,472,473,475,476,478,479,480,482,483,485,486,487,489,490,492,493,494,497,498,499,502,503,504,506,507,509,510,511,514,515,516,518,519,521,522,523,525,526,528,529,530,533,534,535,538,539,540,542,543,545,546,547,549,550,552,553,554,556,557,559,560,561,564,565,573,576,577,578,579,580,581,582,585,588,589,590,592,593,595,596,597,600,601,602,604,605,607,608,609,612,613,614,616,617,619,620,628,631,632,633,635,636,638,639,640,641,642,643,644,647,649,650,652,653,654,656,657,659,660,661,663,664,666,667,668,671,672,673,676,677,678,681,682,683,685,686,688,689,690,692,693,695,696,697,700,701,702,704,705,707,708,709,711,712,714,715,716,719,720,721,723,724,726,727,728,730,731,733,734,742,745,746,747,749,750,752,753,754,756,757,759,760,761,763,764,766,767,768,770,771,773,774,775,777,778,780,781,782,784,785,787,788,789,792,793,794,796,797,799,800,801,803,804,806,807,808,809,810,811,812,815,817,818,820,821,822,824,825,827,828,829,832,833,834,836,837,839,840,841,843,844,846,847,848,851,852,853,856,857,858,860,861,863,864,865,868,869,870,873,874,875,877,878,880,881,882,885,886]
open PyProof.Rows in
theorem pS(w:World)(os:wc2):lhsS w os=some true:=wdV (congrFun (congrFun PySem.W.Fast.te13334915964000848505 w) os) (by kernel_rfl)
open PyProof.Rows in
theorem XX(w:World)(os:wc2):lhsA5 w os=some (plainGoodE view (looseW view [])):=wdV (congrFun (congrFun PySem.W.Fast.te3301098144107496300 w) os) (by kernel_rfl)
open PyProof.Rows in
theorem XY(w:World)(os:wc2):lhsA3 w os=some (true,pinGoodD (drecsOf view)):=wdV (congrFun (congrFun PySem.W.Fast.te14877956007367285982 w) os) (by kernel_rfl)
open PyProof.Rows in
theorem XZ(w:World)(os:wc2):lhsA4 w os=some (plainGoodD view [],wideGood view,clsGoodW view []):=wdV (congrFun (congrFun PySem.W.Fast.te1143240793943992075 w) os) (by kernel_rfl)
open PyProof.Rows in
theorem Y0(w:World)(os:wc2):lhsA1 w os=some (expectedOf view):=wdV (congrFun (congrFun PySem.W.Fast.te5602760840194446448 w) os) (by kernel_rfl)
open PyProof.Rows in
theorem Y1(w:World)(os:wc2):lhsA2 w os=some (bltViewBooted,true):=wdV (congrFun (congrFun PySem.W.Fast.te13635701438739603596 w) os) (by kernel_rfl)
theorem Y2(w:World)(os:wc2):lhsB (K51.addrs.take 160) w os=some (((K51.pre.heap_39 w.params).map λp=>some p.2).take 160):=wdV (congrFun (congrFun (congrFun PySem.W.Fast.te7757669820081875034 _) w) os) (by kernel_rfl)
theorem Y3(w:World)(os:wc2):lhsB (K51.addrs.drop 160) w os=some (((K51.pre.heap_39 w.params).map λp=>some p.2).drop 160):=wdV (congrFun (congrFun (congrFun PySem.W.Fast.te7757669820081875034 _) w) os) (by kernel_rfl)
theorem op:opening pw0=plainProg pw0.main.scope.names:=by kernel_rfl
theorem fe(s:Shared):fenceModules? pw0 s=some s:=by kernel_rfl
theorem tr(P:Params):absHeap (tree0 P) 11 (wde P).life=wde P:=by kernel_rfl
theorem sz(P:Params):((wde P).isNs wb2&&(Array.mk []:Array wdD).size==0,(wde P).objs.size,(wde P).nsMap wb2 "__annotations__")=(true,11,(some (wam 6))):=by kernel_rfl
theorem whole:LeftO pw0 view [] (λs=>wcr view [] s&&wcj (wbq (wbe (wbv rw0))) s) (λs=>K51.addrs.map s.heap.get?) (λw=>((K51.pre.heap_39 w.params).map λp=>some p.2)) 8100:=Tt.JI (H₀:=wde) (T₀:=tree0) (life:=λP=>(wde P).life) (boot_open op (by decide+kernel) fe) sz tr λw os=>Tt.ME (o:=run w os) (f:=λs=>Tt.sound pw0 (wde w.params) s) (g:=λs=>openSeen view [] (wbH pw0.main.body) (λs=>wcr view [] s&&wcj (wbq (wbe (wbv rw0))) s) true s.abs) (h:=λs=>K51.addrs.map s.abs.heap.get?) (pS w os) (Tt.four (o:=run w os) (f:=λs=>openSeen view [] (wbH pw0.main.body) (λs=>wcr view [] s&&wcj (wbq (wbe (wbv rw0))) s) true s.abs) (a:=openGood view []) (Y0 w os) (Y1 w os) (XY w os) (XX w os) (XZ w os)) (Tt.cut (o:=run w os) 160 (Y2 w os) (Y3 w os))
end K51
open PySem
open AutoSeq1 (wpAny_loadPart')
open PySem.W (Looks looks_findIn looks_typeIn InitBack bind_fn findIn clsIn specialIn readsIn findCls keepIn isFn typeIn InstAt looks_find looks_hook looks_mroIn takesIn mroIn subIn KitX kitOne kitCls kia_one findObj findObj_data class_get handed_on handedOut_of)
section
local macro_rules|`(tactic|lia)=>`(tactic|lia-abstractProof)
local macro_rules(kind:=«term{_}»)|`({$x,*})=>`(⟨$x,*⟩)
local macro_rules|`(())=>`(by omega)
local macro_rules|`(∅)=>`(by decide+kernel)
local macro_rules|`(⋯)=>`(by decide)
namespace L2
open PySem.Spec PyProof.Rows
noncomputable abbrev Key:=Sum Int Str
noncomputable def xh:Key->Value->Bool
 |.inl k,v=>Value.isInt k v
 |.inr x,v=>wgV x v
noncomputable def SQ(w:World):Key->Int
 |.inl k=>hashInt k
 |.inr x=>hashStr w x
theorem cf:∀{k:Key} {v:Value},xh k v=true->(∃i t,k=wb4 i/\v=wg3 i t)\/(∃x t,k=wak x/\v=wg4 x t)
 |.inl i,v,h=>by
  obtain⟨t,e⟩:=Value.isInt_shape (k:=i) (v:=v) h;exact .inl ⟨i,t,rfl,e⟩
 |.inr x,v,h=>by
  obtain⟨t,e⟩:=wh0 (x:=x) (v:=v) h;exact .inr ⟨x,t,rfl,e⟩
theorem Ee(i:Int)(t:Tok):xh (.inl i) (.int i t)=true:=by simp[xh,Value.isInt]
theorem Ef(x:Str)(t:Tok):xh (.inr x) (.str x t)=true:=by simp[xh,wgV]
theorem MF(a b:Int):decide ((wb4 a:Key)=wb4 b)=(a==b):=by
 grind
theorem MG(a b:Str):decide ((wak a:Key)=wak b)=decide (a=b):=by simp_all [Key,wcf,decide_eq_false]
theorem MH(a:Int)(b:Str):decide ((wb4 a:Key)=wak b)=false:=decide_eq_false (λq=>nomatch q)
theorem MI(a:Str)(b:Int):decide ((wak a:Key)=wb4 b)=false:=decide_eq_false (λq=>nomatch q)
noncomputable def bx(prog:waC)(w:World):PySem.KeyKind prog w Key where
 is:=xh
 hash:=SQ w
 inj:=λv a b ha hb=>by
  rcases cf ha with⟨i,t,rfl,rfl⟩ |⟨x,t,rfl,rfl⟩
  .rcases cf hb with⟨j,u,rfl,e⟩ |⟨y,u,rfl,e⟩
   .injection e with e1 _;rw[e1]
   .exact nomatch e
  .rcases cf hb with⟨j,u,rfl,e⟩ |⟨y,u,rfl,e⟩
   .exact nomatch e
   .injection e with e1 _;rw[e1]
 byValue:=λk v h=>by
   rcases cf h with⟨i,t,rfl,rfl⟩ |⟨x,t,rfl,rfl⟩<;>rfl
 pyHash:=λhv h=>by
  rcases cf hv with⟨i,t,rfl,rfl⟩ |⟨x,t,rfl,rfl⟩
  .exact wpAny_pyHash_int h
  .exact wpAny_pyHash_str h
 eqBool:=λhu hv h=>by
  rcases cf hu with⟨i,t,rfl,rfl⟩ |⟨x,t,rfl,rfl⟩
  .rcases cf hv with⟨j,u,rfl,rfl⟩ |⟨y,u,rfl,rfl⟩
   .rw[MF]at h;exact wpAny_eqBool_int h
   .rw[MH]at h;exact wh8 i t y u _ _ _ _ h
  .rcases cf hv with⟨j,u,rfl,rfl⟩ |⟨y,u,rfl,rfl⟩
   .rw[MI]at h;exact wh9 x t j u _ _ _ _ h
   .rw[MG]at h;exact wpAny_eqBool_str h
 «strs»:=λk x t v h=>by
  rcases cf h with⟨i,u,rfl,e⟩ |⟨y,u,rfl,e⟩
  .exact nomatch e
  .injection e with e1 _
   subst e1;cases v<;>rfl
theorem zN(prog:waC)(w:World)(i:Int)(t:Tok):(bx prog w).is (.inl i) (.int i t)=true:=Ee i t
theorem zO(prog:waC)(w:World)(x:Str)(t:Tok):(bx prog w).is (.inr x) (.str x t)=true:=Ef x t
set_option genInjectivity true in
inductive V where
 |non |bl (b:Bool) |int (i:Int) |str (x:Str) |byt (b:Array UInt8) |flt (b:UInt64) |ref (a:Addr) |ty (n:String)
 deriving DecidableEq
def RelV:V->Value->Prop
 |.non,u=>u=wbF
 |.bl b,u=>u=wfx b
 |.int i,u=>∃t,u=wg3 i t
 |.str x,u=>∃t,u=wg4 x t
 |.byt b,u=>∃t,u=Value.bytes b t
 |.flt b,u=>∃t,u=whD b t
 |.ref a,u=>u=wam a
 |.ty n,u=>u=weJ n
abbrev Vals:List V->List Value->Prop:=Paired RelV
theorem Vals.length{xs:List V}{us:List Value}(r:Vals xs us):xs.length=us.length:=wgW r
theorem Vals.get:∀{xs:List V} {us:List Value} {i:Nat} {x:V},Vals xs us->xs[i]?=some x->∃u,us[i]?=some u/\RelV x u
 |_,_,_,_,.nil,e=>by simp at e
 |_,_,0,_,.cons r _,e=>by simp at e;subst e;exact{_,rfl,r}
 |_,_,i+1,x,.cons _ t,e=>by
  obtain⟨u,a,b⟩:=Vals.get (i:=i) (x:=x) t (by simpa using e);exact{u,by simpa using a,b}
theorem Vals.set(r:RelV x u):∀{xs:List V} {us:List Value} (i:Nat),Vals xs us->Vals (xs.set i x) (us.set i u)
 |_,_,_,.nil=>.nil
 |_,_,0,.cons _ t=>.cons r t
 |_,_,i+1,.cons q t=>.cons q (Vals.set r i t)
theorem Vals.append:∀{xs ys:List V} {us ws:List Value},Vals xs us->Vals ys ws->Vals (xs++ys) (us++ws)
 |_,_,_,_,.nil,s=>s
 |_,_,_,_,.cons r t,s=>.cons r (Vals.append t s)
theorem Vals.take:∀{xs:List V} {us:List Value} (n:Nat),Vals xs us->Vals (xs.take n) (us.take n)
 |_,_,0,_=>.nil
 |_,_,_+1,.nil=>.nil
 |_,_,n+1,.cons r t=>.cons r (Vals.take n t)
theorem Vals.drop:∀{xs:List V} {us:List Value} (n:Nat),Vals xs us->Vals (xs.drop n) (us.drop n)
 |_,_,0,r=>r
 |_,_,_+1,.nil=>.nil
 |_,_,n+1,.cons _ t=>Vals.drop n t
def iS:Option V->Option Value->Prop
 |some v,some u=>RelV v u
 |none,none=>True
 |_,_=>False
def KV{κ:Type}:List (κ×V)->List (κ×Value)->Prop:=Paired λ(p:κ×V) (q:κ×Value)=>p.1=q.1/\RelV p.2 q.2
noncomputable def kV:Key->V
 |.inl i=>.int i
 |.inr x=>.str x
set_option genInjectivity true in
inductive HO where
 |lst (xs:List V)
 |tup (xs:List V)
 |dK (kvs:List (Key×V)) |dT (kvs:List (List Key×V))
 |set (S:Int->Bool) (n:Nat)
 |ins (C dx:Addr) (fs:List (Str×V))
 |own (x:Addr)
 |xd (fs:List (Str×V))
 |met (f x:Addr)
 |rng (lo hi:Int)
 |frz (o:Obj) (u:HO)
 |tbl (ps:Array Value)
 |ext (φ:Heap->Prop)
noncomputable abbrev Hp:=Addr->Option HO
noncomputable def upd(H:Hp)(a:Addr)(o:HO):Hp:=λb=>if b=a then some o else H b
theorem a7:upd H a o a=some o:=by unfold upd;rw[if_pos rfl]
theorem af(h:b≠a):upd H a o b=H b:=by unfold upd;rw[if_neg h]
theorem Di:upd (upd H a o) a u=upd H a u:=by
 funext b;unfold upd;split<;>rfl
theorem P7{H:Hp}{a b:Addr}{o u:HO}(h:H a=some o)(h':H b=some u)(d:o≠u):a≠b:=by grind [waf]
theorem ag{H:Hp}{a b:Addr}{o:HO}(h:H a=some o)(h':H b=none):a≠b:=by
 grind
def Rd(H:Hp)(a:Addr)(u:HO):Prop:=H a=some u\/∃o,H a=some (.frz o u)
def P8:Option HO->Prop
 |some (.lst _)=>True
 |some (.dK _)=>True
 |some (.dT _)=>True
 |some (.set _ _)=>True
 |some (.ins _ _ _)=>True
 |some (.ext _)=>True
 |_=>False
structure Un(fs ex:List Addr)(H H':Hp)(h h':Heap):Prop where
 keep:∀b o,h.get? b=some o->H b=none->b∉fs->b∉ex->h'.get? b=some o
 slot:∀b o,h.get? b=some o->H b=none->b∈fs->b∉ex->∃sl,h'.get? b=some {o with slots:=sl}
 free:∀b o,h.get? b=some o->H b=none->b∉ex->H' b=none
 there:∀b o,h.get? b=some o->b∉ex->∃o',h'.get? b=some o'
 uf:∀b xs,H b=some (.tup xs)->H' b=some (.tup xs)
 tF:∀b o u,H b=some (.frz o u)->H' b=some (.frz o u)
 ug:∀b ps,H b=some (.tbl ps)->∃more,H' b=some (.tbl (ps++more))
noncomputable def SR(h:Heap)(H:Hp):List Addr:=(waD h.objs.size).filter λa=>(H a).isSome
noncomputable def yy(h:Heap)(H:Hp):Heap:=PySem.W.hideAll h (SR h H)
theorem Eg(h:Heap)(H:Hp):(yy h H).objs.size=h.objs.size:=PySem.W.hideAll_size _ _
theorem Gg(e:h.get? b=some o)(n:H b=none):(yy h H).get? b=some o:=
 PySem.W.hideAll_get _ e λa=>by
  have q:(H b).isSome=true:=(wau.mp a).2;rw[n]at q;simp at q
theorem JK(e:(yy h H).get? b=some o):h.get? b=some o/\H b=none:=by
 have a:h.get? b=some o:=PySem.W.of_hideAll (SR h H) e;refine{a,?_}
 cases q:H b with
 |none=>rfl
 |some x=>
  grind [SR,wae,yy,PySem.W.hideAll_none]
noncomputable def JL(g h:Heap)(L:Addr):List (Addr×Obj):=(waD h.objs.size).filterMap λa=>if a=L\/(g.get? a).isSome=true then none else(h.get? a).map λo=>(a,o)
noncomputable def rest(g h:Heap)(L d:Addr):List (Addr×Obj):=(JL g h L).filter λp=>decide (p.1≠d)
structure Mod(K:wa2)(mg:Str->Option Value)(base:Heap):Prop where
 LO:K.In base
 glob:base.Ns wb2 mg
 blt:∃mb,base.Ns builtinsNs mb/\∀x:Str,x≠"__name__"->mb x=waV x
 nolimit:base.NoLimit
structure Cx where
 prog:waC
 w:World
 K:wa2
 mg:Str->Option Value
 base:Heap
 A:Around
 N:List Str
 s₀:Shared
 H₀:Hp
 env:Env
 outer:List Env
 stack:List Env
 ex:List Addr
 fn:Str->Bool
 calm:Bool
 pn:List (Addr×Obj)
 xe:Value->Shared->Prop
noncomputable def rB(l:List Env):List Addr:=l.filterMap (·.frame)
noncomputable abbrev Cx.fs(X:Cx):List Addr:=rB X.outer
def P9(sc:wd3)(x:Str):Prop:=sc.names.lookup x=some .local\/sc.names.lookup x=some .cell\/sc.names.lookup x=some .free
def Loc(sc:wd3)(x:Str):Prop:=sc.names.lookup x=some .local\/sc.names.lookup x=some .cell
def Look(env:Env)(h:Heap)(m:Str->Option Value)(x:Str)(u:Value):Prop:=
 (env.kindOf x=some .local/\m x=some u)\/((env.kindOf x=some .cell\/env.kindOf x=some .free)/\∃c,env.cells.lookup x=some c/\h.IsCell c (some u))
structure Cx.Ok(X:Cx):Prop where
 mod:Mod X.K X.mg X.base
 kind:X.env.scope.kind=.function
 glob:X.env.globals=wb2
 blt:X.env.builtins=builtinsNs
 above:X.s₀.heap.objs.size<=X.env.locals
 inj:∀x y c,X.env.cells.lookup x=some c->X.env.cells.lookup y=some c->x=y
 has:∀x,(X.env.kindOf x=some .cell\/X.env.kindOf x=some .free)->∃c,X.env.cells.lookup x=some c
 MJ:∀x c,X.fn x=true->X.env.cells.lookup x=some c->X.s₀.heap.objs.size<=c
 hd:X.calm=true->X.A.handled=none
 frames:X.A.frames=some X.stack
 OA:X.stack=X.outer\/(X.stack=X.env::X.outer/\X.env.frame=some X.env.locals)
 RJ:∀b∈X.ex,b≠X.env.locals/\∀x c,X.env.cells.lookup x=some c->c≠b
 bs:∀b o,X.base.get? b=some o->X.s₀.heap.get? b=some o/\X.H₀ b=none
 Gh:X.base.objs.size<=X.s₀.heap.objs.size
 Bl:∀b o,X.base.get? b=some o->b∉X.ex
 Eh:∀b∈X.ex,b∉X.fs
 oK:X.s₀.heap.FunFrames X.base X.outer
 JM:∀b∈X.fs,X.H₀ b=none
theorem zP{N:List Str}(g:N.Nodup){i j:Nat}{x:Str}(a:N[i]?=some x)(b:N[j]?=some x):i=j:=by
 obtain⟨e,c⟩:=wa6.mp a;obtain⟨f,d⟩:=wa6.mp b;exact(wcm g).mp (c.trans d.symm)
noncomputable abbrev XK:=Value->Option Addr->Hp->Prop
noncomputable abbrev St:=List (Option V)
noncomputable abbrev VK:=V->Hp->Prop
noncomputable abbrev TE:=St->Hp->VK->Prop
noncomputable abbrev TT:=St->Hp->(Bool->Hp->Prop)->Prop
noncomputable abbrev TA:=St->Hp->(List V->Hp->Prop)->Prop
structure Bx(p:Prop):Prop where
 go:p
instance {p:Prop}:CoeFun (Bx p) λ_=>p:=⟨Bx.go⟩
theorem bN{α:Type}{t:Sem α}{Q g:α->Shared->Prop}{M:Model}{A:Around}{E:Value->Shared->Prop}{s:Shared}(h:wpAny M A t Q E s)(j:∀a s,Q a s->g a s):wpAny M A t g E s:=wb8 h j λ_ _ x=>x
inductive JN(i:Nat)(σ:St)(H:Hp)(Q:VK):Prop
 |mk (v) (_:σ[i]?=some (some v)) (_:Q v H)
def tC(v:V):TE:=λ_ H Q=>Q v H
inductive VD(x:V)(H:Hp)(Q:Bool->Hp->Prop):Prop
 |mk (c) (_:x=.bl c) (_:Q c H)
def tB(t:TE):TT:=λσ H Q=>t σ H λx H1=>VD x H1 Q
def SU(t u:TT):TT:=λσ H Q=>t σ H λc H1=>if c=true then u σ H1 Q else Q false H1
def Y4(t u:TT):TT:=λσ H Q=>t σ H λc H1=>if c=true then Q true H1 else u σ H1 Q
def SV(t:TT):TT:=λσ H Q=>t σ H λc H1=>Q (!c) H1
def aH(K:wa2)(H:Hp)(a:Addr)(xs:List V):Prop:=
 Rd H a (.lst xs) \/
  ∃(o:Obj) (its:Array Value) (n:Nat),K.lookup a=some o/\o.cls=.type "list"/\o.dict=none/\o.data=.seq its n/\its.size<=sizeLine/\Vals xs its.toList
def g8(K:wa2)(H:Hp)(a:Addr)(xs:List V):Prop:=
 Rd H a (.tup xs) \/
  ∃(o:Obj) (its:Array Value) (n:Nat),K.lookup a=some o/\o.cls=.type "tuple"/\o.data=.seq its n/\its.size<=sizeLine/\Vals xs its.toList
noncomputable def SW:Value->Option V
 |.none=>some .non
 |.bool b=>some (.bl b)
 |.int i _=>some (.int i)
 |.str x _=>some (.str x)
 |.bytes b _=>some (.byt b)
 |.float b _=>some (.flt b)
 |.ref a=>some (.ref a)
 |.type n=>some (.ty n)
 |_=>none
theorem RelV.abs{x:V}{u:Value}(r:RelV x u):SW u=some x:=by
 cases x with
 |non=>cases r;rfl
 |bl _=>cases r;rfl
 |int _=>obtain⟨t,rfl⟩:=r;rfl
 |str _=>obtain⟨t,rfl⟩:=r;rfl
 |byt _=>obtain⟨t,rfl⟩:=r;rfl
 |flt _=>obtain⟨t,rfl⟩:=r;rfl
 |ref _=>cases r;rfl
 |ty _=>cases r;rfl
theorem RelV.inj{x y:V}{u:Value}(r:RelV x u)(q:RelV y u):x=y:=waf (r.abs.symm.trans q.abs)
theorem Vals.inj:∀{xs ys:List V} {us:List Value},Vals xs us->Vals ys us->xs=ys
 |_,_,_,.nil,.nil=>rfl
 |_,_,_,.cons r t,.cons a b=>by rw[r.inj a,Vals.inj t b]
noncomputable abbrev Cx.o1(X:Cx)(E:Value->Shared->Prop):Cx:={X with xe:=E}
noncomputable abbrev Cx.LQ(X:Cx):Cx:=X.o1 λ_ _=>False
noncomputable abbrev TG:=V->St->Hp->(St->Hp->Prop)->Prop
noncomputable abbrev RK:=List V->St->Hp->(St->Hp->Prop)->Prop
noncomputable abbrev MK:=V->V->V->Hp->(Hp->Prop)->Prop
noncomputable abbrev Pa:=V->V->Hp->VK->Prop
def cK(i:Nat):TG:=λv σ H Q=>Q (σ.set i (some v)) H
inductive Gi(vs:List V)(σ:St)(H:Hp)(Q:St->Hp->Prop):Prop
 |mk (_:vs=[]) (_:Q σ H)
inductive lD(t:TG)(u:RK)(vs:List V)(σ:St)(H:Hp)(Q:St->Hp->Prop):Prop
 |mk (v r) (_:vs=v::r) (_:t v σ H λσ' H'=>u r σ' H' Q)
inductive Gj(K:wa2)(n:Nat)(t:RK)(v:V)(σ:St)(H:Hp)(Q:St->Hp->Prop):Prop
 |mk (a xs) (_:v=.ref a) (_:g8 K H a xs) (_:xs.length=n) (_:t xs σ H Q)
def SX(to ti:TE)(t:MK):TG:=λv σ H Q=>to σ H λo H1=>ti σ H1 λi H2=>t o i v H2 λH3=>Q σ H3
noncomputable def Y5(f:Int->Int->Int):Pa:=λx y H Q=>∃i j,x=.int i/\y=.int j/\Q (.int (f i j)) H
structure It where
 go:Nat->Hp->Prop
 tS:Nat->Hp->V->Hp->Prop
 stop:Nat->Hp->Prop
def tG(X:Cx)(pins:List (Addr×Obj))(H:Hp)(b:Addr):Prop:=
 H b=none/\b≠X.env.locals/\b∉X.fs/\(b∈X.ex\/X.s₀.heap.objs.size<=b)/\(∀x c,X.env.cells.lookup x=some c->c≠b)/\∀p∈X.pn++pins,p.1≠b
noncomputable abbrev TI:=St->Hp->(It->Hp->Prop)->Prop
theorem xi{E:Value->Shared->Prop}{Q:Unit->Shared->Prop}(j:s.heap.get? it=some o)(hc:o.cls=.type n)(hd:o.data=.fields vs)
 (hn:["enumerate","zip","dict_itemiterator","dict_reverseitemiterator","odict_iterator","itertools.zip_longest","itertools.pairwise"].contains n=false) (g:Q .unit s):wpAny M A (weK l (.ref it) u) Q E s:=by
 unfold weK
 cases l<;>first
  |exact waz g
  |(cases u<;>first
     |exact waz g
     |(refine wa7 (wpAny_load j ?_)
       rw[hc,hd];show wpAny M A (if (["enumerate","zip","dict_itemiterator","dict_reverseitemiterator","odict_iterator","itertools.zip_longest","itertools.pairwise"].contains n&&vs[0]?==some (rawInt _))=true then _ else _) Q E s;rw[if_neg (by grind)]
       exact waz g))
noncomputable def OB(K:wa2)(a:Addr):It:=
 {λi H=>∃xs x,aH K H a xs/\xs[i]?=some x,λi H x H'=>H'=H/\∀xs,aH K H a xs->xs[i]?=some x,λi H=>∃xs,aH K H a xs/\xs.length<=i}
noncomputable def LR(lo:Int)(n:Nat):It:={λi _=>i<n,λi H x H'=>H'=H/\x=.int (lo+i),λi _=>n<=i}
def Pb(K:wa2)(tl:TE):TI:=λσ H R=>tl σ H λx H1=>∃a,x=.ref a/\(∃xs,aH K H1 a xs)/\R (OB K a) H1
def Pg(ta:TA):TI:=λσ H R=>ta σ H λvs H1=>∃j:Int,vs=[.int j]/\-(2^62)<=j/\j<2^62/\R (LR 0 j.toNat) H1
def Ph(ta:TA):TI:=λσ H R=>ta σ H λvs H1=>∃i j:Int,vs=[.int i,.int j]/\(-(2^62)<=i/\i<2^62/\-(2^62)<=j/\j<2^62)/\R (LR i (j-i).toNat) H1
noncomputable def uh(fp:List Addr)(h:Heap):List (Addr×Obj):=fp.filterMap λb=>(h.get? b).map λo=>(b,o)
theorem jA(g:b∈j)(e:h.get? b=some o):(b,o)∈uh j h:=wdW.mpr {b,g,by rw[e];rfl}
theorem Ei(g:p∈uh j h):p.1∈j/\h.get? p.1=some p.2:=by
 obtain⟨b,a,e⟩:=wdW.mp g
 cases q:h.get? b with
 |none=>grind
 |some o=>
  grind
noncomputable abbrev R2:=V->V->Hp->VK->Prop
def Pj(r:R2)(ta tb:TE):TE:=λσ H Q=>ta σ H λx H1=>tb σ H1 λy H2=>r x y H2 Q
def Y6(r:V->Hp->VK->Prop)(ta:TE):TE:=λσ H Q=>ta σ H λx H1=>r x H1 Q
inductive rI(C:Int->Int->Prop)(g:Int->Int->V)(x y:V)(H:Hp)(Q:VK):Prop
 |mk (i j) (_:x=.int i) (_:y=.int j) (_:C i j) (_:Q (g i j) H)
inductive LU(g:Int->Int->V)(x y:V)(H:Hp)(Q:VK):Prop
 |mk (i j) (_:x=.int i) (_:y=.int j) (_:Q (g i j) H)
inductive rU(g:Int->V)(x:V)(H:Hp)(Q:VK):Prop
 |mk (i) (_:x=.int i) (_:Q (g i) H)
def SY(i j:Int):Prop:=0<j/\j<1073741824
def JO(i j:Int):Prop:=(-(2^64)<i/\i<2^64)\/(-(2^64)<j/\j<2^64)
noncomputable def Pk:V->V->Bool
 |.non,.non=>true |.non,.int _=>true |.int _,.non=>true |.non,.bl _=>true |.bl _,.non=>true |.non,.str _=>true |.str _,.non=>true
 |.int _,.int _=>true |.bl _,.bl _=>true |.str _,.str _=>true |.byt _,.byt _=>true
 |.int _,.str _=>true |.str _,.int _=>true |.bl _,.str _=>true |.str _,.bl _=>true
 |_,_=>false
inductive Y7(x y:V)(H:Hp)(Q:VK):Prop
 |mk (_:Pk x y=true) (_:Q (.bl (decide (x=y))) H)
inductive Y8(x y:V)(H:Hp)(Q:VK):Prop
 |mk (_:Pk x y=true) (_:Q (.bl (!decide (x=y))) H)
theorem Dj:decide (V.int i=V.int j)=(i==j):=by
 rw[wdf];simp
theorem Gk:decide (V.bl i=V.bl j)=(i==j):=by
 rw[wdf];simp
theorem Dk:decide (V.str i=V.str j)=(i==j):=by
 rw[wdf];simp
theorem Dl:decide (V.byt i=V.byt j)=(i.toList==j.toList):=by
 rw[wdf];cases i;cases j;simp
def LV(t:TE):TT:=λσ H Q=>t σ H λx H'=>VD x H' Q
theorem o6:(sizeLine:Nat)<2^63:=by rw[wcg];decide
theorem vals1(r:Vals [x] us):∃u,us=[u]/\RelV x u:=by
 cases r with
 |cons a b=>cases b;exact{_,rfl,a}
theorem vals2(r:Vals [x,y] us):∃u g,us=[u,g]/\RelV x u/\RelV y g:=by
 cases r with
 |cons a b=>
  cases b with
  |cons c d=>cases d;exact{_,_,rfl,a,c}
structure Bm(h:Heap)(x dx C:Addr)(mA:Str->Option Value):Prop where
 obj:h.get? x=some (wcs C dx)
 ns:h.Ns1 dx mA
 ne:dx≠x
noncomputable def cL(f:Str)(v:V):List (Str×V)->List (Str×V)
 |[]=>[(f,v)]
 |(g,x)::r=>if g=f then(g,v)::r else(g,x)::cL f v r
theorem aF(f g:Str)(v:V):∀fs:List (Str×V),(cL f v fs).lookup g=if g=f then some v else fs.lookup g
 |[]=>by
  show wgd g [(f,v)]=_
  by_cases h:g=f
  .grind
  .grind
 |(k,x)::r=>by
  have a:=aF f g v r;rw[show cL f v ((k,x)::r)=(if k=f then(k,v)::r else(k,x)::cL f v r) from rfl]
  by_cases hk:k=f
  .grind
  .grind
theorem qE(f:Str)(v:V):∀fs:List (Str×V),f∈(cL f v fs).map (·.1)/\∀g,g∈fs.map (·.1)->g∈(cL f v fs).map (·.1)
 |[]=>{by simp[cL],λg h=>by simp at h}
 |(k,x)::r=>by
  obtain⟨a,b⟩:=qE f v r;rw[show cL f v ((k,x)::r)=(if k=f then(k,v)::r else(k,x)::cL f v r) from rfl]
  by_cases hk:k=f
  .grind
  .grind
theorem rD(f:Str)(v:V):∀fs:List (Str×V),(cL f v fs).length<=fs.length+1
 |[]=>by simp[cL]
 |(k,x)::r=>by
  have a:=rD f v r;rw[show cL f v ((k,x)::r)=(if k=f then(k,v)::r else(k,x)::cL f v r) from rfl]
  by_cases hk:k=f
  .grind
  .grind
theorem iS.yz(r:iS (some v) o):∃u,o=some u/\RelV v u:=by
 cases o with
 |none=>exact(show False from r).elim
 |some u=>exact⟨u,rfl,r⟩
theorem iS.none_of(r:iS none o):o=none:=by grind [iS,cases False]
theorem Ej(r:RelV v u):whK u=true:=by
 cases v with
 |non=>cases(show u=wbF from r);rfl
 |bl b=>cases(show u=wfx b from r);rfl
 |int i=>obtain⟨t,e⟩:=(show ∃t,u=wg3 i t from r);cases e;rfl
 |str x=>obtain⟨t,e⟩:=(show ∃t,u=wg4 x t from r);cases e;rfl
 |byt b=>obtain⟨t,e⟩:=(show ∃t,u=Value.bytes b t from r);cases e;rfl
 |flt b=>obtain⟨t,e⟩:=(show ∃t,u=whD b t from r);cases e;rfl
 |ref a=>cases(show u=wam a from r);rfl
 |ty n=>cases(show u=weJ n from r);rfl
structure zQ(K:wa2)(C:Addr):Prop where
 pg:wet K C Str.empty=true
 hd:wfk K C=true
 po:whq K C=true
 sa:wbj K (.ref C) "__setattr__"=some (some (.builtin "object.__setattr__"))
theorem zQ.get{K:wa2}{C:Addr}(c:zQ K C)(f:Str):wet K C f=true:=c.pg
def bQ(K:wa2)(C:Addr)(f:Str):Prop:=wbj K (.ref C) f=some none
theorem bQ.Pm{K:wa2}{C:Addr}{f:Str}(n:bQ K C f):wg5 K C f=some none:=by
 unfold wg5;rw[show wbj K (.ref C) f=some none from n];rfl
inductive Y9(K:wa2)(f:Str)(x:V)(H:Hp)(Q:VK):Prop
 |mk (a C dx fs v) (_:x=.ref a) (_:H a=some (.ins C dx fs)) (_:zQ K C) (_:bQ K C f) (_:fs.lookup f=some v) (_:Q v H)
def Pn(K:wa2)(ta:TE)(f:Str):TE:=λσ H Q=>ta σ H λx H1=>Y9 K f x H1 Q
theorem Bn{A:Around}{C:Addr}{us:List Value}{g:List (Str×Value)}:(A.under (.builtin "type.__call__" {.ref C::us,g})).depth=A.depth+1:=by
 first |rfl |simp[wha,Code.weight,Code.isCreation,Code.isGuard,Code.isCaller,Code.frames,whb,guardIds]
theorem Bo{A:Around}{C:Addr}{us:List Value}{g:List (Str×Value)}:(A.under (.builtin "type.__call__" {.ref C::us,g})).units=A.units+1:=by
 first |rfl |simp[wha,Code.cUnits,Code.frames,whb]
def yA:TA:=λ_ H Q=>Q [] H
def rE(ta:TE)(tr:TA):TA:=λσ H Q=>ta σ H λx H1=>tr σ H1 λxs H2=>Q (x::xs) H2
inductive Yb(xs:List V)(H:Hp)(Q:VK):Prop
 |mk (_:xs.length<=sizeLine) (_:∀p,H p=none->Q (.ref p) (upd H p (.tup xs)))
inductive Yc(xs:List V)(H:Hp)(Q:VK):Prop
 |mk (_:xs.length<=sizeLine) (_:∀p,H p=none->Q (.ref p) (upd H p (.lst xs)))
noncomputable abbrev Sp:=List V->Hp->VK->XK->Prop
noncomputable abbrev G7:=List Env->Hp->Shared->XK->Value->Shared->Prop
def LW(sp:Sp)(wq:List V)(E:XK)(t:TA):TE:=λσ H Q=>t σ H λvs H1=>sp (vs++wq) H1 Q E
inductive Yd(C:Addr)(m:Str)(x:V)(H:Hp)(k:Prop):Prop
 |mk (a dx fs) (_:x=.ref a) (_:H a=some (.ins C dx fs)) (_:fs.lookup m=none) (_:k)
def Dm(C:Addr)(m:Str)(sp:Sp)(wq:List V)(E:XK)(ta:TE)(t:TA):TE:=λσ H Q=>ta σ H λx H1=>Yd C m x H1 (t σ H1 λvs H2=>sp (x::(vs++wq)) H2 Q E)
def Pp(C:Addr)(sp:Sp)(wq:List V)(E:XK)(t:TA):TE:=λσ H Q=>t σ H λvs H1=>∀x dx,H1 x=none->H1 dx=none->dx≠x ->
 sp (.ref x::(vs++wq)) (upd (upd H1 dx (.own x)) x (.ins C dx [])) (λv H2=>v=.non/\Q (.ref x) H2) E
def Binds(K:wa2)(fd:wbw)(ps:List Str)(ds:List Value):Prop:=
 ∀(s:Shared) (us:List Value),K.In s.heap->(us++ds).length=ps.length->BindsTo s fd {us,[]} (ps.zip (us++ds))
theorem Binds.all{K:wa2}{fd:wbw}{ps:List Str}(h:∀us:List Value,us.length=ps.length->bindArgs fd {us,[]}=pure (ps.zip us)):Binds K fd ps []:=λs us _ hl=>by
 rw[waY]at hl ⊢;exact .of_eq (h us hl)
structure tT(N P:List Str)(sc:wd3):Prop where
 kind:sc.kind=.function
 co:sc.isCoroutine=false
 gen:sc.isGenerator=false
 nd:N.Nodup
 pre:N.take P.length=P
 par:∀x∈P,sc.names.lookup x=some .local\/sc.names.lookup x=some .cell
 ML:∀y∈sc.names,y.2≠.free
theorem xj{kindOf:Str->Option weu}:∀{binds:List (Str×Value)} {m:Str->Option Value},(∀v,(x,v)∉binds)->bindL kindOf binds m x=m x
 |[],_,_=>rfl
 |(n,v)::r,m,h=>by
  unfold bindL;rw[xj λw hw=>h w (wac _ hw)];split
  .grind
  .rfl
theorem xk{kindOf:Str->Option weu}:∀{binds:List (Str×Value)} {m:Str->Option Value},(∀v,(x,v)∉binds)->bindC kindOf binds m x=m x
 |[],_,_=>rfl
 |(n,v)::r,m,h=>by
  unfold bindC;rw[xk λw hw=>h w (wac _ hw)];split
  .rfl
  .grind
theorem xm{kindOf:Str->Option weu}:∀{P:List Str} {vs:List Value} {i:Nat} {m:Str->Option Value},P.Nodup->P[i]?=some x->vs[i]?=some v->kindOf x=some .local ->
 bindL kindOf (P.zip vs) m x=some v
 |[],_,_,_,_,h,_,_=>by simp at h
 |_::_,[],_,_,_,_,h,_=>by simp at h
 |p::P,w::vs,0,m,nd,a,b,hk=>by
  simp at a b;subst a;subst b;show bindL kindOf ((p,w)::P.zip vs) m p=_;unfold bindL;rw[xj λv c=>(wbI.mp nd).1 (wg6 c).1,if_pos hk];simp
 |p::P,w::vs,i+1,m,nd,a,b,hk=>by
  show bindL kindOf ((p,w)::P.zip vs) m x=_;unfold bindL;exact xm (i:=i) (wbI.mp nd).2 (by simpa using a) (by simpa using b) hk
theorem xn{kindOf:Str->Option weu}:∀{P:List Str} {vs:List Value} {i:Nat} {m:Str->Option Value},P.Nodup->P[i]?=some x->vs[i]?=some v->kindOf x≠some .local ->
 bindC kindOf (P.zip vs) m x=some v
 |[],_,_,_,_,h,_,_=>by simp at h
 |_::_,[],_,_,_,_,h,_=>by simp at h
 |p::P,w::vs,0,m,nd,a,b,hk=>by
  simp at a b;subst a;subst b;show bindC kindOf ((p,w)::P.zip vs) m p=_;unfold bindC;rw[xk λv c=>(wbI.mp nd).1 (wg6 c).1,if_neg hk];simp
 |p::P,w::vs,i+1,m,nd,a,b,hk=>by
  show bindC kindOf ((p,w)::P.zip vs) m x=_;unfold bindC;exact xn (i:=i) (wbI.mp nd).2 (by grind) (by grind) hk
noncomputable def start(N:List Str)(vs:List V):St:=vs.map some++waj (N.length-vs.length) none
theorem zR{g:wd3}{n:Nat}{x:Str}(h:g.names.lookup x=some .cell):∃c,(cellsFrom n g.names []).lookup x=some c:=by
 have q:=wge g.names n [] (.inl h);exact wfE.mp q
noncomputable abbrev TO:=St->Hp->(Option Int->Hp->Prop)->Prop
noncomputable def JP:TO:=λ_ H Q=>Q none H
inductive Ye(x:V)(H:Hp)(Q:Option Int->Hp->Prop):Prop
 |mk (i) (_:x=.int i) (_:Q (some i) H)
noncomputable def Pq(t:TE):TO:=λσ H Q=>t σ H λx H1=>Ye x H1 Q
noncomputable def Ek(n:Nat)(i:Int):Option Nat:=if 0<=i then(if i<n then some i.toNat else none) else if -(n:Int)<=i then some (i+n).toNat else none
noncomputable def ui{α:Type}(xs:List α)(i:Int):Option α:=(Ek xs.length i).bind λj=>xs[j]?
theorem Dn(h:Ek n i=some j):seqIndex? i n=some j/\j<n/\-(n:Int)<=i/\i<n:=by
 unfold Ek at h
 by_cases h0:0<=i
 .rw[if_pos h0]at h
  by_cases a:i<n
  .rw[if_pos a]at h;have e:i.toNat=j:=waf h;exact{by rw[whE h0 a,e],by lia,by lia,a}
  .rw[if_neg a]at h;cases h
 .rw[if_neg h0]at h
  by_cases a:-(n:Int)<=i
  .rw[if_pos a]at h;have e:(i+n).toNat=j:=waf h;exact{by rw[whc (by lia) a,e],by lia,a,by lia}
  .rw[if_neg a]at h;cases h
theorem yB{α:Type}{xs:List α}{i:Int}{v:α}(h:ui xs i=some v):∃j,seqIndex? i xs.length=some j/\xs[j]?=some v/\j<xs.length/\-(xs.length:Int)<=i/\i<xs.length:=by
 unfold ui at h
 cases e:Ek xs.length i with
 |none=>rw[e]at h;cases h
 |some j=>
  rw[e]at h;obtain⟨a,b,c,d⟩:=Dn e;exact⟨j,a,h,b,c,d⟩
theorem bz{α:Type}{xs:List α}{j:Nat}{v:α}(h:xs[j]?=some v):ui xs (j:Int)=some v:=by
 have a:j<xs.length:=(wa6.mp h).1
 have e:Ek xs.length (j:Int)=some j:=by
  unfold Ek;rw[if_pos (by lia),if_pos (by lia)];simp
 unfold ui;rw[e];exact h
theorem Gm{α:Type}(xs:List α)(v:α):ui (xs++[v]) (-1)=some v:=by
 have hl:(xs++[v]).length=xs.length+1:=by simp
 have e:Ek (xs++[v]).length (-1)=some xs.length:=by
  unfold Ek;rw[hl,if_neg ⋯,if_pos (by lia)];congr 1
  lia
 unfold ui;rw[e];show (xs++[v])[xs.length]?=some v;simp
def JQ(b:Expr):Prop:=∀o i,wgf b false o i=operate [o,i] (getItem o i)
inductive Pt(K:wa2)(x y:V)(H:Hp)(Q:VK):Prop
 |mk (p xs i v) (_:x=.ref p) (_:y=.int i) (_:aH K H p xs) (_:ui xs i=some v) (_:Q v H)
inductive Pu(K:wa2)(x y:V)(H:Hp)(Q:VK):Prop
 |mk (p xs i v) (_:x=.ref p) (_:y=.int i) (_:g8 K H p xs) (_:ui xs i=some v) (_:Q v H)
inductive SZ(x y:V)(H:Hp)(Q:VK):Prop
 |mk (z i c) (_:x=.str z) (_:y=.int i) (_:z.length<=sizeLine) (_:ui z.cps.toList i=some c) (_:Q (.str ⟨#[c]⟩) H)
noncomputable def dQ:V->Bool
 |.non=>true
 |.bl _=>true
 |.int _=>true
 |.str _=>true
 |_=>false
theorem Vals.one:∀{x:V} {us:List Value},Vals [x] us->∃u,us=[u]/\RelV x u
 |_,_,.cons r .nil=>{_,rfl,r}
theorem Vals.zero:∀{us:List Value},Vals [] us->us=[]
 |_,.nil=>rfl
theorem Vals.dropLast(h:Vals xs us):Vals xs.dropLast us.dropLast:=by
 induction h with
 |nil=>exact .nil
 |cons r t a=>
  cases t with
  |nil=>exact .nil
  |cons q b=>exact .cons r a
theorem Vals.rep(h:Vals xs us):∀k:Nat,Vals (waj k xs).flatten (waj k us).flatten
 |0=>.nil
 |k+1=>by
  rw[wcC,wcC,wbV,wbV];exact Vals.append h (Vals.rep h k)
theorem foldl_rep(g:List Value):∀(k:Nat) (j:List Value),
 whY (λl p=>l++p) j.toArray (waj k g.toArray)=(j++(waj k g).flatten).toArray
 |0,j=>by simp
 |k+1,j=>by
  have e:j.toArray++g.toArray=(j++g).toArray:=by simp
  have a:(j++g)++(waj k g).flatten=j++(waj (k+1) g).flatten:=by
   grind
  rw[<-a,<-foldl_rep g k (j++g),<-e,wcC,wdQ]
theorem Gn(h:n<=sizeLine):wdX n=false:=by grind [wdX,decide_eq_false]
theorem JR{α:Type}(xs:List α)(k:Nat):(waj k xs).flatten.length=k*xs.length:=by simp_all [wcC,wbV,wa5,Nat.succ_mul,weL]
theorem rF(r:RelV (kV k) u):(bx P w).is k u=true:=by grind [RelV,kV,bx,zN,zO]
theorem xo:∀{g:List Key} {us:List Value},Vals (g.map kV) us->ItemsAre (bx P w) g us
 |[],_,r=>by rw[wdY]at r;cases r;exact .nil
 |k::g,_,r=>by
  rw[wat]at r
  cases r with
  |cons h t=>exact .cons (rF h) (xo t)
abbrev KT(H:Hp):List (List Key×V)->List (List Key×Addr×Value)->Prop:=Paired λp q=>p.1=q.1/\H q.2.1=some (.tup (p.1.map kV))/\RelV p.2 q.2.2
def Pw(i:Expr):Prop:=∀ov iv,wgf i false ov iv=operate [ov,iv] (getItem ov iv)
theorem JS{prog:waC}{w:World}{A:Around}{E:Value->Shared->Prop}{s:Shared}{env:Env}{value slice:Expr}{pos:Pos}{T id:String}{Q:Value->Shared->Prop}
 (hl:wfy (.type T) "__getitem__"=pure (some (.builtin id))) (hs:Pw slice)
 (h:wpAny (model prog w) A (eval value env) (λo j=>wpAny (model prog w) A (eval slice env) (λi g=>g.TypeIs o T/\wpAny (model prog w) A (getItem o i) Q E g) E j) E s) :
 wpAny (model prog w) A (eval (.Subscript value slice pos) env) Q E s:=by
 refine Subscript_ (wb8 h (λo j c=>wb8 c (λi g a=>?_) λ_ _ x=>x) λ_ _ x=>x);obtain⟨e,a⟩:=a;unfold wgX;refine wa7 ?_;rw[getitemInPython_of_ne e.not_modules];refine wa7 (wpAny_specialOf e hl ?_)
 have fin:wpAny (model prog w) A (wgf slice false o i) (λr b=>wpAny (model prog w) A (letTemporaryGo value o r >>= λ_=>pure r) Q E b) E g:=by
  rw[hs o i];exact wpAny_operating (wb8 a (λr b d=>wa7 (wpAny_letTemporaryGo (waz d))) λ_ _ x=>x)
 first
  |exact waz (wa7 fin)
  |exact wa7 (waz (wa7 fin))
  |exact wa7 fin
def MM:TE:=λ_ H Q=>∀p,H p=none->Q (.ref p) (upd H p (.dK []))
def Bp:List (TE×TE)->St->Hp->(List (V×V)->Hp->Prop)->Prop
 |[],_,H,Q=>Q [] H
 |(tk,tv)::r,σ,H,Q=>tk σ H λx H1=>tv σ H1 λy H2=>Bp r σ H2 λps H3=>Q ((x,y)::ps) H3
abbrev VV:List (V×V)->List (Value×Value)->Prop:=Paired λp q=>RelV p.1 q.1/\RelV p.2 q.2
def T1(H:Hp)(a:Addr):Prop:=(∃kvs,Rd H a (.dK kvs))\/∃kvs,Rd H a (.dT kvs)
theorem xq:∀{vs:List Value} {ns:List Int},IntsAre vs ns->Vals (ns.map V.int) vs
 |_,_,.nil=>.nil
 |_,_,.cons n t h=>.cons ⟨t,rfl⟩ (xq h)
noncomputable abbrev KOf{K:wa2}{h:Heap}(_:K.In h):wa2:=K
noncomputable def dj(s:Stmt):Arguments:=match s with
 |.FunctionDef _ a _ _ _ _ _ _ _ _=>a
 |_=>{posonlyargs:=[],args:=[],vararg:=none,kwonlyargs:=[],kw_defaults:=[],kwarg:=none,defaults:=[]}
noncomputable def c9(s:Stmt):List Stmt:=match s with
 |.FunctionDef _ _ b _ _ _ _ _ _ _=>b
 |_=>[]
noncomputable def aJ(s:Stmt):wd3:=match s with
 |.FunctionDef _ _ _ _ _ _ sc _ _ _=>sc
 |_=>{kind:=.function,names:=[],isGenerator:=false,isCoroutine:=false}
noncomputable abbrev cO:G7:=λ_ _ _ _ _ _=>False
abbrev E0:XK:=λ_ _ _=>False
structure zS(K:wa2)(x qual:Str)(st:Stmt)(f:Addr)(fd:wbw):Prop where
 ex:∃(oc:Value) (od:Option Addr) (kV doc pm:Value) (an:Option Addr) (gx ct:Value) (Go:Array (Option Value)),
  fd=wct x qual (dj st) (c9 st) (aJ st) .none kV doc pm an gx ct/\K.lookup f=some {oc,od,.func fd,Go}/\wec K gx qual=true
 kp:wcX K (.ref f)=true
theorem bg(h:n<=1000):n<sizeLine:=wbg h ⋯
theorem cq{A B:Prop}(h:B):if false=true then A else B:=by
 grind
theorem eB{A B:Prop}(h:A):if true=true then A else B:=by
 grind
theorem o7{c A B:Prop}[Decidable c](g:c->A)(j:¬c->B):if c then A else B:=by
 by_cases h:c
 .rw[if_pos h];exact g h
 .rw[if_neg h];exact j h
def a8(H H':Hp):Prop:=∀b o,H b=some o->H' b=some o
theorem a8.trans(a:a8 H g)(b:a8 g j):a8 H j:=λc o h=>b c o (a c o h)
theorem a8.free(e:a8 H g)(h:g l=Option.none):H l=Option.none:=by
 cases q:H l with
 |none=>rfl
 |some o=>
  rw[e l o q]at h;cases h
theorem a8.seq{K:wa2}{H g:Hp}{a:Addr}{xs:List V}(e:a8 H g)(h:aH K H a xs):aH K g a xs:=by
 rcases h with(h |⟨o,h⟩) |h
 .exact .inl (.inl (e _ _ h))
 .exact .inl (.inr {o,e _ _ h})
 .exact .inr h
theorem a8.upd(h:H a=none):a8 H (upd H a o):=λb u e=>by rw[af (ag e h)];exact e
abbrev LX(nm:String):Prop:=["enumerate","zip","dict_itemiterator","dict_reverseitemiterator","odict_iterator","itertools.zip_longest","itertools.pairwise"].contains nm=false
noncomputable def eO(z:Str):List V:=z.cps.toList.map λc=>V.str {#[c]}
def MN(scope:wd3)(env:Env):Prop:=∀y∈scope.names,y.2=.free->env.kindOf y.1=some .cell\/env.kindOf y.1=some .free
def wx:TT:=λ_ H Q=>Q true H
def Px{α:Type}:Nat->(List α->Prop)->Prop
 |0,P=>P []
 |n+1,P=>∀a,Px n λus=>P (a::us)
noncomputable def pick(σ:St)(ix:List Nat):St:=ix.map λi=>(σ[i]?).join
theorem Bq:∀{us:List Value},Vals (ns.map V.str) us->StrsAre us ns:=by
 induction ns with
 |nil=>intro us r;rw[wdY]at r;cases r;exact .nil
 |cons n ns a=>
  intro us r;rw[wat]at r
  cases r with
  |cons b c=>
   obtain⟨t,e⟩:=b;subst e;exact .cons n t (a c)
theorem xr:∀{vs:List Value} {ns:List Str},StrsAre vs ns->Vals (ns.map V.str) vs
 |_,_,.nil=>.nil
 |_,_,.cons n t h=>.cons ⟨t,rfl⟩ (xr h)
noncomputable def lE(v d:Addr):HO:=.ext λh=>h.IsValuesView v d
theorem yC{b e i:Addr}(h:b∉[e,i]):b≠e/\b≠i:=by simpa using h
theorem MO{e i n:Nat}(h:e<n)(h':i<n):∀b∈[e,i],b<n:=by simp[h,h']
theorem gG:waV "enumerate"=some (.type "enumerate"):=∅
theorem sub_str_set:isSubtype (.type "str") (.type "set")=pure false:=by rw[isSubtype_type];kernel_rfl
theorem sub_str_frozenset:isSubtype (.type "str") (.type "frozenset")=pure false:=by rw[isSubtype_type];kernel_rfl
theorem LY(P:waC)(w:World)(x:Str)(t:Tok):(wbQ P w).is x (.str x t)=true:=by simp[wbQ,wgV]
noncomputable def JT(P:waC)(w:World)(a:Addr)(n:Nat):HO:=.ext λh=>∃S,h.SetOf (wbQ P w) a S n
structure FnAt(K:wa2)(mg:Str->Option Value)(nm:Str)(st:Stmt)(ps:List Str)(f:Addr)(fd:wbw):Prop where
 F:zS K nm nm st f fd
 b:Binds K fd ps []
 g:mg nm=some (.ref f)
theorem Gp{c A B:Prop}[Decidable c](h:¬c)(b:B):if c then A else B:=by
 grind
theorem T3{c A B:Prop}[Decidable c](h:c)(a:A):if c then A else B:=by
 grind
theorem aq(h:n<=1000000):n<=sizeLine:=wal h (by rw[wcg];decide)
theorem fi(ps:List Str):(ps.map V.str).all dQ=true:=by
 rw[wfF];exact waR.mpr λ_ _=>rfl
noncomputable def ck(mv:List (Str×Addr)):List (Key×V):=mv.map λm=>((wak m.1:Key),V.ref m.2)
theorem hO(mv:List (Str×Addr)):((ck mv).map λg=>kV g.1)=(mv.map (·.1)).map V.str:=by
 unfold ck;rw[wah,wah];rfl
theorem tU{R:Str->Prop}:∀{ys:List V},(∀y∈ys,∃t,y=.str t/\R t)->∃ts:List Str,ys=ts.map V.str/\∀t∈ts,R t
 |[],_=>{[],rfl,λ_ h=>nomatch h}
 |y::ys,h=>by
  obtain⟨t,rfl,c⟩:=h y (wag ..);obtain⟨ts,rfl,a⟩:=tU (R:=R) (ys:=ys) λy d=>h y (wac _ d);refine{t::ts,rfl,λu b=>?_};rcases waG.mp b with rfl |b
  .exact c
  .exact a u b
structure Jy(lo:Nat)(H:Hp)(h:Heap)(e C:Addr)(od:Option Addr):Prop where
 ge:lo<=e
 nt:H e=none
 ob:∃vs sl,h.get? e=some {.ref C,od,.fields vs,sl}/\1<vs.size /\
  (vs[1]?=some .none\/∃T oT ts,vs[1]?=some (.ref T)/\lo<=T/\H T=none/\T≠e/\h.get? T=some oT/\oT.data=.fields ts/\ts[3]?=some .none)
noncomputable abbrev tV(C d t:Addr):Obj:={cls:=.ref C,dict:=some d,data:=.fields #[.ref t,.none,.none,.none,.bool false,.none]}
noncomputable def XD(x C d:Addr):HO:=.ext λh=>∃t,h.get? x=some (tV C d t)
theorem MP(h:H x=some o):upd H x o=H:=by grind [upd]
noncomputable def del(H:Hp)(x:Addr):Hp:=λb=>if b=x then none else H b
theorem gy:del H x x=none:=if_pos rfl
theorem hU(h:b≠x):del H x b=H b:=if_neg h
theorem Dp(h:H x=none):del (upd H x o) x=H:=by grind [gy,hU,af]
theorem Br(h:d≠x):del (upd H d o) x=upd (del H x) d o:=by
 funext b
 by_cases e:b=x
 .subst e;rw[gy,af (wbx h),gy]
 .rw[hU e]
  by_cases a:b=d
  .subst a;rw[a7,a7]
  .rw[af a,af a,hU e]
theorem yD:del (upd H x o) x=del H x:=by grind [gy,hU,af]
noncomputable abbrev TJ:=Str->St->Hp->(Str->Hp->Prop)->Prop
noncomputable abbrev Py:=XK->TE
noncomputable abbrev Cx.marked(X:Cx)(e:Addr):Cx:={X with A:=X.A.mark (some (.ref e)),calm:=false}
theorem Gq(v:V):V.bl (decide (v=v))=V.bl true:=by simp
theorem MQ(v:V):V.bl (!decide (v=v))=V.bl false:=by simp
theorem jB:∀{ns:List Int} {g:List Value},Vals (ns.map V.int) g->∃xs:List (Int×Tok),g=xs.map (λp=>wg3 p.1 p.2)/\xs.map (·.1)=ns
 |[],g,r=>by cases r;exact{[],rfl,rfl}
 |n::ns,g,r=>by
  cases r with
  |cons h t=>
   obtain⟨a,rfl⟩:=h;obtain⟨xs,rfl,e⟩:=jB t;exact{(n,a)::xs,rfl,by grind}
theorem Gr{κ:Type}:∀{kvs:List (κ×V)} {vs:List (κ×Value)},KV kvs vs->∀{i:Nat} {p:κ×V},kvs[i]?=some p->∃q,vs[i]?=some q/\p.1=q.1/\RelV p.2 q.2
 |_,_,.nil,i,p,h=>by simp at h
 |_,_,.cons r t,i,p,h=>by
  cases i with
  |zero=>exact{_,rfl,by have:=waf h;subst this;exact r}
  |succ i=>exact Gr t h
noncomputable def Bt(v:V):Bool:=!decide (v=.non)
noncomputable def Yg:Pa:=λx y H Q=>∃i j,x=.int i/\y=.int j/\JO i j/\Q (.int (i*j)) H
noncomputable def iE(q:V×V):List V:=[q.1,q.2]
noncomputable def uj(kvs:List (Key×V)):Bool:=kvs.all λkv=>dQ kv.2
def Pz(i j:Int):Prop:=0<j/\j.natAbs.log2<9000
noncomputable def Bu(lo c:Int)(n:Nat):It:={λi _=>i<n,λi H x H'=>H'=H/\x=.int (lo+(i:Nat)*c),λi _=>n<=i}
theorem xt(a b:Int):wb9 a b (-1)=((a-b).toNat:Nat):=by
 unfold wb9;rw[if_neg ⋯];split
 .rw[show (-(-1):Int)=1 from rfl,Int.ediv_one];lia
 .lia
def PB(ta:TA):TI:=λσ H R=>ta σ H λvs H1=>∃i j:Int,vs=[.int i,.int j,.int (-1)]/\(0<=i/\i<=1000000/\0<=j/\j<=1000000)/\R (Bu i (-1) (i-j).toNat) H1
noncomputable def tW:List Expr->Option (List Int)
 |[]=>some []
 |.Constant (.int i) _ _::es=>(tW es).map (i :: ·)
 |_::_=>none
def LZ:List Int->TA
 |[]=>yA
 |i::is=>rE (tC (.int i)) (LZ is)
noncomputable def MR:V->Bool
 |.non=>true
 |.bl _=>true
 |.int _=>true
 |.str _=>true
 |_=>false
theorem oM(s:a8 H g)(h:Rd H a o):Rd g a o:=by
 rcases h with e |⟨z,e⟩
 .exact .inl (s _ _ e)
 .exact .inr {z,s _ _ e}
theorem a8.JU{K:wa2}{H g:Hp}{a:Addr}{xs:List V}(s:a8 H g)(h:g8 K H a xs):g8 K g a xs:=by
 rcases h with e |e
 .exact .inl (oM s e)
 .exact .inr e
noncomputable def aL(H H':Hp):Hp:=λa=>match H a with
 |none=>H' a
 |some _=>none
theorem bI(H g:Hp):a8 (aL H g) g:=λa o e=>by
 grind [aL]
theorem hV(s:a8 g j):a8 (aL H g) (aL H j):=by grind [a8,aL]
theorem bL(hl:H l=some o)(kp:∀b o,g b=some o->b≠l->j b=some o):a8 (aL H g) (aL H j):=by grind [a8,aL]
theorem bT(h:H a=none)(e:g a=some o):aL H g a=some o:=by
 grind [aL]
noncomputable def fB(H:Hp)(x:Addr):Hp:=λd=>if d=x then none else H d
theorem gg(h:H d=some o)(hd:d≠x):fB H x d=some o:=by
 unfold fB;rw[if_neg hd];exact h
theorem MS(j:H x=some (.ins C g fs))(h:Rd H d o)(l:∀z,o≠.ins C g z)(p:∀a b,HO.frz a b≠.ins C g fs):Rd (fB H x) d o:=by grind [Rd,fB,gg,waf]
theorem yE{K:wa2}{H:Hp}{x C g:Addr}{fs:List (Str×V)}(j:H x=some (.ins C g fs)){d:Addr}{ys:List V}(h:aH K H d ys):aH K (fB H x) d ys:=by
 rcases h with(e |⟨o,e⟩) |e
 .exact .inl (.inl (gg e λz=>by grind))
 .exact .inl (.inr {o,gg e λz=>by grind})
 .exact .inr e
noncomputable def bp{α:Type}(p:Nat->Bool):Nat->List α->List α
 |_,[]=>[]
 |i,x::xs=>if p i then x::bp p (i+1) xs else bp p (i+1) xs
theorem gX(ns:List Int):(ns.map V.int).all dQ=true:=by grind [dQ]
theorem Dq{c:Int}(hc:0<c)(m:Nat):wb9 0 (c*(m:Int)) c=(m:Int):=by
 unfold wb9;rw[if_pos hc]
 cases m with
 |zero=>rw[if_neg (by simp)];rfl
 |succ m=>
  have a:0<c*((m+1:Nat):Int):=wgg hc (by lia);rw[if_pos a,show c*((m+1:Nat):Int)-0-1=(c-1)+c*(m:Int) by rw[wbk,Int.mul_add];lia,wgv _ _ (by lia),wgh (by lia) (by lia)]
  lia
inductive T4(vs:List V)(H:Hp)(R:It->Hp->Prop):Prop
 |mk (c:Int) (m:Nat) (_:vs=[.int 0,.int (c*(m:Int)),.int c]) (_:1<=c) (_:c<=1000) (_:c*(m:Int)<=1000000) (_:m<=1000000) (_:R (Bu 0 c m) H)
def PD(ta:TA):TI:=λσ H R=>ta σ H λvs H1=>T4 vs H1 R
noncomputable def xu(a:Addr):List (Str×V):=[("writer",.ref a)]
noncomputable def Gs(a b:Addr):List (Str×V):=[("writer",.ref a),("pairs",.ref b)]
theorem M0(a:Addr):cL "writer" (.ref a) []=xu a:=rfl
theorem Gu(a b:Addr):cL "pairs" (.ref b) (xu a)=Gs a b:=by
 show (if ("writer":Str)="pairs" then _ else(("writer":Str),V.ref a)::cL "pairs" (.ref b) [])=_;rw[if_neg ∅];rfl
theorem PF{x y:V}{g:List Value}(h:Vals [x,y] g):∃u v,g=[u,v]/\RelV x u/\RelV y v:=by
 cases h with
 |cons a b=>
  cases b with
  |cons c d=>
   cases d;exact{_,_,rfl,a,c}
set_option genInjectivity true in
inductive Lt where
 |fl (v:V)
 |ls (vs:List V)
 |tp (vs:List V)
 deriving DecidableEq
theorem El:waV "zip"=some (.type "zip"):=∅
noncomputable def Gv(P:waC)(w:World)(a:Addr)(n:Nat):HO:=.ext λh=>∃S,h.SetOf (PySem.intKind P w) a S n
theorem JV{c:Int}(hc:0<c)(lo:Int)(m:Nat):wb9 (lo+c*(m:Int)) lo (0-c)=(m:Int):=by
 unfold wb9;rw[if_neg ()]
 cases m with
 |zero=>rw[if_neg (by simp)];rfl
 |succ m=>
  have a:0<c*((m+1:Nat):Int):=wgg hc (by lia);rw[if_pos (),show lo+c*((m+1:Nat):Int)-lo-1=(c-1)+c*(m:Int) by rw[wbk,Int.mul_add];lia,show -(0-c)=c by omega,wgv _ _ (by lia),wgh (by lia) (by lia)]
  lia
inductive T5(vs:List V)(H:Hp)(R:It->Hp->Prop):Prop
 |mk (lo c:Int) (m:Nat) (_:vs=[.int (lo+c*(m:Int)),.int lo,.int (0-c)]) (_:1<=c) (_:c<=1000) (_:0<=lo) (_:lo+c*(m:Int)<=1000000) (_:m<=1000000) (_:R (Bu (lo+c*(m:Int)) (0-c) m) H)
def PH(ta:TA):TI:=λσ H R=>ta σ H λvs H1=>T5 vs H1 R
section
variable{κ:Type}[DecidableEq κ]
noncomputable def bC(kvs:List (κ×V))(k:κ):Option V:=(kvs.find? λkv=>decide (kv.1=k)).map (·.2)
theorem Gw:bC ([]:List (κ×V)) k=none:=rfl
theorem cg{p:κ×V}{r:List (κ×V)}{k:κ}(e:p.1=k):bC (p::r) k=some p.2:=by simp[bC,wdg,e]
theorem cj{p:κ×V}{r:List (κ×V)}{k:κ}(e:¬p.1=k):bC (p::r) k=bC r k:=by simp[bC,wdg,e]
theorem zT(k j:κ)(y:V):∀kvs:List (κ×V),bC (kvs.map λg=>if g.1=k then(g.1,y) else g) j=(bC kvs j).map λx=>if j=k then y else x
 |[]=>rfl
 |p::r=>by
  have a:=zT k j y r;rw[wat]
  by_cases h:p.1=k
  .rw[if_pos h]
   by_cases e:p.1=j
   .rw[cg (p:=(p.1,y)) e,cg e,weM,if_pos (e.symm.trans h)]
   .rw[cj (p:=(p.1,y)) e,cj e,a]
  .rw[if_neg h]
   by_cases e:p.1=j
   .rw[cg (p:=p) e,cg e,weM,if_neg (λz=>h (e.trans z))]
   .rw[cj (p:=p) e,cj e,a]
theorem xx(k j:κ)(y:V):∀kvs:List (κ×V),bC kvs k=none->bC (kvs++[(k,y)]) j=if j=k then some y else bC kvs j
 |[],_=>by
  by_cases e:k=j
  .rw[if_pos e.symm];exact cg (p:=(k,y)) e
  .rw[if_neg (λz=>e z.symm)];exact cj (p:=(k,y)) e
 |p::r,hn=>by
  rw[List.cons_append];have hk:¬p.1=k:=λz=>by rw[cg z]at hn;cases hn
  rw[cj hk]at hn;have a:=xx k j y r hn
  by_cases e:p.1=j
  .rw[cg e,cg e,if_neg (λz=>hk (e.trans z))]
  .rw[cj e,cj e,a]
theorem iS.j0(r:iS o u):o.isSome=u.isSome:=by
 cases o with
 |none=>cases u with
  |none=>rfl
  |some _=>exact(show False from r).elim
 |some _=>cases u with
  |none=>exact(show False from r).elim
  |some _=>rfl
theorem iS.getD(r:iS o u)(rd:RelV d d'):RelV (o.getD d) (u.getD d'):=by
 cases o with
 |none=>cases u with
  |none=>exact rd
  |some _=>exact(show False from r).elim
 |some _=>cases u with
  |none=>exact(show False from r).elim
  |some _=>exact r
theorem KV.val{kvs:List (κ×V)}{vs:List (κ×Value)}(r:KV kvs vs)(k:κ):iS (bC kvs k) (valueAt vs k):=by
 unfold KV at r
 induction r with
 |nil=>exact wbz
 |@cons p q ps a h t f=>
  obtain⟨d,g⟩:=h
  by_cases e:p.1=k
  .have c:q.1=k:=d.symm.trans e;have b:valueAt (q::a) k=some q.2:=by simp[valueAt,wdg,c]
   rw[cg e,b];exact g
  .have c:¬q.1=k:=λz=>e (d.trans z);have b:valueAt (q::a) k=valueAt a k:=by simp[valueAt,wdg,c]
   rw[cj e,b];exact f
theorem KV.repl(r:KV kvs vs)(k:κ)(j:RelV y u) :
 KV (kvs.map λg=>if g.1=k then(g.1,y) else g) (vs.map λg=>if g.1=k then(g.1,u) else g):=by
 unfold KV at r ⊢
 induction r with
 |nil=>exact .nil
 |@cons p q ps d h t b=>
  rw[wat,wat];refine .cons ?_ b;obtain⟨a,c⟩:=h
  by_cases e:p.1=k
  .rw[if_pos e,if_pos (a.symm.trans e)];exact⟨a,j⟩
  .rw[if_neg e,if_neg (λz=>e (a.trans z))];exact⟨a,c⟩
theorem KV.keys{kvs:List (κ×V)}{vs:List (κ×Value)}(r:KV kvs vs):kvs.map (·.1)=vs.map (·.1):=by
 unfold KV at r
 induction r with
 |nil=>rfl
 |cons h t a=>grind
theorem KV.length{kvs:List (κ×V)}{vs:List (κ×Value)}(r:KV kvs vs):kvs.length=vs.length:=wgW r
end
section
variable{t:TA}{t2:TE}
def PL(t:TA):TE:=λσ H Q=>t σ H λxs H1=>Yb xs H1 Q
def PN(t:TA):TE:=λσ H Q=>t σ H λxs H1=>Yc xs H1 Q
theorem KT.val{H:Hp}{kvs:List (List Key×V)}{xs:List (List Key×Addr×Value)}(r:KT H kvs xs)(k:List Key):iS (bC kvs k) ((atKey xs k).map (·.2)):=by
 induction r with
 |nil=>exact wbz
 |@cons p q ps a h t f=>
  obtain⟨d,_,g⟩:=h
  by_cases e:p.1=k
  .have c:q.1=k:=d.symm.trans e;have b:atKey (q::a) k=some q.2:=by simp[atKey,wdg,c]
   rw[cg e,b];exact g
  .have c:¬q.1=k:=λz=>e (d.trans z);have b:atKey (q::a) k=atKey a k:=by simp[atKey,wdg,c]
   rw[cj e,b];exact f
theorem KT.repl(r:KT H kvs xs)(k:List Key)(j:RelV y u) :
 KT H (kvs.map λg=>if g.1=k then(g.1,y) else g) (xs.map (putAt k u)):=by
 induction r with
 |nil=>exact .nil
 |@cons p q ps f h t c=>
  rw[wat,wat];refine .cons ?_ c;obtain⟨a,b,d⟩:=h;unfold putAt
  by_cases e:p.1=k
  .rw[if_pos e,if_pos (a.symm.trans e)];exact⟨a,b,j⟩
  .rw[if_neg e,if_neg (λz=>e (a.trans z))];exact⟨a,b,d⟩
def ee(H:Hp)(a:Addr)(y:V)(r:Option V):Prop:=
 (∃kvs k,Rd H a (.dK kvs)/\y=kV k/\r=bC kvs k)\/∃kvs k b,Rd H a (.dT kvs)/\y=.ref b/\H b=some (.tup (k.map kV))/\r=bC kvs k
theorem ee.k{H:Hp}{a:Addr}{kvs:List (Key×V)}{k:Key}(e:H a=some (.dK kvs)):ee H a (kV k) (bC kvs k):=.inl {kvs,k,.inl e,rfl,rfl}
def PQ(td ty:TE):TE:=λσ H Q=>td σ H λx H1=>ty σ H1 λy H2=>∃a v,x=.ref a/\ee H2 a y (some v)/\Q v H2
def T6(ty td:TE):TE:=λσ H Q=>ty σ H λy H1=>td σ H1 λx H2=>∃a o,x=.ref a/\ee H2 a y o/\Q (.bl o.isSome) H2
def JW(ty td:TE):TE:=λσ H Q=>ty σ H λy H1=>td σ H1 λx H2=>∃a o,x=.ref a/\ee H2 a y o/\Q (.bl (!o.isSome)) H2
structure M1(X:Cx)(o:Expr)(m:Str)(apos:Pos)(e:Expr)(eP:Pos):Prop where
 base:wcz o m X.env (eval o X.env)=eval o X.env
 few:((backTo eP (starEach [e] X.env)).all (λx=>!x.1)&&(backToKw eP (wcI [] X.env)).all (λx=>x.1.isSome)
  && decide (([e]:List Expr).length+([]:List wez).length+(if ([]:List wez).isEmpty then 0 else 1)<30))=true
 line:(apos.endLine==eP.line)=true
 trees:backTo eP (starEach [e] X.env)=[(false,eval e X.env)]
structure M2(X:Cx)(o:Expr)(m:Str)(apos:Pos)(e f:Expr)(eP:Pos):Prop where
 base:wcz o m X.env (eval o X.env)=eval o X.env
 few:((backTo eP (starEach [e,f] X.env)).all (λx=>!x.1)&&(backToKw eP (wcI [] X.env)).all (λx=>x.1.isSome)
  && decide (([e,f]:List Expr).length+([]:List wez).length+(if ([]:List wez).isEmpty then 0 else 1)<30))=true
 line:(apos.endLine==eP.line)=true
 trees:backTo eP (starEach [e,f] X.env)=[(false,eval e X.env),(false,eval f X.env)]
def MT(td ty tx:TE):TE:=λσ H Q=>td σ H λx H1=>∃a,x=.ref a/\T1 H1 a/\ty σ H1 λy H2=>tx σ H2 λz H3=>∃o,ee H3 a y o/\Q (o.getD z) H3
noncomputable def inClass(s:Stmt)(j:Nat):Stmt:=match s with
 |.ClassDef _ _ _ body _ _ _ _ _ _ _=>body.getD j (.Pass ⟨0,0,0,0⟩)
 |_=>.Pass ⟨0,0,0,0⟩
structure lB(J:It)(Ok:Hp->Prop)(xs:List V):Prop where
 go:∀i H,Ok H->i<xs.length->J.go i H
 tS:∀i H x H',Ok H->i<xs.length->J.tS i H x H'->H'=H/\xs[i]?=some x
 stop:∀H,Ok H->J.stop xs.length H
theorem aK(K:wa2)(a:Addr)(xs:List V):lB (OB K a) (λH=>aH K H a xs) xs:=
 {λi H q hi=>{xs,xs[i],q,by simp[hi]},λi H x b q _ y=>{y.1,y.2 xs q},λH q=>{xs,q,waa _}}
noncomputable def RL(n:Nat)(val:Nat->V):It:={λi _=>i<n,λi H x H'=>H'=H/\x=val i,λi _=>n<=i}
theorem MU{val:Nat->V}(hn:xs.length=n)(g:∀i x,xs[i]?=some x->val i=x):lB (RL n val) (λ_=>True) xs:=by
 subst hn;refine{λi H _ hi=>hi,λi H x a _ hi y=>{y.1,?_},λH _=>waa _};have e:xs[i]?=some xs[i]:=by simp[hi]
 rw[e,y.2,g i _ e]
theorem o8(lo:Int)(n:Nat):lB (LR lo n) (λ_=>True) ((waD n).map λi=>V.int (lo+(i:Nat))):=by
 refine{λi H _ hi=>(show i<n by simpa using hi),λi H x b _ hi y=>{y.1,?_},λH _=>?_}
 .have a:i<n:=by simpa using hi
  rw[y.2];simp[a]
 .show n<=_;simp
noncomputable def xA(z:Str)(i:Nat):V:=.str {#[z.cps.getD i 0]}
theorem oN(z:Str):lB (RL z.cps.size (xA z)) (λ_=>True) (eO z):=by simp_all [MU,eO,wa3,waf,wcn,xA,wcK]
def T7(tl:TE):TI:=λσ H R=>tl σ H λx H1=>∃z,x=.str z/\R (RL z.cps.size (xA z)) H1
theorem iC{α:Type}:∀n P,Px n P->∀us:List α,us.length=n->P us
 |0,_,h,[],_=>h
 |n+1,_,h,a::us,e=>iC n _ (h a) us (wic e)
structure bS(X:Cx)(scope:wd3)(x:Str)(ys:List Str)(ix:List Nat):Prop where
 kind:scope.kind=.function
 Gx:∀y∈scope.names,y.2≠.cell
 names:∀y∈scope.names,y.2=.local->scope.names.lookup y.1=some .local
 var:scope.names.lookup x=some .local
 free:MN scope X.env
 nd:(x::ys).Nodup
 len:ix.length=ys.length
 slots:∀(j:Nat) (y:Str),ys[j]?=some y->∃i:Nat,ix[j]?=some i/\X.N[i]?=some y/\(X.env.scope.names.lookup y=some .cell\/X.env.scope.names.lookup y=some .free)/\scope.names.lookup y=some .free
noncomputable def OC(K:wa2)(a:Addr):It:=
 {λi H=>∃xs x,aH K H a xs/\xs[i]?=some x,λi H x H'=>∃T xv,H T=none/\x=.ref T/\H'=upd H T (.tup [.int (i:Nat),xv])/\∀xs,aH K H a xs->xs[i]?=some xv,λi H=>∃xs,aH K H a xs/\xs.length<=i}
def PR(K:wa2)(ta:TA):TI:=λσ H R=>ta σ H λvs H1=>∃a xs,vs=[.ref a]/\aH K H1 a xs/\R (OC K a) H1
noncomputable def eZ(x:Str)(i:Nat):Str:={#[x.cps.getD i 0]}
noncomputable def o9(sc scope:wd3)(N:List Str)(x:Str)(ys:List Str)(ix:List Nat):Bool:=
 (match scope.kind with |.function=>true |_=>false) &&
 (scope.names.all λy=>!decide (y.2=.cell))&&(scope.names.all λy=>!decide (y.2=.local) ||decide (scope.names.lookup y.1=some .local)) &&
 (scope.names.all λy=>!decide (y.2=.free) ||decide (sc.names.lookup y.1=some .cell) ||decide (sc.names.lookup y.1=some .free)) &&
 decide (scope.names.lookup x=some .local)&&decide ((x::ys).Nodup)&&decide (ix.length=ys.length) &&
 ((waD ys.length).all λj=>match ys[j]?,ix[j]? with
   |some y,some i=>decide (N[i]?=some y)&&(decide (sc.names.lookup y=some .cell) ||decide (sc.names.lookup y=some .free))&&decide (scope.names.lookup y=some .free)
   |_,_=>false)
theorem Gy{κ:Type}(f:κ->V)(g:κ->Str)(j:∀a b,g a=g b->f a=f b):∀{l:List κ} {c:κ},c∈l->bC (l.map λc=>((wak (g c):Key),f c)) (wak (g c):Key)=some (f c):=by intro a;induction a<;>grind [cg,cj,wcf]
structure M3(K:wa2)(CB:Addr):Prop where
 sp:whn K (.ref CB) "__getattribute__"=some (some (.builtin "type.__getattribute__"))
 rd:readsIn K CB (.type "type")=true
 fc:findCls K (.ref CB) (.type "type") "__init__"=some (.val (.builtin "ValueError.__init__"))
noncomputable def T8:TJ:=λacc _ H Q=>acc.length<=sizeLine/\Q acc H
noncomputable def Gz(z:Str):It:={λi _=>i<z.cps.size,λi H x H'=>∃T,H T=none/\x=.ref T/\H'=upd H T (.tup [.int (i:Nat),xA z i]),λi _=>z.cps.size<=i}
def MV(ta:TA):TI:=λσ H R=>ta σ H λvs H1=>∃z,vs=[.str z]/\R (Gz z) H1
noncomputable def JX(d:Addr)(o:Obj)(kvs:List (Key×V)):It:={λi H=>H d=some (.frz o (.dK kvs))/\i<kvs.length,λi H x H'=>H'=H/\∃kv,kvs[i]?=some kv/\x=kV kv.1,λi H=>H d=some (.frz o (.dK kvs))/\kvs.length<=i}
def PU(tl:TE):TI:=λσ H R=>tl σ H λx H1=>∃d kvs,x=.ref d/\((H1 d=some (.dK kvs)/\∀o,R (JX d o kvs) (upd H1 d (.frz o (.dK kvs))))\/∃o,H1 d=some (.frz o (.dK kvs))/\R (JX d o kvs) H1)
def bc(H:Hp)(rs:List Addr)(VE:List (List V)):Prop:=rs.length=VE.length/\∀(i:Nat) (r:Addr) (xs:List V),rs[i]?=some r->VE[i]?=some xs->H r=some (.tup xs)
theorem bc.nil(H:Hp):bc H [] []:={rfl,λi r a h=>by simp at h}
def MX(tl:TE):TI:=λσ H R=>tl σ H λx H1=>∃d kvs,x=.ref d/\(H1 d=some (.dK kvs)\/∃o,H1 d=some (.frz o (.dK kvs)))/\∀o H',H' d=some (.frz o (.dK kvs))->(∀c,c≠d->H' c=H1 c)->R (JX d o kvs) H'
theorem lF(lo c:Int)(n:Nat):lB (Bu lo c n) (λ_=>True) ((waD n).map λi=>V.int (lo+(i:Nat)*c)):=by
 refine{λi H _ hi=>(show i<n by simpa using hi),λi H x b _ hi y=>{y.1,?_},λH _=>?_}
 .have a:i<n:=by simpa using hi
  rw[y.2];simp[a]
 .show n<=_;simp
def uk:List (Int×Int)->TA
 |[]=>yA
 |p::ps=>rE (PL (rE (tC (.int p.1)) (rE (tC (.int p.2)) yA))) (uk ps)
def PV(K:wa2)(t:TA)(t2:TE):TE:=λσ H Q=>t σ H λvs H1=>t2 σ H1 λy H2=>∃a ns d,vs=[.ref a]/\y=.int d/\aH K H2 a (wcZ V.int ns)/\(ns=[]->Q (.int d) H2)/\(∀M,M∈ns->(∀a∈ns,a<=M)->Q (.int M) H2)
noncomputable def MY(K:wa2)(a:Addr)(n:Nat):It:=
 {λi H=>∃xs x,aH K H a xs/\xs.length=n/\i<n/\xs[n-1-i]?=some x,λi H x H'=>H'=H/\∀xs,aH K H a xs->xs[n-1-i]?=some x,λi _=>i=n}
inductive T9(K:wa2)(vs:List V)(H:Hp)(R:It->Hp->Prop):Prop
 |mk (a xs) (_:vs=[.ref a]) (_:aH K H a xs) (_:R (MY K a xs.length) H)
def Ta(K:wa2)(ta:TA):TI:=λσ H R=>ta σ H λvs H1=>T9 K vs H1 R
noncomputable def PX(K:wa2)(a b:Addr):It:=
 {λi H=>∃xs ys x y,aH K H a xs/\aH K H b ys/\xs[i]?=some x/\ys[i]?=some y,λi H v H'=>∃T x y,H T=none/\v=.ref T/\H'=upd H T (.tup [x,y])/\(∀xs,aH K H a xs->xs[i]?=some x)/\∀ys,aH K H b ys->ys[i]?=some y,λi H=>∃xs ys,aH K H a xs/\aH K H b ys/\(xs.length<=i\/ys.length<=i)}
def Tb(K:wa2)(ta:TA):TI:=λσ H R=>ta σ H λvs H1=>∃a b xs ys,vs=[.ref a,.ref b]/\aH K H1 a xs/\aH K H1 b ys/\R (PX K a b) H1
theorem zU:∀{j:List Int} {g:List Value},Vals (j.map V.int) g->IntsAre g j
 |[],_,h=>by cases h;exact .nil
 |z::j,_,h=>by
  cases h with
  |cons r a=>
   obtain⟨t,rfl⟩:=r;exact .cons z t (zU a)
end
section
variable{X:Cx}{a b:Expr}{ta tb:TE}
def Gl(X:Cx)(x:Str):Prop:=X.env.kindOf x=some .globalImplicit
theorem GA(b:Expr)(h:op≠.In)(g:op≠.NotIn):wda op b=false:=by
 have a:(op==CmpOp.In)=false:=by grind
 have c:(op==CmpOp.NotIn)=false:=by grind
 cases b<;>simp[wda,a,c]
def PY(ta tb:TE):TE:=λσ H Q=>ta σ H λx H1=>∃c,x=.bl c/\if c=true then tb σ H1 Q else Q (.bl false) H1
def PZ(ta:TE):TE:=λσ H Q=>ta σ H λx H1=>∃c,x=.bl c/\Q (.bl (!c)) H1
def Yh(t:TT)(ta tb:TE):TE:=λσ H Q=>t σ H λc H1=>if c=true then ta σ H1 Q else tb σ H1 Q
theorem hX(b:Expr)(h:op≠.In:=by decide)(g:op≠.NotIn:=by decide):wda op b=false:=by
 have a:(op==CmpOp.In)=false:=by grind
 have c:(op==CmpOp.NotIn)=false:=by grind
 cases b<;>simp[wda,a,c]
noncomputable def rG:V->V->Bool
 |.non,.non=>true
 |.bl a,.bl b=>a==b
 |.bl a,.int b=>(if a then 1 else 0)==b
 |.int a,.bl b=>a==(if b then 1 else 0)
 |.int a,.int b=>a==b
 |.str a,.str b=>a==b
 |_,_=>false
theorem Bv(j:RelV y u)(g:RelV x v)(p:dQ y=true)(l:dQ x=true):SeqAt.EqAt A s u v (rG y x):=by
 cases y with
 |non=>
  cases j
  cases x with
  |non=>cases g;exact wg7 _
  |bl b=>cases g;exact SeqAt.EqAt.none_bool b
  |int b=>obtain⟨t,rfl⟩:=g;exact SeqAt.EqAt.none_int b t
  |str b=>obtain⟨t,rfl⟩:=g;exact SeqAt.EqAt.none_str b t
  |_=>exact absurd (show false=true from l) wan
 |bl a=>
  cases j
  cases x with
  |non=>cases g;exact SeqAt.EqAt.bool_none a
  |bl b=>cases g;exact SeqAt.EqAt.bool_bool a b
  |int b=>obtain⟨t,rfl⟩:=g;exact SeqAt.EqAt.bool_int a b t
  |str b=>obtain⟨t,rfl⟩:=g;exact SeqAt.EqAt.bool_str a b t
  |_=>exact absurd (show false=true from l) wan
 |int a=>
  obtain⟨c,rfl⟩:=j
  cases x with
  |non=>cases g;exact SeqAt.EqAt.int_none a c
  |bl b=>cases g;exact SeqAt.EqAt.int_bool a c b
  |int b=>obtain⟨t,rfl⟩:=g;exact wgw a c b t
  |str b=>obtain⟨t,rfl⟩:=g;exact wh8 a c b t
  |_=>exact absurd (show false=true from l) wan
 |str a=>
  obtain⟨c,rfl⟩:=j
  cases x with
  |non=>cases g;exact SeqAt.EqAt.str_none a c
  |bl b=>cases g;exact SeqAt.EqAt.str_bool a c b
  |int b=>obtain⟨t,rfl⟩:=g;exact wh9 a c b t
  |str b=>obtain⟨t,rfl⟩:=g;exact wgx a c b t
  |_=>exact absurd (show false=true from l) wan
 |_=>exact absurd (show false=true from p) wan
noncomputable def Bw(x:V)(u:Value):Bool:=match u with
 |.none=>rG .non x
 |.bool b=>rG (.bl b) x
 |.int i _=>rG (.int i) x
 |.str z _=>rG (.str z) x
 |_=>false
theorem GB(r:RelV y u)(f:dQ y=true):Bw x u=rG y x:=by
 cases y with
 |non=>cases r;rfl
 |bl b=>cases r;rfl
 |int i=>obtain⟨t,rfl⟩:=r;rfl
 |str z=>obtain⟨t,rfl⟩:=r;rfl
 |_=>exact absurd (show false=true from f) wan
theorem lG(g:RelV x v)(j:dQ x=true):∀{xs:List V} {us:List Value},Vals xs us->xs.all dQ=true->∀u∈us,SeqAt.EqAt A s u v (Bw x u)
 |_,_,.nil,_=>λu a=>by cases a
 |y::xs,u::us,.cons r t,f=>λb a=>by
  rw[wff,wbc]at f;rcases waG.mp a with rfl |a
  .rw[GB r f.1];exact Bv r g f.1 j
  .exact lG g j t f.2 b a
noncomputable def um:List V->List V->Bool
 |[],[]=>true
 |x::xs,y::ys=>rG x y&&um xs ys
 |_,_=>false
theorem GC(h:xs.length≠ys.length):um xs ys=false:=by
 induction xs generalizing ys with
 |nil=>cases ys with
  |nil=>exact absurd rfl h
  |cons _ _=>rfl
 |cons x xs a=>cases ys with
  |nil=>rfl
  |cons y ys=>
   show (rG x y&&um xs ys)=false;rw[a (by simpa using h),wed]
theorem uo:∀{xs ys:List V},xs.length=ys.length->um xs ys=(waD xs.length).all λj=>rG (xs.getD j .non) (ys.getD j .non)
 |[],[],_=>rfl
 |[],_::_,h=>by simp at h
 |_::_,[],h=>by simp at h
 |x::xs,y::ys,h=>by
  show (rG x y&&um xs ys)=_;rw[waE,List.range_succ_eq_map,wff,wfF,uo (by simpa using h)];rfl
theorem bc.snoc(t:bc H rs g)(h:H r=some (.tup xs)):bc H (rs++[r]) (g++[xs]):=by
 refine{by rw[wa5,wa5,t.1];rfl,λi a b c d=>?_}
 by_cases hi:i<rs.length
 .rw[waA hi]at c;rw[waA (by rw[<-t.1];exact hi)]at d;exact t.2 i a b c d
 .have e:i=rs.length:=by
   have:=(wa6.mp c).1;rw[wa5,wco]at this
   lia
  subst e;rw[waB (waa _),wbA]at c;rw[waB (by rw[t.1];exact waa _),t.1,wbA]at d;cases c;cases d;exact h
noncomputable def hitsD(kb ka:List (Key×V)):Bool:=ka.all λkv=>match bC kb kv.1 with
 |some y=>rG kv.2 y
 |none=>false
noncomputable def Tc(ka kb:List (Key×V)):Bool:=ka.length==kb.length&&hitsD kb ka
end
section
variable{fs ex:List Addr}{H H1:Hp}{h h1:Heap}
theorem Un.any(u:Un fs ex H H1 h h1){b:Addr}{ob:Obj}(q:h.get? b=some ob)(n:H b=none)(g:b∉ex):∃sl,h1.get? b=some {ob with slots:=sl}:=by
 by_cases a:b∈fs
 .exact u.slot b ob q n a g
 .exact{ob.slots,u.keep b ob q n a g}
theorem oO:∀{xs:List V} {us:List Value},Vals xs us->xs.all dQ=true->us.any (Bw x)=xs.any λy=>rG y x
 |_,_,.nil,_=>rfl
 |y::xs,u::us,.cons r t,f=>by
  rw[wff,wbc]at f;rw[wdb,wdb,GB r f.1,oO t f.2]
noncomputable def oP(x:V)(xs:List V):Bool:=xs.any λy=>rG y x
theorem j4(y:Str)(ps:List Str):oP (.str y) (ps.map V.str)=decide (y∈ps):=by
 unfold oP;rw[wdZ]
 induction ps with
 |nil=>rfl
 |cons p ps a=>
  rw[wdb,a];show ((p==y) ||decide (y∈ps))=decide (y∈p::ps)
  by_cases e:p=y
  .subst e;simp
  .grind
theorem xB:∀(a b:List Str),um (a.map V.str) (b.map V.str)=decide (a=b)
 |[],[]=>rfl
 |[],_::_=>rfl
 |_::_,[]=>rfl
 |x::c,y::d=>by
  show ((x==y)&&um (c.map V.str) (d.map V.str))=_;rw[xB c d]
  by_cases e:x=y
  .grind
  .grind
theorem uq(y:Int)(ns:List Int):oP (.int y) (ns.map V.int)=decide (y∈ns):=by
 unfold oP;rw[wdZ]
 induction ns with
 |nil=>rfl
 |cons a l b=>
  rw[wdb,b];show ((a==y) ||decide (y∈l))=decide (y∈a::l)
  by_cases e:a=y
  .subst e;simp
  .grind
end
section
variable(P:waC)(w:World)
def bU(H:Hp)(h:Heap)(a:Addr):HO->Prop
 |.lst xs=>xs.length<=sizeLine/\∃(its:List Value) (n:Nat),Vals xs its/\h.get? a=some {cls:=.type "list",data:=.seq its.toArray n}
 |.tup xs=>xs.length<=sizeLine/\∃its:List Value,Vals xs its/\IsTup h a its.toArray
 |.dK kvs=>kvs.length<=sizeLine/\(a==wcb)=false/\∃vs,KV kvs vs/\h.DictOf (bx P w) a vs
 |.dT kvs=>kvs.length<=sizeLine/\(a==wcb)=false/\∃xs:List (List Key×Addr×Value),
   Paired (λ(p:List Key×V) (q:List Key×Addr×Value)=>p.1=q.1/\H q.2.1=some (.tup (p.1.map kV))/\RelV p.2 q.2.2) kvs xs /\
   ∃o es ep,h.get? a=some o/\o.ExactDict/\o.data=.dict es ep/\es.toList=xs.map (entryOfKey (wfb (bx P w)))/\(xs.map (·.1)).Nodup
 |.set S n=>h.SetOf (intKind P w) a S n
 |.ins C dx fs=>H dx=some (.own a)/\fs.length<=1000/\dx≠a/\h.get? a=some (wcs C dx) /\
   ∃mA,h.Ns1 dx mA/\(∀f,iS (fs.lookup f) (mA f))/\we0 mA (fs.map (·.1))
 |.own _=>∃o,h.get? a=some o
 |.xd fs=>∃mA,h.Ns1 a mA/\∀f,iS (fs.lookup f) (mA f)
 |.rng lo hi=>∃t u v,h.get? a=some {cls:=.type "range",data:=.fields #[.int lo t,.int hi u,.int 1 v]}
 |.frz o u=>h.get? a=some o/\bU H h a u
 |.tbl ps=>h.get? a=some {cls:=.none,data:=.fields ps}
 |.met f x=>h.get? a=some (wfl (.ref f) (.ref x))
 |.ext φ=>φ h/\(∃o,h.get? a=some o)/\∀h1 h2:Heap,φ h1->(∀o,h1.get? a=some o->h2.get? a=some o)->φ h2
def jC(H:Hp)(h:Heap):Prop:=∀a o,H a=some o->bU P w H h a o
theorem Em{h:Heap}{g:Addr}{j:Str->Option Value}(n:h.Ns1 g j):∃l,h.get? g=some l/\∀name,wf6 name l=some (j name):=by
 obtain⟨o,c,m,d,hd,hk,_,f⟩:=n;refine{o,d,λname=>?_};have e:=f name;unfold nsFind findBy at e;rw[<-Array.find?_toList]at e;unfold wf6;rw[hd];dsimp only;split
 .rename_i y q;rw[q]at e;exact congrArg some e
 .rename_i q;rw[q]at e
  have a:c.toList.any (·.refKey)=false:=by
   rw[wfm];intro y i;obtain⟨z,t,b⟩:=hk y (Array.mem_toList_iff.mp i);simp[DictEntry.refKey,b]
  have k:¬c.toList.any (·.refKey)=true:=by rw[a];exact wan
  rw[if_neg k];exact congrArg some e
theorem Bm.look{h:Heap}{x j C:Addr}{l:Str->Option Value}(I:Bm h x j C l):∃g,PySem.W.InstAt h x (wcs C j) C (some g)/\∀name,wf6 name g=some (l name):=
 let ⟨g,a,hl⟩:=Em I.ns
 {g,⟨I.obj,rfl,rfl,a⟩,hl}
inductive RM(K:wa2)(neg:Bool)(x y:V)(H:Hp)(Q:VK):Prop
 |mk (p xs) (_:y=.ref p) (_:(aH K H p xs\/g8 K H p xs)) (_:dQ x=true) (_:xs.all dQ=true) (_:Q (.bl (if neg then !oP x xs else oP x xs)) H)
inductive Td(K:wa2)(x y:V)(H:Hp)(Q:VK):Prop
 |mk (a b xs ys) (_:x=.ref a) (_:y=.ref b) (_:aH K H a xs) (_:aH K H b ys) (_:xs.all dQ=true) (_:ys.all dQ=true) (_:Q (.bl (um xs ys)) H)
inductive Te(x y:V)(H:Hp)(Q:VK):Prop
 |mk (a b ka kb) (_:x=.ref a) (_:y=.ref b) (_:Rd H a (.dK ka)) (_:Rd H b (.dK kb)) (_:uj ka=true) (_:uj kb=true) (_:Q (.bl (Tc ka kb)) H)
end
section
variable{te:TE}{tl th:TO}
theorem Rd.ok{P:waC}{w:World}{H:Hp}{h:Heap}{a:Addr}{u:HO}(r:Rd H a u)(x:jC P w H h):bU P w H h a u:=by
 rcases r with r |⟨o,r⟩
 .exact x a u r
 .obtain⟨_,q⟩:=x a _ r;exact q
structure Inv(X:Cx)(pins:List (Addr×Obj))(σ:List (Option V))(H:Hp)(s:Shared):Prop where
 ok:X.Ok
 os:s.os=X.s₀.os
 bare:AllBare s.gens
 base:Un X.fs X.ex X.H₀ H X.s₀.heap s.heap
 loc:∃m,s.heap.Ns X.env.locals m/\∀(i:Nat) (x:Str) (v:V),X.N[i]?=some x->σ[i]?=some (some v)->P9 X.env.scope x->∃u,RelV v u/\Look X.env s.heap m x u
 cell:∀x c,X.env.cells.lookup x=some c->∃v,s.heap.IsCell c v
 free:H X.env.locals=none
 j5:∀x c,X.env.cells.lookup x=some c->H c=none
 pin:∀p∈X.pn++pins,s.heap.get? p.1=some p.2/\H p.1=none/\p.1≠X.env.locals/\p.1∉X.fs/\∀v,p.2.data≠.cell v
 b9:jC X.prog X.w H s.heap
 len:σ.length=X.N.length
def EP(X:Cx)(pins:List (Addr×Obj))(σ:St)(Q:VK)(u:Value)(s':Shared):Prop:=∃v H',Inv X pins σ H' s'/\RelV v u/\Q v H'
def TP(X:Cx)(pins:List (Addr×Obj))(σ:St)(Q:Bool->Hp->Prop)(b:Bool)(s':Shared):Prop:=∃H',Inv X pins σ H' s'/\Q b H'
def AP(X:Cx)(pins:List (Addr×Obj))(σ:St)(Q:List V->Hp->Prop)(us:List Value)(s':Shared):Prop:=∃vs H',Inv X pins σ H' s'/\Vals vs us/\Q vs H'
abbrev PE(X:Cx)(e:Expr)(t:TE):Prop:=Bx (∀(pins:List (Addr×Obj)) (s:Shared) (σ:St) (H:Hp) (Q:VK),Inv X pins σ H s->t σ H Q->wpAny (model X.prog X.w) X.A (eval e X.env) (EP X pins σ Q) X.xe s)
abbrev PT(X:Cx)(e:Expr)(t:TT):Prop:=Bx (∀(pins:List (Addr×Obj)) (s:Shared) (σ:St) (H:Hp) (Q:Bool->Hp->Prop),Inv X pins σ H s->t σ H Q->wpAny (model X.prog X.w) X.A (isTrue e X.env (eval e X.env)) (TP X pins σ Q) X.xe s)
abbrev PW(X:Cx)(e:Expr)(t:TT):Prop:=Bx (∀(whole:Sem Value) (pins:List (Addr×Obj)) (s:Shared) (σ:St) (H:Hp) (Q:Bool->Hp->Prop),Inv X pins σ H s->t σ H Q->wpAny (model X.prog X.w) X.A (isTrue e X.env whole) (TP X pins σ Q) X.xe s)
theorem PW.pt{X:Cx}{e:Expr}{t:TT}(h:PW X e t):PT X e t:={h _}
abbrev PA(X:Cx)(es:List Expr)(t:TA):Prop:=Bx (∀(pos:Pos) (pins:List (Addr×Obj)) (s:Shared) (σ:St) (H:Hp) (Q:List V->Hp->Prop),Inv X pins σ H s->t σ H Q->wpAny (model X.prog X.w) X.A (spliced (backTo pos (starEach es X.env))) (AP X pins σ Q) X.xe s)
abbrev PG(X:Cx)(target:Expr)(t:TG):Prop:=Bx (∀(pins:List (Addr×Obj)) (s:Shared) (σ:St) (H:Hp) (v:V) (u:Value) (Q:St->Hp->Prop),Inv X pins σ H s->RelV v u->t v σ H Q ->
  wpAny (model X.prog X.w) X.A (assign target X.env u) (λ_ s'=>∃σ' H',Inv X pins σ' H' s'/\Q σ' H') X.xe s)
abbrev RN(X:Cx)(ts:List Expr)(t:RK):Prop:=Bx (∀(pins:List (Addr×Obj)) (s:Shared) (σ:St) (H:Hp) (vs:List V) (us:List Value) (Q:St->Hp->Prop),Inv X pins σ H s->Vals vs us->t vs σ H Q ->
  wpAny (model X.prog X.w) X.A (assignInOrder ((wdE ts X.env).map (·.2)) us) (λ_ s'=>∃σ' H',Inv X pins σ' H' s'/\Q σ' H') X.xe s)
def Q0(X:Cx)(t:MK):Prop:=
 ∀(pins:List (Addr×Obj)) (s:Shared) (σ:St) (H:Hp) (o i v:V) (ov iv u:Value) (Q:Hp->Prop),Inv X pins σ H s->RelV o ov->RelV i iv->RelV v u->t o i v H Q ->
  wpAny (model X.prog X.w) X.A (setItem ov iv u) (λ_ s'=>∃H',Inv X pins σ H' s'/\Q H') X.xe s
def RO(X:Cx)(op:Operator)(t:Pa):Prop:=
 ∀(pins:List (Addr×Obj)) (s:Shared) (σ:St) (H:Hp) (x y:V) (v u:Value) (Q:VK),Inv X pins σ H s->RelV x v->RelV y u->t x y H Q ->
  wpAny (model X.prog X.w) X.A (inplaceOp op v u) (EP X pins σ Q) X.xe s
structure Turn(P:waC)(w:World)(K:wa2)(tg:Expr)(J:It)(fp:List Addr)(it:Addr)(tn:Nat->Heap->Prop):Prop where
 mem:it∈fp
 obj:∀i h,tn i h->∀b∈fp,∃o,h.get? b=some o/\∀v,o.data≠.cell v
 keep:∀i h h',tn i h->(∀b∈fp,∀o,h.get? b=some o->h'.get? b=some o)->tn i h'
 item:∀(X:Cx),X.prog=P->X.w=w->X.K=K->X.calm=true->∀(i:Nat) (pins:List (Addr×Obj)) (s:Shared) (σ:St) (H:Hp) (E:Value->Shared->Prop),Inv X pins σ H s->(∀b∈fp,tG X pins H b)->tn i s.heap->J.go i H ->
  wpAny (model P w) X.A (pyNext (.ref it)) (λr s1=>∃u,r=some u /\
   wpAny (model P w) X.A (weK tg (.ref it) u) (λ_ s2=>∃x H',Inv X pins σ H' s2/\RelV x u/\J.tS i H x H'/\tn (i+1) s2.heap/\∀b∈fp,H' b=none) E s1) E s
 done:∀(X:Cx),X.prog=P->X.w=w->X.K=K->X.calm=true->∀(i:Nat) (pins:List (Addr×Obj)) (s:Shared) (σ:St) (H:Hp) (E:Value->Shared->Prop),Inv X pins σ H s->(∀b∈fp,tG X pins H b)->tn i s.heap->J.stop i H ->
   wpAny (model P w) X.A (pyNext (.ref it)) (λr s1=>r=none/\Inv X pins σ H s1) E s
 self:∀(A:Around) (i:Nat) (s:Shared) (Q:Value->Shared->Prop) (E:Value->Shared->Prop),tn i s.heap->Q (.ref it) s->wpAny (model P w) A (pyIter (.ref it)) Q E s
def MZ(X:Cx)(pins:List (Addr×Obj))(σ:St)(tg:Expr)(R:It->Hp->Prop)(Tf:Value)(s2:Shared):Prop:=
 ∃(it:Addr) (fp:List Addr) (tn:Nat->Heap->Prop) (J:It) (H':Hp),Tf=.ref it/\Inv X pins σ H' s2/\Turn X.prog X.w X.K tg J fp it tn/\tn 0 s2.heap/\(∀b∈fp,tG X pins H' b)/\R J H'
abbrev PI(X:Cx)(tg iter:Expr)(wi:TI):Prop:=Bx (∀(pins:List (Addr×Obj)) (s:Shared) (σ:St) (H:Hp) (R:It->Hp->Prop),Inv X pins σ H s->wi σ H R ->
  wpAny (model X.prog X.w) X.A (eval iter X.env) (λv s1=>wpAny (model X.prog X.w) X.A (pyIter v) (MZ X pins σ tg R) X.xe s1) X.xe s)
def lH(X:Cx)(f:Value->Value->Sem Value)(r:R2):Prop:=
 ∀(pins:List (Addr×Obj)) (s:Shared) (σ:St) (H:Hp) (x y:V) (v u:Value) (Q:VK),Inv X pins σ H s->RelV x v->RelV y u->r x y H Q ->
  wpAny (model X.prog X.w) X.A (f v u) (EP X pins σ Q) X.xe s
def Tg(X:Cx)(f:Value->Sem Value)(r:V->Hp->VK->Prop):Prop:=
 ∀(pins:List (Addr×Obj)) (s:Shared) (σ:St) (H:Hp) (x:V) (v:Value) (Q:VK),Inv X pins σ H s->RelV x v->r x H Q ->
  wpAny (model X.prog X.w) X.A (f v) (EP X pins σ Q) X.xe s
theorem JO.ok{i j:Int}(h:JO i j):IntMulOk i j:=by
 rcases h with⟨a,b⟩ |⟨a,b⟩
 .exact .of_left (intBits_le_64 a b)
 .exact .of_right (intBits_le_64 a b)
def CE(outer:List Env)(P:waC)(w:World)(H:Hp)(s:Shared)(Q:VK)(u:Value)(s':Shared):Prop:=
 ∃v H',s'.os=s.os/\AllBare s'.gens/\Un (rB outer) [] H H' s.heap s'.heap/\jC P w H' s'.heap/\RelV v u/\Q v H'
def CR(CX:G7)(outer:List Env)(P:waC)(w:World)(H:Hp)(s:Shared)(Q:VK)(E:XK)(r:wek)(s':Shared):Prop:=
 match r with
 |.ok (.ret u)=>CE outer P w H s Q u s'
 |.ok _=>False
 |.error e=>CX outer H s E e s'
abbrev PK(X:Cx)(Yi:List wez)(t:TA):Prop:=Bx (∀(pos:Pos) (pins:List (Addr×Obj)) (s:Shared) (σ:St) (H:Hp) (Q:List V->Hp->Prop),Inv X pins σ H s->t σ H Q->wpAny (model X.prog X.w) X.A (evalAll ((backToKw pos (wcI Yi X.env)).map (·.2))) (AP X pins σ Q) X.xe s)
abbrev PO(X:Cx)(e:Option Expr)(t:TO):Prop:=Bx (∀(pins:List (Addr×Obj)) (s:Shared) (σ:St) (H:Hp) (Q:Option Int->Hp->Prop),Inv X pins σ H s->t σ H Q ->
  wpAny (model X.prog X.w) X.A (evalPart e X.env) (λu s'=>∃o H',Inv X pins σ H' s'/\IsPart u o/\Q o H') X.xe s)
def Yj(r:V->Option Int->Option Int->Hp->VK->Prop)(te:TE)(tl th:TO):TE:=λσ H Q=>te σ H λx H1=>tl σ H1 λl H2=>th σ H2 λu H3=>r x l u H3 Q
def OD(X:Cx)(r:R2):Prop:=
 ∀(value slice:Expr) (pins:List (Addr×Obj)) (s:Shared) (σ:St) (H:Hp) (x y:V) (v u:Value) (Q:VK),Inv X pins σ H s->RelV x v->RelV y u->r x y H Q ->
  wgf slice false v u=operate [v,u] (getItem v u)->wpAny (model X.prog X.w) X.A (wgX value slice v u) (EP X pins σ Q) X.xe s
theorem ur(h:Heap)(g:wcb<h.objs.size):bU P w H (h.push {cls:=.type "dict",data:=.dict #[]}) h.objs.size (.dK []):=
 {waq _,beq_eq_false_iff_ne.mpr (wbx (wav g)),[],.nil,Heap.DictOf.new h}
abbrev RP(X:Cx)(pos:Pos)(keys:List (Option Expr))(values:List Expr)(Th:List (TE×TE)):Prop:=Bx (∀(pins:List (Addr×Obj)) (s:Shared) (σ:St) (H:Hp) (Q:List (V×V)->Hp->Prop),Inv X pins σ H s->Bp Th σ H Q ->
  wpAny (model X.prog X.w) X.A (evalPairs (pairTrees keys values X.env pos)) (λvs s'=>∃ps H',Inv X pins σ H' s'/\VV ps vs/\Q ps H') X.xe s)
theorem Dr{X:Cx}:RP X pos [] [] []:={λa s σ H Q I h=>pairTrees_nil_walk {[],H,I,.nil,h}}
noncomputable def Bj(P:waC)(w:World):G7:=λouter H s E ev s'=>∃e C od H',ev=.ref e/\s'.os=s.os/\AllBare s'.gens/\Un (rB outer) [] H H' s.heap s'.heap/\jC P w H' s'.heap/\Jy s.heap.objs.size H' s'.heap e C od/\E (.ref C) od H'
def Ds(X:Cx)(E:XK):Prop:=∀(pins:List (Addr×Obj)) (σ:St) (H:Hp) (s:Shared) (e C:Addr) (od:Option Addr),Inv X pins σ H s->Jy X.s₀.heap.objs.size H s.heap e C od->E (.ref C) od H->X.xe (.ref e) s
abbrev PJ(X:Cx)(es:List Expr)(t:TJ):Prop:=Bx (∀(pins:List (Addr×Obj)) (s:Shared) (σ:St) (H:Hp) (acc:Str) (Q:Str->Hp->Prop),Inv X pins σ H s->t acc σ H Q ->
 wpAny (model X.prog X.w) X.A (joinParts acc (evalEach es X.env)) (λu s'=>∃z H',Inv X pins σ H' s'/\(∃tk,u=.str z tk)/\Q z H') X.xe s)
end
section
variable{X:Cx}{pins:List (Addr×Obj)}{σ:List (Option V)}{H H':Hp}{s:Shared}{h':Heap}
theorem Cx.Ok.Ti(ok:X.Ok)(e:X.base.get? b=some o):b∉X.fs:=λa=>by
 have:=(ok.oK.mem a).1;rw[e]at this;cases this
theorem Inv.bs(I:Inv X pins σ H s):∀b o,X.base.get? b=some o->s.heap.get? b=some o/\H b=none:=λb o e=>
 {I.base.keep b o (I.ok.bs b o e).1 (I.ok.bs b o e).2 (I.ok.Ti e) (I.ok.Bl b o e),I.base.free b o (I.ok.bs b o e).1 (I.ok.bs b o e).2 (I.ok.Bl b o e)}
theorem Inv.bk(I:Inv X pins σ H s):∀b o,X.base.get? b=some o->s.heap.get? b=some o:=λb o e=>(I.bs b o e).1
theorem Inv.mod(I:Inv X pins σ H s):Mod X.K X.mg X.base:=I.ok.mod
theorem Inv.gT(I:Inv X pins σ H s):X.K.In s.heap:=I.ok.mod.LO.keeps I.bk
theorem Inv.N0(I:Inv X pins σ H s):∀x c,X.env.cells.lookup x=some c->c≠X.env.locals:=λx c e z=>by
 obtain⟨v,o,d,hd⟩:=I.cell x c e;obtain⟨m,⟨f,g,h,a,b,_⟩,_⟩:=I.loc;rw[z,a]at d;cases d;rw[b]at hd;cases hd
theorem Inv.oK(I:Inv X pins σ H s):s.heap.FunFrames X.base X.outer:=by
 have all:∀(l:List Env),(∀b∈rB l,b∈X.fs)->X.s₀.heap.FunFrames X.base l->s.heap.FunFrames X.base l:=by
  intro l
  induction l with
  |nil=>intro _ _;trivial
  |cons env r g=>
   intro f hl;obtain⟨hk,⟨L,o,a,hn,h,hd⟩,i⟩:=hl;have c:L∈X.fs:=f L (by unfold rB;rw[wbl,a];exact wag);obtain⟨sl,e⟩:=I.base.slot L o h (I.ok.JM L c) c λz=>I.ok.Eh L z c;exact{hk,{L,_,a,hn,e,hd},g (λb d=>f b (by unfold rB;rw[wbl,a];exact wac _ d)) i}
 exact all X.outer (λ_ d=>d) I.ok.oK
theorem Inv.stack(I:Inv X pins σ H s):s.heap.FunFrames X.base X.stack:=by
 rcases I.ok.OA with e |⟨e,a⟩
 .rw[e];exact I.oK
 .rw[e];obtain⟨m,hn,_⟩:=I.loc;refine .cons (by rw[I.ok.kind];decide) a hn ?_ I.oK;exact Heap.get?_none_of_le (wal I.ok.Gh I.ok.above)
theorem Inv.uv(I:Inv X pins σ H s):∀b∈rB X.stack,b∈X.env.locals::X.fs:=λb a=>by
 rcases I.ok.OA with e |⟨e,c⟩
 .grind
 .grind [rB]
theorem Inv.tX(I:Inv X pins σ H s):∀b∈rB X.stack,H b=none:=λb a=>by
 rcases waG.mp (I.uv b a) with e |a
 .rw[e];exact I.free
 .obtain⟨_,o,c,_⟩:=I.ok.oK.mem a;exact I.base.free b o c (I.ok.JM b a) λz=>I.ok.Eh b z a
theorem Inv.step{g':Array wdD}{t':Nat}{d':Drawn}{ch:List Addr}(I:Inv X pins σ H s)
 (g:∀b∈ch,(b∈X.ex\/X.s₀.heap.objs.size<=b)/\b≠X.env.locals/\(∀x c,X.env.cells.lookup x=some c->c≠b)/\∀p∈X.pn++pins,p.1≠b)
 (keep:∀b o,b≠X.env.locals->b∉X.fs->b∉ch->s.heap.get? b=some o->H b=none->h'.get? b=some o)
 (slot:∀b o,b≠X.env.locals->b∈X.fs->b∉ch->s.heap.get? b=some o->H b=none->∃sl,h'.get? b=some {o with slots:=sl}) (free:∀b o,b∉ch->s.heap.get? b=some o->H b=none->H' b=none)
 (there:∀b o,b∉ch->s.heap.get? b=some o->∃C,h'.get? b=some C)
 (uf:∀b xs,H b=some (.tup xs)->H' b=some (.tup xs)) (tF:∀b o u,H b=some (.frz o u)->H' b=some (.frz o u)) (ug:∀b ps,H b=some (.tbl ps)->∃more,H' b=some (.tbl (ps++more)))
 (ns:∀m,s.heap.Ns X.env.locals m->h'.Ns X.env.locals m) (b9:jC X.prog X.w H' h') (T:AllBare g') :
 Inv X pins σ H' {s with heap:=h',gens:=g',drawn:=d',toks:=t'}:=by
 have B:∀b o,X.s₀.heap.get? b=some o->b≠X.env.locals:=λb o e=>wav (waw (wae e) I.ok.above)
 have j:∀b o,X.s₀.heap.get? b=some o->b∉X.ex->b∉ch:=λb o e a y=>by
  rcases(g b y).1 with z |z
  .exact a z
  .exact absurd (waw (wae e) z) (wbm _)
 have f:∀x c,X.env.cells.lookup x=some c->∀v,s.heap.IsCell c v->h'.IsCell c v:=λx c e v ⟨o,A,hd⟩=>by
  have h:c∉ch:=λz=>(g c z).2.2.1 x c e rfl
  by_cases hc:c∈X.fs
  .obtain⟨sl,q⟩:=slot c o (I.N0 x c e) hc h A (I.j5 x c e);exact{_,q,hd}
  .exact{o,keep c o (I.N0 x c e) hc h A (I.j5 x c e),hd}
 refine{I.ok,I.os,T,{λb o e n y a=>?_,λb o e n y a=>?_,λb o e n a=>?_,λb o e a=>?_,λb xs e=>uf b xs (I.base.uf b xs e),λb o xs e=>tF b o xs (I.base.tF b o xs e),λb ps e=>?_},?_,λx c e=>?_,?_,λx c e=>?_,λp G=>?_,b9,I.len}
 .exact keep b o (B b o e) y (j b o e a) (I.base.keep b o e n y a) (I.base.free b o e n a)
 .obtain⟨sl,t⟩:=I.base.slot b o e n y a;obtain⟨E,D⟩:=slot b _ (B b o e) y (j b o e a) t (I.base.free b o e n a);exact⟨E,D⟩
 .obtain⟨C,t⟩:=I.base.there b o e a;exact free b C (j b o e a) t (I.base.free b o e n a)
 .obtain⟨C,t⟩:=I.base.there b o e a;exact there b C (j b o e a) t
 .obtain⟨m1,t⟩:=I.base.ug b ps e;obtain⟨L,D⟩:=ug b _ t;exact{m1++L,by rw[D,Array.append_assoc]}
 .obtain⟨m,hn,hl⟩:=I.loc;refine{m,ns m hn,λi x v t D M=>?_};obtain⟨u,r,l⟩:=hl i x v t D M;refine{u,r,?_};rcases l with l |⟨k,c,e,z⟩
  .exact .inl l
  .exact .inr {k,c,e,f x c e _ z}
 .obtain⟨v,z⟩:=I.cell x c e;exact{v,f x c e v z}
 .obtain⟨m,⟨o,_,_,A,_⟩,_⟩:=I.loc;exact free _ o (λz=>(g _ z).2.1 rfl) A I.free
 .obtain⟨v,o,A,hd⟩:=I.cell x c e;exact free c o (λz=>(g c z).2.2.1 x c e rfl) A (I.j5 x c e)
 .obtain⟨e,n,ne,J,d⟩:=I.pin p G;have h:p.1∉ch:=λz=>(g p.1 z).2.2.2 p G rfl;exact{keep p.1 p.2 ne J h e n,free p.1 p.2 h e n,ne,J,d}
theorem Inv.un{t':Nat}(I:Inv X pins σ H s)(u:Un X.fs [] H H' s.heap h')(b9:jC X.prog X.w H' h'):Inv X pins σ H' {s with heap:=h',toks:=t'}:=by
 obtain⟨m,⟨o,k,l,g,r⟩,_⟩:=id I.loc;obtain⟨sl,h⟩:=u.any g I.free (by simp)
 exact I.step (g':=s.gens) (d':=s.drawn) (ch:=[]) (λ_ z=>nomatch z) (λb o _ c _ e n=>u.keep b o e n c (by simp)) (λb o _ c _ e n=>u.slot b o e n c (by simp)) (λb o _ e n=>u.free b o e n (by simp)) (λb o _ e=>u.there b o e (by simp)) u.uf u.tF u.ug (λp i=>by
  obtain⟨q,d,f,a,j⟩:=i;rw[g]at a;cases a
  exact{_,d,f,h,j}) b9 I.bare
theorem Inv.call{g':Array wdD}{t':Nat}{d':Drawn}{ch:List Addr}(I:Inv X pins σ H s)(u:Un (rB X.stack) ch H H' s.heap h')(b9:jC X.prog X.w H' h')(j:AllBare g')
 (g:∀b∈ch,(b∈X.ex\/X.s₀.heap.objs.size<=b)/\b≠X.env.locals/\(∀x c,X.env.cells.lookup x=some c->c≠b)/\∀p∈X.pn++pins,p.1≠b) :
 Inv X pins σ H' {s with heap:=h',gens:=g',drawn:=d',toks:=t'}:=by
 obtain⟨m,⟨o,t,v,i,r⟩,_⟩:=id I.loc;obtain⟨sl,d⟩:=u.any i I.free λz=>(g _ z).2.1 rfl
 exact I.step (ch:=ch) g (λb o d k hc e n=>u.keep b o e n (λz=>(waG.mp (I.uv b z)).elim d k) hc) (λb o _ _ hc e n=>u.any e n hc) (λb o hc e n=>u.free b o e n hc) (λb o hc e=>u.there b o e hc) u.uf u.tF u.ug (λy l=>by
  obtain⟨A,f,h,a,q⟩:=l;rw[i]at a;cases a
  exact{_,f,h,d,q}) b9 j
theorem Inv.Dt(I:Inv X pins σ H s)(h:∀p∈g,s.heap.get? p.1=some p.2/\H p.1=none/\p.1≠X.env.locals/\p.1∉X.fs/\∀v,p.2.data≠.cell v):Inv X g σ H s:=
 {I.ok,I.os,I.bare,I.base,I.loc,I.cell,I.free,I.j5,λp a=>(wax.mp a).elim (λz=>I.pin p (waS _ z)) (h p),I.b9,I.len}
theorem Inv.xC(I:Inv X pins σ H s)(j:s'.os=s.os)(u:Un (rB X.stack) ch H H' s.heap s'.heap)(b9:jC X.prog X.w H' s'.heap)(l:AllBare s'.gens)
 (g:∀b∈ch,(b∈X.ex\/X.s₀.heap.objs.size<=b)/\b≠X.env.locals/\(∀x c,X.env.cells.lookup x=some c->c≠b)/\∀p∈X.pn++pins,p.1≠b):Inv X pins σ H' s':=by
 obtain⟨h',g',d',t',a⟩:=s';have e:a=s.os:=j;subst e;exact I.call (g':=g') (t':=t') (d':=d') u b9 l g
structure Ends where
 nx:St->Hp->Prop
 rt:VK
 bk:St->Hp->Prop:=λ_ _=>False
 ct:St->Hp->Prop:=λ_ _=>False
noncomputable abbrev Ends.M4(D:Ends)(N:St->Hp->Prop):Ends:=⟨N,D.rt,D.bk,D.ct⟩
noncomputable abbrev Ends.lp(D:Ends)(N:St->Hp->Prop):Ends:=⟨N,D.rt,D.nx,N⟩
noncomputable abbrev TS:=Ends->St->Hp->Prop
theorem N1(j:X.N[i]?=some x)(p:P9 X.env.scope x)(hd:(x==("__debug__":Str))=false:=by decide)(g:(x==("__classdict__":Str))=false:=by decide):PE X (.Name x pos) (JN i):=by
 refine{?_};intro b s σ H Q I h;obtain⟨v,e,h⟩:=h;obtain⟨m,hn,hl⟩:=I.loc;obtain⟨u,r,l⟩:=hl i x v j e p;have fin:EP X b σ Q u s:=⟨v,H,I,r,h⟩;rcases l with⟨hk,d⟩ |⟨hk,c,hc,a⟩
 .exact wpAny_Name (wgK I.ok.kind hk hn d fin) hd
 .rcases hk with hk |hk
  .exact wpAny_Name (wh1 I.ok.kind hk hc a fin) hd
  .exact wpAny_Name (wpAny_loadName_free I.ok.kind hk hc a fin g) hd
theorem gz{b j pos}:PE X (.Constant (.bool b) j pos) (tC (.bl b)):={λ_ _ _ H _ I h=>Constant_bool {.bl b,H,I,rfl,h}}
theorem fC{j pos}:PE X (.Constant .none j pos) (tC .non):={λ_ _ _ H _ I h=>Constant_none {.non,H,I,rfl,h}}
def N2:TS:=λ_ _ _=>False
theorem cA:RN X [] Gi:=by
 refine{?_};intro a s σ H b c Q I r h;obtain⟨e,h⟩:=h;subst e;cases r;exact assignInOrder_nil ⟨σ,H,I,h⟩
theorem aN{e:Expr}{g:List Expr}{t:TG}{u:RK}(j:PG X e t)(l:RN X g u)
 (hs:(wdE (e::g) X.env).map (·.2)=assign e X.env::(wdE g X.env).map (·.2):=by rfl):RN X (e::g) (lD t u):=by
 refine{?_};intro a s σ H n o Q I r h;obtain⟨v,p,c,h⟩:=h;subst c
 cases r with
 |cons r d=>
  rw[hs];refine assignInOrder_cons (bN (j a s σ H _ _ _ I r h) λ_ f ⟨b,i,k,m⟩=>?_);exact l a f b i _ _ Q k d m
structure dF(k:Nat)(A:Around):Prop where
 hd:A.handled=none
 dp:A.depth+3*k+5<recursionLimit
 un:A.units+16*k+200<wcJ
theorem dF.mono(r:dF k A)(h:j<=k):dF j A:={r.hd,by have:=r.dp;lia,by have:=r.un;lia}
theorem dF.deeper(r:dF (k+1) A)(env:Env):dF k (A.deeper env):=
 {r.hd,by have:=r.dp;show A.depth+1+3*k+5<_;lia,by have:=r.un;show A.units+3+16*k+200<_;lia}
theorem dF.make(r:dF (k+1) A)(C:Addr)(us:List Value)(g:List (Str×Value)):dF k (A.under (.builtin "type.__call__" {.ref C::us,g})):=
 {r.hd,by have:=r.dp;rw[Bn];lia,by have:=r.un;rw[Bo];lia}
theorem dF.depth(r:dF k A):A.depth<recursionLimit:=by have:=r.dp;lia
theorem dF.units(r:dF k A):A.units+64<wcJ:=by have:=r.un;lia
theorem dF.yF(r:dF k A):A.units<wcJ:=by have:=r.un;lia
theorem dN:PA X [] yA:={λ_ _ _ _ H Q I h=>wfn {[],H,I,.nil,h}}
theorem cB:PO X none JP:=by
 refine{?_};intro a s σ H Q I h;rw[evalPart_none];exact waz {none,H,I,.none,h}
theorem uw:∀{kvs:List (Key×V)} {ws:List (Value×Value)},VV (kvs.map λg=>(kV g.1,g.2)) ws->∃rs,Carries (bx P w) ws rs/\KV kvs rs
 |[],_,r=>by rw[wdY]at r;cases r;exact{[],wbz,.nil}
 |p::kvs,_,r=>by
  rw[wat]at r
  cases r with
  |@cons a b as bs h t=>
   obtain⟨rs,c,q⟩:=uw (P:=P) (w:=w) t;obtain⟨b1,d⟩:=b;exact{(p.1,d)::rs,{rF h.1,rfl,c},.cons ⟨rfl,h.2⟩ q}
theorem pv(i:Nat)(j:X.N[i]?=some x:=by rfl)(l:P9 X.env.scope x:=by first |exact we1 rfl |exact Or.inr (we1 rfl) |exact Or.inr (Or.inr rfl))(hd:(x==("__debug__":Str))=false:=by decide)
 (g:(x==("__classdict__":Str))=false:=by decide):PE X (.Name x pos) (JN i):=N1 j l hd g
theorem rH:∀{us:List Value},Vals (bs.map V.bl) us->LSm.BoolsAre us bs:=by
 induction bs with
 |nil=>intro us r;rw[wdY]at r;cases r;exact .nil
 |cons n ns a=>
  intro us r;rw[wat]at r
  cases r with
  |cons b c=>
   cases b;exact .cons n (a c)
noncomputable abbrev OG:=(St->XK)->TS
end
section
variable{X:Cx}{a b:Expr}{ta tb:TE}{pos:Pos}{tA:TT}
noncomputable abbrev Ends.fn(Q:VK):Ends:={λ_ H'=>Q .non H',Q,λ_ _=>False,λ_ _=>False}
abbrev PC(X:Cx)(op:CmpOp)(a b:Expr)(t:TE):Prop:=Bx (∀(pins:List (Addr×Obj)) (s:Shared) (σ:St) (H:Hp) (Q:VK),Inv X pins σ H s->t σ H Q ->
  wpAny (model X.prog X.w) X.A (eval a X.env) (λv s₁=>wpAny (model X.prog X.w) X.A (eval b X.env) (λu s₂=>wpAny (model X.prog X.w) X.A (wbo op v u) (EP X pins σ Q) X.xe s₂) X.xe s₁) X.xe s)
theorem yG{op:CmpOp}{t:TE}(h:PC X op a b t)(g:wda op b=false:=by first |exact GA _ ⋯ ⋯ |rfl):PT X (.Compare a [op] [b] pos) (tB t):=by
 refine{?_};intro e s σ H Q I hw;refine wgy (bN (h e s σ H _ I hw) λv m g=>bN g λu n f=>bN f λc o ⟨x,i,j,k,l⟩=>?_) g;obtain⟨d,rfl,q⟩:=l;cases k;exact wbW ⟨i,j,q⟩
theorem cC{e:Expr}{t:TE}(h:PE X e t)(he:∀whole,isTrue e X.env whole=(do let v <-whole;standAt e.pos;holding [v] (truthy v)):=by intro _;rfl):PT X e (tB t):=by
 refine{?_};intro a s σ H Q I hw;refine isTrue_plain (bN (h a s σ H _ I hw) λv i ⟨x,b,c,f,g⟩=>?_) (he _);obtain⟨d,rfl,q⟩:=g;cases f;exact wbW ⟨b,c,q⟩
theorem yH(ha:PT X a tA):PW X (.BoolOp .And [a] pos) tA:=by
 refine{?_};intro d b s σ H Q I h;refine isTrue_and (bN (ha b s σ H Q I h) λc f e=>?_)
 cases c with
 |true=>exact isTrue_and_nil e
 |false=>exact e
theorem og(ha:PT X a tA):PW X (.BoolOp .Or [a] pos) tA:=by
 refine{?_};intro d b s σ H Q I h;refine isTrue_or (bN (ha b s σ H Q I h) λc f e=>?_)
 cases c with
 |false=>exact isTrue_or_nil e
 |true=>exact e
theorem eh(ha:PT X a tA):PT X (.UnaryOp .Not a pos) (SV tA):=by
 refine{?_};intro b s σ H Q I h;exact isTrue_not (ha b s σ H (λc d=>Q (!c) d) I h)
theorem qF{op}(h:PE X a t):PE X (.BoolOp op [a] pos) t:={λb s σ H Q I hw=>BoolOp_one (h b s σ H Q I hw)}
theorem yI(ha:PE X a ta):PE X (.UnaryOp .Not a pos) (PZ ta):=by
 refine{?_};intro b s σ H Q I h;refine UnaryOp_ (bN (ha b s σ H _ I h) λv i ⟨x,e,f,g,d⟩=>?_);obtain⟨c,rfl,d⟩:=d;cases g;exact not_of (wbW {.bl (!c),e,f,rfl,d})
theorem zV{c:Expr}(hc:PT X c tA)(ha:PE X a ta)(l:PE X b tb):PE X (.IfExp c a b pos) (Yh tA ta tb):=by
 refine{?_};intro e s σ H Q I h;refine wpAny_IfExp (bN (hc e s σ H _ I h) λd f ⟨g,i,j⟩=>?_)
 cases d with
 |true=>exact ha e f σ g Q i j
 |false=>exact l e f σ g Q i j
def Q1:TS:=λD σ H=>D.nx σ H
theorem Inv.quiet(I:Inv X g σ H s):interactive X.env=false:=by simp[interactive,I.ok.kind]
theorem GD{o i:Expr}{l p:TE}{t:MK}(C:PE X o l)(hi:PE X i p)(hs:Q0 X t)
 (ha:∀v,assign (.Subscript o i pos) X.env v=(do
   let g <-holding [v] (eval o X.env)
   let j <-holding [v,g] (eval i X.env)
   standAt pos
   holding [v,g,j] (setItem g j v)
   release [v,g,j] []):=by intro _;rfl):PG X (.Subscript o i pos) (SX l p t):=by
 refine{?_};intro a s σ H v u Q I r h;rw[ha];refine wa7 (wbt (bN (C a s σ H _ I h) λg b ⟨x,c,d,e,f⟩=>?_));refine wa7 (wbt (bN (hi a b σ c _ d f) λj k ⟨y,m,n,q,w⟩=>?_));refine wa7 (wdL (wa7 (wbt (bN (hs a k σ m x y v g j u _ n e q r w) λ_ D ⟨z,A,B⟩=>?_))));exact wpAny_release ⟨σ,z,A,B⟩
def JY(te:TE)(g:TG):TS:=λD σ H=>te σ H λx H1=>g x σ H1 D.nx
inductive Tj(i:Nat)(te:TE)(ti:Pa)(D:Ends)(σ:St)(H:Hp):Prop
 |mk (x) (_:σ[i]?=some (some x)) (_:te σ H λy H1=>ti x y H1 λz H2=>D.nx (σ.set i (some z)) H2)
theorem Inv.oQ(I:Inv X (g++pl) σ H s):Inv X g σ H s:=I.Dt λp a=>I.pin p (waI _ (waS _ a))
theorem bW{lo:Int}{n:Nat}{g:TG}{C:TS}{D:Ends}{σ:St}{H:Hp}(Pv:Nat->St->Hp->Prop)(h0:Pv 0 σ H)
 (hs:∀i σ H,i<n->Pv i σ H->g (.int (lo+i)) σ H λj t=>C (D.lp (Pv (i+1))) j t) (hd:∀σ H,Pv n σ H->D.nx σ H) :
 ∃W:Nat->Nat->St->Hp->Prop,(∃m,W 0 m σ H)/\∀i m σ H,W i m σ H ->
  ((LR lo n).stop i H/\D.nx σ H)\/((LR lo n).go i H/\∃N:St->Hp->Prop,(∀l r,N l r->∃I,I<m/\W (i+1) I l r)/\∀x r,(LR lo n).tS i H x r->g x σ r λj t=>C (D.lp N) j t):=by
 refine{λi m σ H=>m=n-i/\i<=n/\Pv i σ H,{n,by simp,waq _,h0},?_};rintro i m σ H ⟨rfl,hi,p⟩
 by_cases a:i<n
 .refine .inr {a,Pv (i+1),λl r b=>{n-(i+1),by lia,rfl,a,b},λx r y=>?_};obtain⟨e,y⟩:=y;subst e y;exact hs i σ _ a p
 .have e:i=n:=by lia
  subst e;exact .inl {waa _,hd σ H p}
theorem N3(ha:PE X a ta)(C:PE X b tb){R:V->V->Hp->Prop}(I:Inv X g σ H s)
 (h:ta σ H λx t=>tb σ t λy j=>R x y j) {Q:Value->Shared->Prop} {f:Value->Value->Sem Value}
 (J:∀v u r x y j,Inv X g σ j r->RelV x v->RelV y u->R x y j->wpAny (model X.prog X.w) X.A (f v u) Q X.xe r) :
 wpAny (model X.prog X.w) X.A (eval a X.env) (λv l=>wpAny (model X.prog X.w) X.A (eval b X.env) (λu p=>wpAny (model X.prog X.w) X.A (f v u) Q X.xe p) X.xe l) X.xe s:=by
 refine bN (ha g s σ H _ I h) λv c ⟨x,t,d,e,i⟩=>?_;refine bN (C g c σ t _ d i) λu r ⟨y,j,k,m,n⟩=>?_;exact J v u r x y j k e m n
theorem aD(g:lH X (binaryOp op) r)(ha:PE X a ta)(j:PE X b tb):PE X (.BinOp a op b pos) (Pj r ta tb):=by
 refine{?_};intro c s σ H Q I h;exact wpAny_BinOp (N3 ha j I h λv u d x y e f i k q=>g c d σ e x y v u Q f i k q)
theorem M5{r:V->Hp->VK->Prop}(g:Tg X (unaryOp op) r)(ha:PE X a ta):PE X (.UnaryOp op a pos) (Y6 r ta):=by
 refine{?_};intro b s σ H Q I h;exact UnaryOp_ (bN (ha b s σ H _ I h) λv c ⟨x,d,e,f,i⟩=>g b c σ d x v Q e f i)
theorem JZ{f:Value->Value->Sem Value}{g:Int->Int->Bool}
 (rule:∀(i j:Int) (t u:Tok) (s:Shared) (Q:Value->Shared->Prop) (E:Value->Shared->Prop),Q (.bool (g i j)) s->wpAny (model X.prog X.w) X.A (f (.int i t) (.int j u)) Q E s) :
 lH X f (LU λi j=>.bl (g i j)):=by
 intro a s σ H x y v u Q I b c h;obtain⟨i,j,rfl,rfl,q⟩:=h;obtain⟨t,rfl⟩:=b;obtain⟨d,rfl⟩:=c;exact rule i j t d s _ _ {.bl (g i j),H,I,rfl,q}
theorem bF(I:Inv X g σ H s)(q:Q (.bl k) H)(e:k=j):EP X g σ Q (.bool j) s:=by
 subst e;exact{.bl k,H,I,rfl,q}
theorem hZ:lH X (wbo .Eq) Y7:=by
 intro e s σ H x y v u Q I d a h;obtain⟨c,q⟩:=h
 cases x with
 |non=>
  cases d
  cases y with
  |non=>cases a;exact PySem.EqNone.eq_none_none (bF I q (by simp))
  |bl j=>cases a;exact PySem.EqNone.eq_none_bool (bF I q (by simp))
  |int j=>obtain⟨b,rfl⟩:=a;exact PySem.EqNone.eq_none_int (bF I q (by simp))
  |str j=>obtain⟨b,rfl⟩:=a;exact PySem.EqNone.eq_none_str (bF I q (by simp))
  |_=>exact absurd (show false=true from c) wan
 |bl i=>
  cases d
  cases y with
  |non=>cases a;exact PySem.EqNone.eq_bool_none (bF I q (by simp))
  |bl j=>cases a;exact eq_bool (bF I q Gk)
  |str j=>obtain⟨b,rfl⟩:=a;exact PySem.EqMixed.eq_bool_str (bF I q (by simp))
  |_=>exact absurd (show false=true from c) wan
 |int i=>
  obtain⟨t,rfl⟩:=d
  cases y with
  |non=>cases a;exact PySem.EqNone.eq_int_none (bF I q (by simp))
  |int j=>obtain⟨b,rfl⟩:=a;exact eq_int (bF I q Dj)
  |str j=>obtain⟨b,rfl⟩:=a;exact PySem.EqMixed.eq_int_str (bF I q (by simp))
  |_=>exact absurd (show false=true from c) wan
 |str i=>
  obtain⟨t,rfl⟩:=d
  cases y with
  |non=>cases a;exact PySem.EqNone.eq_str_none (bF I q (by simp))
  |bl j=>cases a;exact PySem.EqMixed.eq_str_bool (bF I q (by simp))
  |int j=>obtain⟨b,rfl⟩:=a;exact PySem.EqMixed.eq_str_int (bF I q (by simp))
  |str j=>obtain⟨b,rfl⟩:=a;exact eq_str (bF I q Dk)
  |_=>exact absurd (show false=true from c) wan
 |byt i=>
  obtain⟨t,rfl⟩:=d
  cases y with
  |byt j=>obtain⟨b,rfl⟩:=a;exact PySem.W.eq_bytes (bF I q Dl)
  |_=>exact absurd (show false=true from c) wan
 |_=>cases y<;>exact absurd (show false=true from c) wan
theorem M6:lH X (wbo .NotEq) Y8:=by
 intro e s σ H x y v u Q I d a h;obtain⟨c,q⟩:=h
 cases x with
 |non=>
  cases d
  cases y with
  |non=>cases a;exact PySem.EqNone.ne_none_none (bF I q (by simp))
  |bl j=>cases a;exact PySem.EqNone.ne_none_bool (bF I q (by simp))
  |int j=>obtain⟨b,rfl⟩:=a;exact PySem.EqNone.ne_none_int (bF I q (by simp))
  |str j=>obtain⟨b,rfl⟩:=a;exact PySem.EqNone.ne_none_str (bF I q (by simp))
  |_=>exact absurd (show false=true from c) wan
 |bl i=>
  cases d
  cases y with
  |non=>cases a;exact PySem.EqNone.ne_bool_none (bF I q (by simp))
  |bl j=>cases a;exact ne_bool (bF I q (congrArg not Gk))
  |str j=>obtain⟨b,rfl⟩:=a;exact PySem.EqMixed.ne_bool_str (bF I q (by simp))
  |_=>exact absurd (show false=true from c) wan
 |int i=>
  obtain⟨t,rfl⟩:=d
  cases y with
  |non=>cases a;exact PySem.EqNone.ne_int_none (bF I q (by simp))
  |int j=>obtain⟨b,rfl⟩:=a;exact ne_int (bF I q (congrArg not Dj))
  |str j=>obtain⟨b,rfl⟩:=a;exact PySem.EqMixed.ne_int_str (bF I q (by simp))
  |_=>exact absurd (show false=true from c) wan
 |str i=>
  obtain⟨t,rfl⟩:=d
  cases y with
  |non=>cases a;exact PySem.EqNone.ne_str_none (bF I q (by simp))
  |bl j=>cases a;exact PySem.EqMixed.ne_str_bool (bF I q (by simp))
  |int j=>obtain⟨b,rfl⟩:=a;exact PySem.EqMixed.ne_str_int (bF I q (by simp))
  |str j=>obtain⟨b,rfl⟩:=a;exact ne_str (bF I q (congrArg not Dk))
  |_=>exact absurd (show false=true from c) wan
 |byt i=>
  obtain⟨t,rfl⟩:=d
  cases y with
  |byt j=>obtain⟨b,rfl⟩:=a;exact PySem.W.ne_bytes (bF I q (congrArg not Dl))
  |_=>exact absurd (show false=true from c) wan
 |_=>cases y<;>exact absurd (show false=true from c) wan
theorem ni:lH X (wbo .Lt) (LU λi j=>.bl (decide (i<j))):=JZ λ_ _ _ _ _ _ _ q=>lt_int q
theorem Q2:lH X (wbo .LtE) (LU λi j=>.bl (decide (i<=j))):=JZ λ_ _ _ _ _ _ _ q=>le_int q
theorem lI:lH X (wbo .Gt) (LU λi j=>.bl (decide (j<i))):=JZ λ_ _ _ _ _ _ _ q=>gt_int q
theorem GF:lH X (wbo .GtE) (LU λi j=>.bl (decide (j<=i))):=JZ λ_ _ _ _ _ _ _ q=>ge_int q
theorem qG:lH X (wbo .In) (λx y H Q=>∃i j,x=.str i/\y=.str j/\Q (.bl (!(wd6 j i 0 j.length 1).isEmpty)) H):=by
 intro a s σ H x y v u Q I b c h;obtain⟨i,j,rfl,rfl,q⟩:=h;obtain⟨t,rfl⟩:=b;obtain⟨d,rfl⟩:=c;exact in_str (bF I q rfl)
theorem By:lH X (wbo .Is) (λx y H Q=>y=.non/\Q (.bl (decide (x=.non))) H):=by
 intro a s σ H x y v u Q I b c h;obtain⟨rfl,q⟩:=h;cases c;refine is_none_gen (bF I q ?_)
 cases x<;>first
  |(cases b;rfl)
  |(obtain⟨t,rfl⟩:=b;rfl)
theorem yJ:lH X (wbo .IsNot) (λx y H Q=>y=.non/\Q (.bl (!decide (x=.non))) H):=by
 intro a s σ H x y v u Q I b c h;obtain⟨rfl,q⟩:=h;cases c;refine isnot_none_gen (bF I q ?_)
 cases x<;>first
  |(cases b;rfl)
  |(obtain⟨t,rfl⟩:=b;rfl)
theorem dS(g:lH X (wbo op) r)(ha:PE X a ta)(j:PE X b tb)(l:wda op b=false):PE X (.Compare a [op] [b] pos) (Pj r ta tb):=by
 refine{?_};intro c s σ H Q I h;exact wpAny_Compare1 (N3 ha j I h λv u d x y e f i k q=>g c d σ e x y v u Q f i k q) l
theorem fD(g:lH X (wbo op) r)(ha:PE X a ta)(j:PE X b tb)(l:wda op b=false):PT X (.Compare a [op] [b] pos) (LV (Pj r ta tb)):=by
 refine{?_};intro d s σ H Q I h
 refine wgy (bN (ha d s σ H _ I h) λv f ⟨x,i,m,n,o⟩=>bN (j d f σ i _ m o) λu p ⟨y,q,t,w,A⟩=>
  bN (g d p σ q x y v u _ t n w A) λc G ⟨z,B,C,D,k,e,E⟩=>?_) l
 subst e;cases D;exact wbW ⟨B,C,E⟩
structure K0(K:wa2)(C:Addr)(m:Str)(f:Addr):Prop where
 at_:wbj K (.ref C) m=some (some (.ref f))
 fn:wfG K (.ref f)=true
 kp:wcX K (.ref f)=true
noncomputable def ux(CX:G7)(P:waC)(w:World)(K:wa2)(mg:Str->Option Value)(base:Heap)(N:List Str)(qual:Str)(scope:wd3)(f:Addr)(cd:Value)(A:Around)(outer:List Env)(s:Shared)(H:Hp)(E:XK):Cx where
 prog:=P
 w:=w
 K:=K
 mg:=mg
 base:=base
 A:=A.deeper (envOfC qual scope s.heap.objs.size f cd)
 N:=N
 s₀:=s
 H₀:=H
 env:=envOfC qual scope s.heap.objs.size f cd
 outer:=outer
 stack:=envOfC qual scope s.heap.objs.size f cd::outer
 ex:=[]
 calm:=true
 fn:=λ_=>true
 pn:=[]
 xe:=λe s'=>wpAny (model P w) (A.deeper (envOfC qual scope s.heap.objs.size f cd)) («leaving» (envOfC qual scope s.heap.objs.size f cd) e) (λ_ Tl=>CX outer H s E e Tl) (λe' Tl=>CX outer H s E e' Tl) s'
theorem aW(g:OD X r)(ha:PE X a ta)(j:PE X b tb)(hs:JQ b):PE X (.Subscript a b pos) (Pj r ta tb):=by
 refine{?_};intro c s σ H Q I h;exact Subscript_ (N3 ha j I h λv u d x y e f i k q=>g a b c d σ e x y v u Q f i k q (hs _ _))
theorem yK:lH X (wbo .NotIn) (λx y H Q=>∃i j,x=.str i/\y=.str j/\Q (.bl (!(!(wd6 j i 0 j.length 1).isEmpty))) H):=by
 intro a s σ H x y v u Q I b c h;obtain⟨i,j,rfl,rfl,q⟩:=h;obtain⟨t,rfl⟩:=b;obtain⟨d,rfl⟩:=c;exact notIn_str {.bl _,H,I,rfl,q}
theorem iT{J:It}{Ok:Hp->Prop}{xs:List V}{g:TG}{I:TS}{D:Ends}{σ:St}{H:Hp}(t:lB J Ok xs)(Pv:Nat->St->Hp->Prop)(h0:Pv 0 σ H)(U:∀i σ H,i<=xs.length->Pv i σ H->Ok H)
 (hs:∀i x σ H,xs[i]?=some x->Pv i σ H->g x σ H λl C=>I (D.lp (Pv (i+1))) l C) (hd:∀σ H,Pv xs.length σ H->D.nx σ H) :
 ∃W:Nat->Nat->St->Hp->Prop,(∃m,W 0 m σ H)/\∀i m σ H,W i m σ H ->
  (J.stop i H/\D.nx σ H)\/(J.go i H/\∃N:St->Hp->Prop,(∀r j,N r j->∃T,T<m/\W (i+1) T r j)/\∀x j,J.tS i H x j->g x σ j λl C=>I (D.lp N) l C):=by
 refine{λi m σ H=>m=xs.length-i/\i<=xs.length/\Pv i σ H,{xs.length,by simp,waq _,h0},?_};rintro i m σ H ⟨rfl,hi,p⟩;have q:=U i σ H hi p
 by_cases a:i<xs.length
 .refine .inr {t.go i H q a,Pv (i+1),λr j b=>{xs.length-(i+1),by lia,rfl,a,b},λx j y=>?_};obtain⟨e,c⟩:=t.tS i H x j q a y;subst e;exact hs i x σ _ c p
 .have e:i=xs.length:=by lia
  subst e;exact .inl {t.stop H q,hd σ H p}
def K1(C:Addr)(E:XK)(t:TA):TS:=λ_ σ H=>t σ H λvs H1=>vs.length=1/\E (.ref C) none H1
end
section
variable{te:TE}
def SP(X:Cx)(pins:List (Addr×Obj))(D:Ends)(f:Flow)(s':Shared):Prop:=
 match f with
 |.next=>∃σ' H',Inv X pins σ' H' s'/\D.nx σ' H'
 |.brk=>∃σ' H',Inv X pins σ' H' s'/\D.bk σ' H'
 |.cont=>∃σ' H',Inv X pins σ' H' s'/\D.ct σ' H'
 |.ret u=>∃v σ' H',Inv X pins σ' H' s'/\RelV v u/\D.rt v H'
abbrev PS(X:Cx)(st:Stmt)(t:TS):Prop:=Bx (∀(pins:List (Addr×Obj)) (s:Shared) (σ:St) (H:Hp) (D:Ends),Inv X pins σ H s->t D σ H->wpAny (model X.prog X.w) X.A (exec st X.env) (SP X pins D) X.xe s)
abbrev wt(X:Cx)(st:List Stmt)(t:TS):Prop:=Bx (∀(pins:List (Addr×Obj)) (s:Shared) (σ:St) (H:Hp) (D:Ends),Inv X pins σ H s->t D σ H->wpAny (model X.prog X.w) X.A (execs st X.env) (SP X pins D) X.xe s)
theorem Cx.Ok.o1{X:Cx}(ok:X.Ok)(E:Value->Shared->Prop):(X.o1 E).Ok:=
 ⟨ok.mod,ok.kind,ok.glob,ok.blt,ok.above,ok.inj,ok.has,ok.MJ,ok.hd,ok.frames,ok.OA,ok.RJ,ok.bs,ok.Gh,ok.Bl,ok.Eh,ok.oK,ok.JM⟩
theorem Cx.Ok.gi{X:Cx}{E:Value->Shared->Prop}(ok:(X.o1 E).Ok):X.Ok:=
 ⟨ok.mod,ok.kind,ok.glob,ok.blt,ok.above,ok.inj,ok.has,ok.MJ,ok.hd,ok.frames,ok.OA,ok.RJ,ok.bs,ok.Gh,ok.Bl,ok.Eh,ok.oK,ok.JM⟩
def Q3(te:TE):TS:=λD σ H=>te σ H λ_ H1=>D.nx σ H1
def Tn(te:TE):TS:=λD σ H=>te σ H D.rt
def N4(c:TT)(tb:TS):TS:=λD σ H=>∃W:Nat->St->Hp->Prop,(∃m,W m σ H)/\∀m σ H,W m σ H ->
 c σ H λb H1=>if b=true then ∃N:St->Hp->Prop,(∀σ' H',N σ' H'->∃m',m'<m/\W m' σ' H')/\tb (D.lp N) σ H1 else D.nx σ H1
def Q4(wi:TI)(g:TG)(tb:TS):TS:=λD σ H=>wi σ H λJ H1=>∃W:Nat->Nat->St->Hp->Prop,(∃m,W 0 m σ H1)/\∀i m σ H,W i m σ H ->
 (J.stop i H/\D.nx σ H)\/(J.go i H/\∃N:St->Hp->Prop,(∀σ' H',N σ' H'->∃m',m'<m/\W (i+1) m' σ' H')/\∀x H',J.tS i H x H'->g x σ H' λσ2 H2=>tb (D.lp N) σ2 H2)
theorem dG{K:wa2}{a:Addr}{xs:List V}{g:TG}{C:TS}{D:Ends}{σ:St}{H:Hp}(Pv:Nat->St->Hp->Prop)(h0:Pv 0 σ H)(hl:∀i σ H,i<=xs.length->Pv i σ H->aH K H a xs)
 (hs:∀i x σ H,xs[i]?=some x->Pv i σ H->g x σ H λj t=>C (D.lp (Pv (i+1))) j t) (hd:∀σ H,Pv xs.length σ H->D.nx σ H) :
 ∃W:Nat->Nat->St->Hp->Prop,(∃m,W 0 m σ H)/\∀i m σ H,W i m σ H ->
  ((OB K a).stop i H/\D.nx σ H)\/((OB K a).go i H/\∃N:St->Hp->Prop,(∀l r,N l r->∃I,I<m/\W (i+1) I l r)/\∀x r,(OB K a).tS i H x r->g x σ r λj t=>C (D.lp N) j t):=by
 refine{λi m σ H=>m=xs.length-i/\i<=xs.length/\Pv i σ H,{xs.length,by simp,waq _,h0},?_};rintro i m σ H ⟨rfl,hi,p⟩;have q:=hl i σ H hi p
 by_cases b:i<xs.length
 .refine .inr {{xs,xs[i],q,by simp[b]},Pv (i+1),λl r c=>{xs.length-(i+1),by lia,rfl,b,c},λx r y=>?_};obtain⟨e,y⟩:=y;subst e;exact hs i x σ _ (y xs q) p
 .have e:i=xs.length:=by lia
  subst e;exact .inl {{xs,q,waa _},hd σ H p}
def dH(X:Cx)(f:Value)(r:List V->Hp->VK->Prop):Prop:=
 ∀(pins:List (Addr×Obj)) (s:Shared) (σ:St) (H:Hp) (xs:List V) (us:List Value) (Q:VK),Inv X pins σ H s->Vals xs us->r xs H Q ->
  wpAny (model X.prog X.w) X.A (call f us) (EP X pins σ Q) X.xe s
def To(K:wa2)(ta tv:TE)(f:Str):TS:=λD σ H=>tv σ H λy H1=>ta σ H1 λx H2=>∃a C dx fs,x=.ref a/\H2 a=some (.ins C dx fs)/\zQ K C/\bQ K C f/\fs.length<1000 /\
 D.nx σ (upd H2 a (.ins C dx (cL f y fs)))
structure Bz(P:waC)(w:World)(K:wa2)(mg:Str->Option Value)(base:Heap)(A:Around)(outer:List Env)(s:Shared)(H:Hp):Prop where
 frames:A.frames=some outer
 mod:Mod K mg base
 bs:∀b o,base.get? b=some o->s.heap.get? b=some o/\H b=none
 Gh:base.objs.size<=s.heap.objs.size
 oK:s.heap.FunFrames base outer
 JM:∀b∈rB outer,H b=none
 b9:jC P w H s.heap
 bare:AllBare s.gens
structure aS(P:waC)(w:World)(K:wa2)(mg:Str->Option Value)(base:Heap)(CX:G7)(k:Nat)(f:Addr)(fd:wbw)(ps:List Str)(sp:Sp):Prop where
 len:∀vs H Q E,sp vs H Q E->vs.length=ps.length
 run:∀(A:Around) (outer:List Env) (s:Shared) (H:Hp) (args:Args) (us:List Value) (vs:List V) (Q:VK) (E:XK),dF k A->Bz P w K mg base A outer s H->BindsTo s fd args (ps.zip us)->Vals vs us->sp vs H Q E ->
  codeAny (model P w) A (.call (.ref f) args) (CR CX outer P w H s Q E) s
theorem Bz.make{P:waC}{w:World}{K:wa2}{mg:Str->Option Value}{base:Heap}{A:Around}{outer:List Env}{s:Shared}{H:Hp}(e:Bz P w K mg base A outer s H)(C:Addr)(us:List Value)(g:List (Str×Value)) :
 Bz P w K mg base (A.under (.builtin "type.__call__" {.ref C::us,g})) outer s H:={by first |exact e.frames |(simpa [wha,Code.envs,whb,pushEnvs] using e.frames),e.mod,e.bs,e.Gh,e.oK,e.JM,e.b9,e.bare}
def Passes(CX:G7)(X:Cx)(E:XK):Prop:=∀(pins:List (Addr×Obj)) (σ:St) (H:Hp) (s:Shared) (e:Value) (s':Shared),Inv X pins σ H s->CX X.stack H s E e s'->X.xe e s'
def M7(X:Cx)(id:String)(r:V->List V->Hp->VK->Prop):Prop:=
 ∀(pins:List (Addr×Obj)) (s:Shared) (σ:St) (H:Hp) (x:V) (xs:List V) (v:Value) (us:List Value) (Q:VK),Inv X pins σ H s->RelV x v->Vals xs us->r x xs H Q ->
  wpAny (model X.prog X.w) X.A (call (.builtin id) (v::us)) (EP X pins σ Q) X.xe s
def VF(X:Cx)(id:String)(r:V->List V->Hp->VK->Prop):Prop:=
 ∀(pins:List (Addr×Obj)) (s:Shared) (σ:St) (H:Hp) (x:V) (xs:List V) (v:Value) (us:List Value) (Q:VK),Inv X pins σ H s->RelV x v->Vals xs us->r x xs H Q ->
  wpAny (model X.prog X.w) X.A (call (.builtin id) (v::us)) (EP X pins σ Q) X.xe s
theorem oR{X:Cx}:Passes cO X E0:=λ_ _ _ _ _ _ _ h=>h.elim
noncomputable def bG(X:Cx)(scope:wd3)(N:List Str)(cl:List (Str×Addr))(L:Addr)(s:Shared)(H:Hp)(ex:List Addr)(pn:List (Addr×Obj)):Cx where
 prog:=X.prog
 w:=X.w
 K:=X.K
 mg:=X.mg
 base:=X.base
 A:=X.A
 N:=N
 s₀:=s
 H₀:=H
 env:=compEnvC scope cl L X.env
 outer:=X.stack
 stack:=X.stack
 ex:=ex
 fn:=λ_=>false
 calm:=X.calm
 pn:=pn
 xe:=λ_ _=>False
abbrev PS1(X:Cx)(st:Stmt)(t:TS):Prop:=Bx (∀(pins:List (Addr×Obj)) (s:Shared) (σ:St) (H:Hp) (D:Ends),Inv X pins σ H s->1<=s.toks->t D σ H->wpAny (model X.prog X.w) X.A (exec st X.env) (SP X pins D) X.xe s)
abbrev Yk(X:Cx)(st:List Stmt)(t:TS):Prop:=Bx (∀(pins:List (Addr×Obj)) (s:Shared) (σ:St) (H:Hp) (D:Ends),Inv X pins σ H s->1<=s.toks->t D σ H->wpAny (model X.prog X.w) X.A (execs st X.env) (SP X pins D) X.xe s)
def VG(X:Cx)(pins:List (Addr×Obj))(σ:St)(E:XK)(ev:Value)(s':Shared):Prop:=∃H0 s0,Inv X pins σ H0 s0/\Bj X.prog X.w X.stack H0 s0 E ev s'
def VH(X:Cx)(pins:List (Addr×Obj))(E:St->XK)(ev:Value)(s':Shared):Prop:=∃σ,VG X pins σ (E σ) ev s'
abbrev VI(X:Cx)(e:Expr)(t:Py):Prop:=Bx (∀(pins:List (Addr×Obj)) (s:Shared) (σ:St) (H:Hp) (Q:VK) (E:XK),Inv X pins σ H s->t E σ H Q->wpAny (model X.prog X.w) X.A (eval e X.env) (EP X pins σ Q) (VG X pins σ E) s)
abbrev VJ(X:Cx)(st:Stmt)(t:OG):Prop:=Bx (∀(pins:List (Addr×Obj)) (s:Shared) (σ:St) (H:Hp) (D:Ends) (E:St->XK),Inv X pins σ H s->t E D σ H->wpAny (model X.prog X.w) X.A (exec st X.env) (SP X pins D) (VH X pins E) s)
abbrev Q6(X:Cx)(st:List Stmt)(t:OG):Prop:=Bx (∀(pins:List (Addr×Obj)) (s:Shared) (σ:St) (H:Hp) (D:Ends) (E:St->XK),Inv X pins σ H s->t E D σ H->wpAny (model X.prog X.w) X.A (execs st X.env) (SP X pins D) (VH X pins E) s)
end
section
variable{X:Cx}{pins:List (Addr×Obj)}{σ:St}{H:Hp}{s:Shared}{a:Addr}{xs ys:List V}
theorem Paired.N5{α β:Type}{F G:α->β->Prop}:∀{g:List α} {j:List β},Paired F g j->(∀a b,F a b->G a b)->Paired G g j
 |_,_,.nil,_=>.nil
 |_,_,.cons r t,f=>.cons (f _ _ r) (Paired.N5 t f)
theorem aH.of{K:wa2}(h:H a=some (.lst xs)):aH K H a xs:=.inl (.inl h)
theorem g8.of{K:wa2}(h:H a=some (.tup xs)):g8 K H a xs:=.inl (.inl h)
theorem Inv.list(I:Inv X pins σ H s)(h:aH X.K H a xs):∃g:List Value,Vals xs g/\PlainL s.heap a g.toArray/\xs.length<=sizeLine:=by
 rcases h with h |⟨o,g,n,hk,hc,hd,b,c,r⟩
 .obtain⟨z,g,n,r,e⟩:=h.ok I.b9;exact{g,r,{_,n,e,rfl,rfl,rfl},z}
 .refine{g.toList,r,{o,n,I.gT a o hk,hc,hd,by simpa using b},?_};have e:=r.length;simp only[wcD]at e
  lia
theorem Inv.tuple(I:Inv X pins σ H s)(h:g8 X.K H a xs):∃g:List Value,Vals xs g/\IsTup s.heap a g.toArray/\xs.length<=sizeLine:=by
 rcases h with h |⟨o,g,n,hk,hc,b,c,r⟩
 .obtain⟨z,g,r,p⟩:=h.ok I.b9;exact⟨g,r,p,z⟩
 .refine{g.toList,r,{o,I.gT a o hk,hc,n,by simpa using b},?_};have e:=r.length;simp only[wcD]at e;omega
theorem Inv.j6(I:Inv X pins σ H s)(h:aH X.K H a xs)(h':aH X.K H a ys):xs=ys:=by
 obtain⟨c,r,⟨o,n,e,_,_,d⟩,_⟩:=I.list h;obtain⟨b,i,⟨j,k,f,_,_,g⟩,_⟩:=I.list h';rw[e]at f;cases f;rw[d]at g;injection g with l _
 have:c=b:=by grind
 subst this;exact r.inj i
theorem aO:wt X [] Q1:={λ_ _ σ H _ I h=>wcu ⟨σ,H,I,h⟩}
theorem d9:wt X g N2:={λ_ _ _ _ _ _ h=>h.elim}
theorem b5:OD X (Pt X.K):=by
 intro value slice a s σ H x y v u Q I k l h f;obtain⟨p,D,i,z,rfl,rfl,m,n,q⟩:=h;cases k;obtain⟨t,rfl⟩:=l;obtain⟨c,r,pl,E⟩:=I.list m;obtain⟨j,b,o,G,A,B⟩:=yB n;obtain⟨w,g,d⟩:=r.get o;have hl:=r.length;have hn:=o6;have fin:EP X a σ Q w s:=⟨z,H,I,d,q⟩
 by_cases h0:0<=i
 .have e:i.toNat=j:=by
   rw[whE h0 B]at b;exact waf b
  exact item_listR pl.isList h0 (by lia) (by rw[e];simpa using g) fin f
 .have e:(i+(c.toArray.size:Int)).toNat=j:=by
   rw[whc (by lia) A]at b;rw[waF,<-hl];exact waf b
  exact wgi (x:=w) pl.isList.typeIs slot_list_getitem.lookup
   (wpAny_getItem_list_neg (Q:=λr C=>r=w/\EP X a σ Q r C) pl.isList (by lia) (by rw[waF]<;>lia) (by lia) (by rw[e];simpa using g) ⟨rfl,fin⟩) f
theorem eQ:OD X (Pu X.K):=by
 intro value slice a s σ H x y v u Q I c d h e;obtain⟨p,A,i,z,rfl,rfl,f,g,q⟩:=h;cases c;obtain⟨t,rfl⟩:=d;obtain⟨k,r,pl,B⟩:=I.tuple f;obtain⟨j,l,m,C,D,E⟩:=yB g;obtain⟨w,n,b⟩:=r.get m;have hl:=r.length;have hn:=o6;have fin:EP X a σ Q w s:=⟨z,H,I,b,q⟩
 exact wgi (x:=w) pl.typeIs slot_tuple_getitem.lookup
  (getItem_tuple (j:=j) (Q:=λr o=>r=w/\EP X a σ Q r o) pl (by lia) (by lia) (by rw[waF,<-hl];exact l) (by simpa using n) ⟨rfl,fin⟩) e
theorem BA(g:List Value)(n j:Nat)(u:Value):wcT (·.setIfInBounds j u) {cls:=.type "list",data:=.seq g.toArray n}={cls:=.type "list",data:=.seq (g.set j u).toArray n}:=by
 simp[wcT]
theorem qH:lH X (wbo .In) (RM X.K false):=by
 intro c s σ H x y v u Q I d f h;obtain⟨p,i,rfl,b,e,fs,q⟩:=h;cases f;rcases b with b |b
 .obtain⟨a,r,pl,g⟩:=I.list b;refine SeqAt.in_listAt (Bw x) pl.isList (λw hw=>lG d e r fs w (by grind)) {.bl _,H,I,rfl,?_};rw[show a.toArray.any (Bw x)=a.any (Bw x) by simp,oO r fs];exact q
 .obtain⟨a,r,pl,g⟩:=I.tuple b;refine SeqAt.in_tupleAt (Bw x) pl (λw hw=>lG d e r fs w (by grind)) {.bl _,H,I,rfl,?_};rw[show a.toArray.any (Bw x)=a.any (Bw x) by simp,oO r fs];exact q
theorem jD:lH X (wbo .NotIn) (RM X.K true):=by
 intro c s σ H x y v u Q I d f h;obtain⟨p,i,rfl,b,e,fs,q⟩:=h;cases f;rcases b with b |b
 .obtain⟨a,r,pl,g⟩:=I.list b;refine SeqAt.notIn_listAt (Bw x) pl.isList (λw hw=>lG d e r fs w (by grind)) {.bl _,H,I,rfl,?_};rw[show a.toArray.any (Bw x)=a.any (Bw x) by simp,oO r fs];exact q
 .obtain⟨a,r,pl,g⟩:=I.tuple b;refine SeqAt.notIn_tupleAt (Bw x) pl (λw hw=>lG d e r fs w (by grind)) {.bl _,H,I,rfl,?_};rw[show a.toArray.any (Bw x)=a.any (Bw x) by simp,oO r fs];exact q
theorem BC(z:kvs.length<=sizeLine)(hd:(a==wcb)=false)(rel:KV kvs vs)(dd:h'.DictOf (bx P w) a vs) :
 bU P w g h' a (.dK kvs):=⟨z,hd,vs,rel,dd⟩
end
section
variable{X:Cx}{tg:Expr}
theorem gu{E:Value->Shared->Prop}{Q:Value->Shared->Prop}(I:Inv X g σ H s)(j:Gl X x)(l:X.mg x=some u)(h:Q u s)
 (hd:(x==("__debug__":Str))=false:=by decide):wpAny (model X.prog X.w) X.A (eval (.Name x pos) X.env) Q E s:=
 wfg I.ok.kind j (Calls.loadGlobal_global (by rw[I.ok.glob];exact I.mod.glob.keeps I.bk) l h) hd
theorem eR{E:Value->Shared->Prop}{Q:Value->Shared->Prop}(I:Inv X g σ H s)(j:Gl X x)(l:X.mg x=none)(p:waV x=some u)(h:Q u s)
 (hn:x≠"__name__":=by decide) (hd:(x==("__debug__":Str))=false:=by decide):wpAny (model X.prog X.w) X.A (eval (.Name x pos) X.env) Q E s:=by
 obtain⟨c,a,b⟩:=I.mod.blt;exact wfg I.ok.kind j (Calls.loadGlobal_builtin (by rw[I.ok.glob];exact I.mod.glob.keeps I.bk) l (by rw[I.ok.blt];exact a.keeps I.bk) ((b x hn).trans p) h) hd
theorem tY(g:Gl X x)(j:X.mg x=some u)(r:RelV v u)(hd:(x==("__debug__":Str))=false:=by decide):PE X (.Name x pos) (tC v):=
 {λ_ _ _ H _ I h=>gu I g j ⟨v,H,I,r,h⟩ hd}
theorem gU(g:Gl X x)(j:X.mg x=none)(l:waV x=some u)(r:RelV v u)(hn:x≠"__name__":=by decide)(hd:(x==("__debug__":Str))=false:=by decide):PE X (.Name x pos) (tC v):=
 {λ_ _ _ H _ I h=>eR I g j l ⟨v,H,I,r,h⟩ hn hd}
theorem Inv.pinned(I:Inv X g σ H s)(l:∀b∈j,tG X g H b)(r:∀b∈j,∃o,s.heap.get? b=some o/\∀v,o.data≠.cell v):Inv X (g++uh j s.heap) σ H s:=
 I.Dt λp f=>(wax.mp f).elim (λz=>I.pin p (waI _ z)) λz=>by
  obtain⟨a,e⟩:=Ei z;obtain⟨h,f1,f2,_⟩:=l p.1 a;obtain⟨o,c,d⟩:=r p.1 a;rw[e]at c;cases c;exact⟨e,h,f1,f2,d⟩
theorem GH(C:PassesOwn (model X.prog X.w) X.A X.env X.xe)(hc:X.calm=true)(hi:PI X tg iter wi)(hg:PG X tg g)(j:wt X body tb)
 (hs:∀x,wbX iter X.env x=pure x:=by intro _;rfl):PS X (.For tg iter body [] pos) (Q4 wi g tb):=by
 refine{?_};intro a s σ H D I h;refine wpAny_For (bN (hi a s σ H _ I h) λv s1 h1=>bN h1 λTf s2 h2=>?_) hs;obtain⟨it,E,tn,J,H2,e,I2,T,R,f2,W,⟨m0,w0⟩,G⟩:=h2;subst e;have k:∀{y:Hp},(∀b∈E,y b=none)->∀b∈E,tG X a y b:=λhn b j=>{hn b j,(f2 b j).2};refine codeAny_forLoop_any (λn s'=>∃i l y,Inv X a l y s'/\tn i s'.heap/\(∀b∈E,y b=none)/\W i n l y) ?_ m0 {0,σ,H2,I2,R,λb j=>(f2 b j).1,w0};rintro n s3 ⟨i,p,Q,I3,L,M,w3⟩;rcases G i n p Q w3 with⟨stop,qn⟩ |⟨go,N,hN,step⟩
 .refine wcO C (bN (T.done X rfl rfl rfl hc i a s3 p Q X.xe I3 (k M) L stop) λr s4 ⟨S,I4⟩=>?_);subst S;exact wcu ⟨p,Q,I4,qn⟩
 .refine wcO C (bN (T.item X rfl rfl rfl hc i a s3 p Q X.xe I3 (k M) L go) λr s4 ⟨u,S,h4⟩=>?_);subst S;refine wcO C (bN h4 λ_ s5 ⟨x,H5,I5,r5,y5,B,U⟩=>?_);have V:=I5.pinned (k U) (T.obj _ _ B);refine wcO C (bN (hg _ s5 p H5 x u _ V r5 (step x H5 y5)) λ_ s6 ⟨Y,H6,I6,q6⟩=>?_);refine wcO C (bN (j _ s6 Y H6 _ I6 q6) λf Z z=>?_)
  have again:∀{c:St} {q:Hp},Inv X (a++uh E s5.heap) c q Z->N c q->∃m,m<n/\∃i l y,Inv X a l y Z/\tn i Z.heap/\(∀b∈E,y b=none)/\W i m l y:=λ{c q} t O=>by
   obtain⟨m',hm,w7⟩:=hN c q O;refine{m',hm,i+1,c,q,t.oQ,T.keep _ _ _ B λb j o e=>(t.pin (b,o) (waI _ (waI _ (jA j e)))).1,λb j=>?_,w7};obtain⟨o,e,d⟩:=T.obj _ _ B b j;exact(t.pin (b,o) (waI _ (waI _ (jA j e)))).2.1
  cases f with
  |next=>obtain⟨c,q,t,O⟩:=z;exact again t O
  |cont=>obtain⟨c,q,t,O⟩:=z;exact again t O
  |brk=>obtain⟨c,q,t,z⟩:=z;exact⟨c,q,t.oQ,z⟩
  |ret v=>obtain⟨x7,c,q,t,r7,z⟩:=z;exact⟨x7,c,q,t.oQ,r7,z⟩
theorem Inv.lst(I:Inv X j σ H s)(h:H p=some (.lst xs)) :
 ∃(g:List Value) (n:Nat),Vals xs g/\s.heap.get? p=some {cls:=.type "list",data:=.seq g.toArray n}/\xs.length<=sizeLine:=by
 obtain⟨z,g,n,r,e⟩:=I.b9 p _ h;exact⟨g,n,r,e,z⟩
inductive Q7(o i v:V)(H:Hp)(Q:Hp->Prop):Prop
 |mk (p xs k j) (_:o=.ref p) (_:i=.int k) (_:H p=some (.lst xs)) (_:Ek xs.length k=some j) (_:Q (upd H p (.lst (xs.set j v))))
def Tp(K:wa2)(T:String)(x:V)(H:Hp):Prop:=match x with
 |.str _=>T="str"
 |.int _=>T="int"
 |.ref p=>(T="list"/\∃xs,aH K H p xs)\/(T="tuple"/\∃o,K.lookup p=some o/\o.cls=.type "tuple"/\o.dict=none) \/
   (T="dict"/\((∃kvs,H p=some (.dK kvs))\/∃kvs,H p=some (.dT kvs)))\/(T="set"/\∃S n,H p=some (.set S n))
 |_=>False
def Q8(K:wa2)(T:String)(r:V->List V->Hp->VK->Prop)(to:TE):TE:=λσ H Q=>to σ H λx H1=>Tp K T x H1/\r x [] H1 Q
def VL(K:wa2)(T:String)(r:V->List V->Hp->VK->Prop)(to:TE)(t:TA):TE:=λσ H Q=>to σ H λx H1=>Tp K T x H1/\t σ H1 λxs H2=>r x xs H2 Q
inductive K2(x:V)(vs:List V)(H:Hp)(Q:VK):Prop
 |mk (l xs y) (_:x=.ref l) (_:vs=[y]) (_:H l=some (.lst xs)) (_:xs.length<sizeLine) (_:Q .non (upd H l (.lst (xs++[y]))))
inductive Tq(x:V)(vs:List V)(H:Hp)(Q:VK):Prop
 |mk (l xs y) (_:x=.ref l) (_:vs=[]) (_:H l=some (.lst xs)) (_:xs[xs.length-1]?=some y) (_:Q y (upd H l (.lst xs.dropLast)))
inductive Tr(x y:V)(H:Hp)(Q:VK):Prop
 |mk (l b xs zs) (_:x=.ref l) (_:y=.ref b) (_:H l=some (.lst xs)) (_:H b=some (.lst zs)) (_:xs.length+zs.length<=sizeLine) (_:∀p,H p=none->Q (.ref p) (upd H p (.lst (xs++zs))))
inductive Ts(x y:V)(H:Hp)(Q:VK):Prop
 |mk (l k xs) (_:x=.ref l) (_:y=.int k) (_:H l=some (.lst xs)) (_:-(2^63)<=k) (_:k<2^63) (_:xs.length*k.toNat<=sizeLine) (_:∀p,H p=none->Q (.ref p) (upd H p (.lst (waj k.toNat xs).flatten)))
theorem KT.keeps(r:KT H kvs xs)(g:∀b ys,H b=some (.tup ys)->j b=some (.tup ys)):KT j kvs xs:=
 Paired.N5 r λ_ _ z=>{z.1,g _ _ z.2.1,z.2.2}
def Only(H:Hp):Prop:=∀b,H b=none\/∃o xs,H b=some (.frz o (.lst xs))
def nj(J:It)(l:Addr)(σf:St)(tt:TT)(te:TE)(H:Hp)(Q:Hp->Prop):Prop:=
 ∃W:Nat->Nat->List V->Hp->Prop,(∃m,W 0 m [] (upd H l (.lst [])))/\∀i m ys H2,W i m ys H2->H2 l=some (.lst ys) /\
  ((J.stop i H2/\Q H2)\/(J.go i H2/\ys.length<sizeLine/\∀x H3,J.tS i H2 x H3->tt (some x::σf) H3 λb H4=>
    if b=true then te (some x::σf) H4 λy H5=>H5 l=some (.lst ys)/\∃m',m'<m/\W (i+1) m' (ys++[y]) (upd H5 l (.lst (ys++[y])))
    else ∃m',m'<m/\W (i+1) m' ys H4))
def xD(g:TG)(n:Nat)(J:It)(l:Addr)(σf:St)(tt:TT)(te:TE)(H:Hp)(Q:Hp->Prop):Prop:=
 ∃W:Nat->Nat->List V->Hp->Prop,(∃m,W 0 m [] (upd H l (.lst [])))/\∀i m ys H2,W i m ys H2->H2 l=some (.lst ys) /\
  ((J.stop i H2/\Q H2)\/(J.go i H2/\ys.length<sizeLine/\∀x H3 vs,vs.length=n->J.tS i H2 x H3->g x (vs++σf) H3 λσ' H'=>(∃Q9,Q9.length=n/\σ'=Q9++σf)/\tt σ' H' λb H4=>
    if b=true then te σ' H4 λy H5=>H5 l=some (.lst ys)/\∃m',m'<m/\W (i+1) m' (ys++[y]) (upd H5 l (.lst (ys++[y])))
    else ∃m',m'<m/\W (i+1) m' ys H4))
def Qa(wi:TI)(ix:List Nat)(tt:TT)(te:TE):TE:=λσ H Q=>wi σ H λJ H1=>∀l,H1 l=none->nj J l (pick σ ix) tt te H1 (λH2=>Q (.ref l) H2)
def N6(wi:TI)(ix:List Nat)(tt:TT)(te:TE)(i:Nat):TS:=λD σ H=>wi σ H λJ H1=>∀l,H1 l=none->nj J l (pick σ ix) tt te H1 (λH2=>D.nx (σ.set i (some (.ref l))) H2)
set_option genInjectivity true in
inductive jE where
 |at (v:V)
 |tup (ds:List jE)
 |lst (ds:List jE)
mutual
def bK(K:wa2)(H:Hp):jE->V->Prop
 |.at x,v=>v=x/\MR x=true
 |.tup ds,v=>∃a xs,v=.ref a/\H a=some (.tup xs)/\bu K H ds xs
 |.lst ds,v=>∃a xs,v=.ref a/\Rd H a (.lst xs)/\bu K H ds xs
def bu(K:wa2)(H:Hp):List jE->List V->Prop
 |[],xs=>xs=[]
 |d::ds,xs=>∃v vs,xs=v::vs/\bK K H d v/\bu K H ds vs
end
noncomputable def M8(q:Str×Str):jE:=.tup [.at (.str q.1),.at (.str q.2)]
theorem bu.qI{K:wa2}{H:Hp}:∀(g:List jE) (ys:List V),g.length=ys.length->(∀(i:Nat) (d:jE) (y:V),g[i]?=some d->ys[i]?=some y->bK K H d y)->bu K H g ys
 |[],[],_,_=>rfl
 |[],_::_,h,_=>by simp at h
 |_::_,[],h,_=>by simp at h
 |d::g,y::ys,h,r=>{y,ys,rfl,r 0 d y rfl rfl,bu.qI g ys (by simpa using h) λi a b c e=>r (i+1) a b c e}
theorem bu.get{K:wa2}{H:Hp}:∀{g:List jE} {xs:List V},bu K H g xs->∀(i:Nat) (x:V),xs[i]?=some x->∃d,g[i]?=some d/\bK K H d x
 |[],_,h,i,x,e=>by
  rw[show _=[] from h]at e;simp at e
 |d::g,_,h,i,x,e=>by
  obtain⟨v,a,rfl,b,hl⟩:=h
  cases i with
  |zero=>grind
  |succ i=>exact bu.get hl i x e
theorem gY{K:wa2}{H:Hp}{d:jE}{v:V}:∀{g:List jE} {xs:List V},bu K H g xs->bK K H d v->bu K H (g++[d]) (xs++[v])
 |[],xs,h,r=>by
  have e:xs=[]:=h;subst e;exact{v,[],rfl,r,rfl}
 |c::g,_,h,r=>by
  obtain⟨v0,a,rfl,b,hl⟩:=h;exact{v0,a++[v],rfl,b,gY hl r}
theorem bu.set{K:wa2}{H:Hp}{d:jE}{v:V}:∀{g:List jE} {xs:List V},bu K H g xs->∀i:Nat,bK K H d v->bu K H (g.set i d) (xs.set i v)
 |[],xs,h,i,r=>by
  have e:xs=[]:=h;subst e;exact h
 |c::g,_,h,0,r=>by
  obtain⟨v0,a,rfl,b,hl⟩:=h;exact⟨v,a,rfl,r,hl⟩
 |c::g,_,h,i+1,r=>by
  obtain⟨v0,a,rfl,b,hl⟩:=h;exact{v0,a.set i v,rfl,b,bu.set hl i r}
def Qb(C1 C2:Addr)(tb:OG)(i:Nat):TS:=λD σ H=>tb (λσ' cv od H'=>(cv=.ref C1\/cv=.ref C2)/\D.nx (σ'.set i (some .non)) H') D σ H
end
section
variable{P:waC}{w:World}{H H':Hp}{h h':Heap}{a:Addr}{o:HO}
theorem bU.lt(x:bU P w H h a o):a<h.objs.size:=by
 cases o with
 |lst c=>obtain⟨_,_,_,_,e⟩:=x;exact wae e
 |tup c=>obtain⟨_,_,_,p⟩:=x;exact p.lt
 |dK b=>obtain⟨_,_,_,_,o,_,_,e,_⟩:=x;exact wae e
 |dT b=>obtain⟨_,_,_,_,o,_,_,e,_⟩:=x;exact wae e
 |set S n=>obtain⟨o,_,_,_,e,_⟩:=x;exact wae e
 |ins C d fs=>obtain⟨_,_,_,e,_⟩:=x;exact wae e
 |own y=>obtain⟨_,e⟩:=x;exact wae e
 |xd fs=>obtain⟨_,⟨_,_,_,e,_⟩,_⟩:=x;exact wae e
 |rng lo hi=>obtain⟨_,_,_,e⟩:=x;exact wae e
 |frz ob u=>obtain⟨e,_⟩:=x;exact wae e
 |tbl ps=>exact wae (show h.get? a=some _ from x)
 |met f y=>exact wae (show h.get? a=some _ from x)
 |ext φ=>obtain⟨_,⟨_,e⟩,_⟩:=x;exact wae e
theorem bU.uz(x:bU P w H h a o)(k:∀b u,(b=a\/H b=some (.own a))->h.get? b=some u->h'.get? b=some u)
 (I:∀b,H b=some (.own a)->H' b=some (.own a)) (J:∀b xs,H b=some (.tup xs)->H' b=some (.tup xs)):bU P w H' h' a o:=by
 induction o with
 |lst xs=>obtain⟨z,j,n,r,e⟩:=x;exact{z,j,n,r,k _ _ (.inl rfl) e}
 |tup xs=>obtain⟨z,j,r,ob,e,c⟩:=x;exact{z,j,r,ob,k _ _ (.inl rfl) e,c}
 |dK l=>obtain⟨z,y,A,r,ob,g,i,e,c⟩:=x;exact{z,y,A,r,ob,g,i,k _ _ (.inl rfl) e,c}
 |dT l=>
  obtain⟨z,y,xs,r,ob,g,i,e,c⟩:=x;exact{z,y,xs,Paired.N5 r λp q z=>{z.1,J _ _ z.2.1,z.2.2},ob,g,i,k _ _ (.inl rfl) e,c}
 |set S n=>obtain⟨ob,g,i,t,e,c⟩:=x;exact{ob,g,i,t,k _ _ (.inl rfl) e,c}
 |ins C E fs=>
  obtain⟨d,z,ne,e,m,⟨s,g,i,B,c⟩,r⟩:=x;exact{I _ d,z,ne,k _ _ (.inl rfl) e,m,{s,g,i,k _ _ (.inr d) B,c},r}
 |own y=>obtain⟨ob,e⟩:=x;exact{ob,k _ _ (.inl rfl) e}
 |xd fs=>obtain⟨m,⟨s,g,i,e,c⟩,r⟩:=x;exact{m,{s,g,i,k _ _ (.inl rfl) e,c},r}
 |rng lo hi=>obtain⟨t,u,v,e⟩:=x;exact{t,u,v,k _ _ (.inl rfl) e}
 |frz ob u D=>obtain⟨e,q⟩:=x;exact{k _ _ (.inl rfl) e,D q}
 |tbl ps=>
  have e:h.get? a=some {cls:=.none,data:=.fields ps}:=x;show h'.get? a=some {cls:=.none,data:=.fields ps};exact k a _ (.inl rfl) e
 |met f y=>
  have e:h.get? a=some (wfl (.ref f) (.ref y)):=x;show h'.get? a=some (wfl (.ref f) (.ref y));exact k a _ (.inl rfl) e
 |ext φ=>obtain⟨p,⟨o,e⟩,st⟩:=x;exact⟨st _ _ p λo q=>k _ _ (.inl rfl) q,⟨o,k _ _ (.inl rfl) e⟩,st⟩
theorem jC.lt(x:jC P w H h)(e:H a=some o):a<h.objs.size:=(x a o e).lt
theorem jC.fresh(x:jC P w H h)(e:h.objs.size<=a):H a=none:=by
 cases q:H a with
 |none=>rfl
 |some u=>exact absurd (waw (x.lt q) e) (wbm _)
theorem jC.kept(x:jC P w H h)(k:∀b u,h.get? b=some u->h'.get? b=some u):jC P w H h':=λa o e=>
 (x a o e).uz (λb u _ q=>k b u q) (λ_ q=>q) λ_ _ q=>q
theorem jC.laid(x:jC P w H h)(k:∀b u,h.get? b=some u->h'.get? b=some u)(g:h.objs.size<=a)(new:bU P w (upd H a o) h' a o):jC P w (upd H a o) h':=λb u e=>by
 have hn:=x.fresh g
 by_cases d:b=a
 .grind [a7]
 .rw[af d]at e;exact(x b u e).uz (λc v _ q=>k c v q) (λc q=>by rw[af (ag q hn)];exact q) λc f q=>by rw[af (ag q hn)];exact q
theorem M9(ok:jC P w H h)(e:Rd H a u):bU P w H h a u:=e.ok ok
theorem ku(ok:jC P w H h)(e:Rd H a (.dK kvs)):kvs.length<=sizeLine/\(a==wcb)=false/\∃vs,KV kvs vs/\h.DictOf (bx P w) a vs:=
 show bU P w H h a (.dK kvs) from M9 ok e
theorem rJ(ok:jC P w H h)(e:H a=some (.dK kvs)):kvs.length<=sizeLine/\(a==wcb)=false/\∃vs,KV kvs vs/\h.DictOf (bx P w) a vs:=ku ok (.inl e)
theorem qJ(ok:jC P w H h)(e:H a=some (.tup (g.map kV))):(wfb (bx P w)).is h g a:=by
 obtain⟨_,b,r,o,c,d,n,f⟩:=(show bU P w H h a (.tup (g.map kV)) from ok a _ e);exact{o,b.toArray,n,c,d,f,by simpa using xo r}
theorem uA(ok:jC P w H h)(e:Rd H a (.dT kvs)):kvs.length<=sizeLine/\(a==wcb)=false /\
 ∃xs,KT H kvs xs/\h.DictOfH (wfb (bx P w)) a xs:=by
 obtain⟨z,y,xs,r,o,b,c,d,f,g,i,j⟩:=(show bU P w H h a (.dT kvs) from M9 ok e);refine{z,y,xs,r,o,b,c,d,f,g,i,λx k=>?_,j}
 have all:∀{l:List (List Key×V)} {m:List (List Key×Addr×Value)},KT H l m->∀x∈m,(wfb (bx P w)).is h x.1 x.2.1:=by
  intro l m q
  induction q with
  |nil=>grind
  |@cons p q ps n s t u=>
   grind [qJ]
 exact all r x k
theorem Qc(ok:jC P w H h)(e:H a=some (.dT kvs)):kvs.length<=sizeLine/\(a==wcb)=false /\
 ∃xs,KT H kvs xs/\h.DictOfH (wfb (bx P w)) a xs:=uA ok (.inl e)
theorem i3{X:Cx}{K:wa2}(g:X.K=K):lH X (wbo .In) (RM K false):=by
 subst g;exact qH
theorem wy{X:Cx}{K:wa2}(g:X.K=K):lH X (wbo .NotIn) (RM K true):=by
 subst g;exact jD
theorem fE{X:Cx}{K:wa2}(g:X.K=K):OD X (Pt K):=by
 subst g;exact b5
end
section
variable{X:Cx}{pins:List (Addr×Obj)}{σ:List (Option V)}{H:Hp}{s:Shared}{h':Heap}
theorem Inv.lt(I:Inv X pins σ H s):X.env.locals<s.heap.objs.size:=let ⟨_,hn,_⟩:=I.loc;hn.lt
theorem Inv.sz(I:Inv X pins σ H s):X.s₀.heap.objs.size<=s.heap.objs.size:=wal I.ok.above (weN I.lt)
theorem Inv.Tu(I:Inv X pins σ H s)(h:s.heap.objs.size<=a):a∉X.fs:=λb=>by
 obtain⟨_,o,c,_⟩:=I.ok.oK.mem b;exact absurd (waw (wae c) (wal I.sz h)) (wbm _)
theorem Inv.turned{t':Nat}{it:Addr}(I:Inv X pins σ H s)(k:∀b o,b≠it->s.heap.get? b=some o->h'.get? b=some o)(hn:H it=none)(g:it≠X.env.locals)
 (j:it∈X.ex\/X.s₀.heap.objs.size<=it) (l:∀x c,X.env.cells.lookup x=some c->c≠it) (t:∀p∈X.pn++pins,p.1≠it):Inv X pins σ H {s with heap:=h',toks:=t'}:=by
 have a:∀b u,H b=some u->b≠it:=λb u e z=>by rw[z,hn]at e;cases e
 refine I.step (g':=s.gens) (d':=s.drawn) (ch:=[it]) (λb d=>?_) (λb o _ _ hc e _=>k b o (λz=>hc (by simp[z])) e) (λb o _ _ hc e _=>{o.slots,k b o (λz=>hc (by simp[z])) e}) (λ_ _ _ _ n=>n)
  (λb o hc e=>{o,k b o (λz=>hc (by simp[z])) e}) (λ_ _ e=>e) (λ_ _ _ e=>e) (λb ps e=>{#[],by rw[e];simp}) (λm f=>?_) (λb u e=>?_) I.bare
 .have e:b=it:=by simpa using d
  subst e;exact⟨j,g,l,t⟩
 .obtain⟨o,h,i,w,r⟩:=f;exact{o,h,i,k _ o (wbx g) w,r}
 .refine(I.b9 b u e).uz (λc v hc q=>k c v ?_ q) (λ_ q=>q) λ_ _ q=>q;rcases hc with z |z
  .rw[z];exact a b u e
  .exact a c _ z
theorem xE{M:Model}{A:Around}{E:Value->Shared->Prop}{i:Nat}{x:Str}{v:V}{u:Value}{Q:Unit->Shared->Prop}(I:Inv X pins σ H s)(hN:X.N.Nodup)(hi:X.N[i]?=some x)(t:Loc X.env.scope x)(r:RelV v u)
 (h:∀s',Inv X pins (σ.set i (some v)) H s'->(∃a,wfH a s.heap s'.heap/\(a=X.env.locals\/X.env.cells.lookup x=some a))->Q .unit s') (hf:X.fn x=true\/X.env.scope.names.lookup x=some .local:=by first |exact .inl rfl |exact .inr rfl |assumption):wpAny M A (storeName X.env x u) Q E s:=by
 obtain⟨m,hn,hl⟩:=id I.loc;have L:(X.env.scope.kind == .class ||(X.env.scope.kind == .module&&X.env.locals != X.env.globals))=false:=by rw[I.ok.kind];rfl
 have hiσ:i<σ.length:=by rw[I.len];exact(wa6.mp hi).1
 have N0:=I.N0
 have g:∀{a:Addr} {h':Heap},(∃o,s.heap.get? a=some o/\H a=none)->wfH a s.heap h'->jC X.prog X.w H h':=λ{a h'} ha f b ob e=>by
  obtain⟨_,_,B⟩:=ha;refine(I.b9 b ob e).uz (λc U hc q=>(f.2 c ?_).trans q) (λ_ q=>q) λ_ _ q=>q;rintro rfl;rcases hc with rfl |hc
  .rw[B]at e;cases e
  .rw[B]at hc;cases hc
 rcases t with hk |hk
 .refine wpAny_storeName_local hk hn (λh' Z f=>?_) L;obtain⟨oL,_,_,Yl,_⟩:=id hn;refine h _ {I.ok,I.os,I.bare,{λb o e n D t=>?_,λb o e n D t=>?_,I.base.free,λb o e t=>?_,I.base.uf,I.base.tF,I.base.ug},{_,Z,λj y v' l C e3=>?_},λy c e=>?_,I.free,I.j5,λp hp=>?_,g ⟨oL,Yl,I.free⟩ f,by simpa using I.len} {_,f,.inl rfl}
  .exact(f.2 b (wav (waw (wae e) I.ok.above))).trans (I.base.keep b o e n D t)
  .obtain⟨sl,l⟩:=I.base.slot b o e n D t;exact{sl,(f.2 b (wav (waw (wae e) I.ok.above))).trans l}
  .obtain⟨o',l⟩:=I.base.there b o e t;exact{o',(f.2 b (wav (waw (wae e) I.ok.above))).trans l}
  .by_cases G:j=i
   .subst G;rw[hi]at l;cases l;rw[wdr hiσ]at C;cases C;exact{u,r,.inl {hk,by simp}}
   .rw[wcU (wbx G)]at C;obtain⟨u',r',q⟩:=hl j y v' l C e3;refine{u',r',?_};rcases q with⟨k,e⟩ |⟨k,c,e,z⟩
    .refine .inl {k,?_};have:y≠x:=λe=>G (zP hN l (e ▸ hi));simp[this,e]
    .exact .inr {k,c,e,z.sameBut f (N0 y c e)}
  .obtain⟨U,z⟩:=I.cell y c e;exact{U,z.sameBut f (N0 y c e)}
  .obtain⟨e,n,ne,nf,d⟩:=I.pin p hp;exact{(f.2 p.1 ne).trans e,n,ne,nf,d}
 .have J:X.fn x=true:=by
   rcases hf with z |z
   .exact z
   .rw[z]at hk;cases hk
  obtain⟨c,hc⟩:=I.ok.has x (.inl hk);obtain⟨U,z⟩:=I.cell x c hc;refine wpAny_storeName_cell I.ok.kind hk hc z (λh' O f=>?_);obtain⟨oc,R,S⟩:=id z;refine h {s with heap:=h'} {I.ok,I.os,I.bare,{λb o e n D t=>?_,λb o e n D t=>?_,I.base.free,λb o e t=>?_,I.base.uf,I.base.tF,I.base.ug},{m,hn.sameBut f (wbx (N0 x c hc)),λj y v' l C e3=>?_},λy Y e=>?_,I.free,I.j5,λp hp=>?_,g {oc,R,I.j5 x c hc} f,by simpa using I.len} {c,f,.inr hc}
  .exact(f.2 b (wav (waw (wae e) (I.ok.MJ x c J hc)))).trans (I.base.keep b o e n D t)
  .obtain⟨sl,l⟩:=I.base.slot b o e n D t;exact{sl,(f.2 b (wav (waw (wae e) (I.ok.MJ x c J hc)))).trans l}
  .obtain⟨o',l⟩:=I.base.there b o e t;exact{o',(f.2 b (wav (waw (wae e) (I.ok.MJ x c J hc)))).trans l}
  .by_cases G:j=i
   .subst G;rw[hi]at l;cases l;rw[wdr hiσ]at C;cases C;exact{u,r,.inr {.inl hk,c,hc,O}}
   .rw[wcU (wbx G)]at C;obtain⟨u',r',q⟩:=hl j y v' l C e3;refine{u',r',?_};rcases q with q |⟨k,Y,e,z'⟩
    .exact .inl q
    .refine .inr {k,Y,e,z'.sameBut f ?_};rintro rfl;exact G (zP hN l (I.ok.inj _ _ _ e hc ▸ hi))
  .by_cases T:Y=c
   .subst T;exact{_,O}
   .obtain⟨w2,z2⟩:=I.cell y Y e;exact{w2,z2.sameBut f T}
  .obtain⟨e,n,ne,nf,d⟩:=I.pin p hp;refine{(f.2 p.1 ?_).trans e,n,ne,nf,d};intro q;rw[q,R]at e;have q':oc=p.2:=waf e;exact d U (by rw[<-q'];exact S)
theorem j7{E:Value->Shared->Prop}{Q:Unit->Shared->Prop}(I:Inv X pins σ H s)(g:X.N.Nodup)(hi:X.N[i]?=some x)(j:Loc X.env.scope x)(r:RelV v u)
 (h:∀s',Inv X pins (σ.set i (some v)) H s'->Q .unit s') (l:X.fn x=true\/X.env.scope.names.lookup x=some .local:=by first |exact .inl rfl |exact .inr rfl |assumption):wpAny M A (storeName X.env x u) Q E s:=
 xE I g hi j r (λs' a _=>h s' a) l
theorem En{P:waC}{w:World}{K:wa2}{T:Expr}(a it:Addr):Turn P w K T (OB K a) [it] it (λi h=>h.IsListIter it a i) where
 mem:=by simp
 obj:=λi h st b g=>by
  have e:b=it:=by simpa using g
  subst e;obtain⟨o,e,c,d⟩:=st;exact{o,e,λv z=>by rw[d]at z;cases z}
 keep:=λi h l st k=>st.at λo e=>k it (by simp) o e
 item:=by
  intro X q hw r hc i f s σ H E I m st t;subst q hw r;obtain⟨L,x,n,y⟩:=t;obtain⟨A,B,p,M⟩:=I.list n;obtain⟨u,N,O⟩:=B.get y;obtain⟨C,f1,f2,D,G,J⟩:=m it (by simp);refine wpAny_pyNext_list_item st p.isList (x:=u) (by simpa using N) λl j sb=>?_;have Q:Inv X f σ H {s with heap:=l}:=I.turned (t':=s.toks) (λb o g e=>(sb.2 b g).trans e) C f1 D G J;obtain⟨o,e,c,d⟩:=id j;exact{u,rfl,xi (s:={s with heap:=l}) e c d ⋯ {x,H,Q,O,{rfl,λU R=>by rw[I.j6 R n];exact y},j,λb g=>(m b g).1}}
 done:=by
   intro X q hw r hc i f s σ H E I m st t;subst q hw r;obtain⟨L,n,y⟩:=t;obtain⟨A,B,p,M⟩:=I.list n;obtain⟨C,f1,f2,D,G,J⟩:=m it (by simp);have hl:=B.length;exact wpAny_pyNext_list_end (I.ok.hd hc) st p.isList (by simp;lia) λl S=>{rfl,I.turned (t':=s.toks) (λb o g e=>S b o g e) C f1 D G J}
 self:=λ_ _ _ _ _ st h=>wpAny_pyIter_listiter st h
theorem BD{P:waC}{w:World}{K:wa2}{C:Expr}(it:Addr)(lo:Int)(n:Nat):Turn P w K C (LR lo n) [it] it (λi h=>wel h it (lo+(i:Nat)*1) ((n:Int)-(i:Nat)) 1) where
 mem:=by simp
 obj:=λi h st b c=>by
  have e:b=it:=by simpa using c
  subst e
  exact{_,st,λv z=>by
   have y:wem _=wg8 v:=z
   cases y}
 keep:=λi h f st k=>k it (by simp) _ st
 item:=by
  intro X j hw l hc i a s σ H E I g st m;subst j hw l;obtain⟨p,f1,f2,q,r,u⟩:=g it (by simp);have A:=Walks.range (prog:=X.prog) (w:=X.w) (I.ok.hd hc) it lo 1 n;refine A.item i s _ _ m st λv f x B d D=>?_;obtain⟨t,rfl⟩:=B;have G:Inv X a σ H {s with heap:=f,toks:=x}:=I.turned (λb o c e=>D b o (by simpa using c) e) p f1 q r u;refine{_,rfl,xi (s:={s with heap:=f,toks:=x}) (n:="range_iterator") d rfl rfl ⋯ {.int (lo+i),H,G,{t,?_},⟨rfl,rfl⟩,d,λb c=>(g b c).1}};rw[Int.mul_one]
 done:=by
   intro X j hw l hc i a s σ H E I g st m;subst j hw l;obtain⟨p,f1,f2,q,r,u⟩:=g it (by simp);exact wgj (I.ok.hd hc) st (by have:n<=i:=m;lia) λf J=>{rfl,I.turned (t':=s.toks) (λb o c e=>J b o c e) p f1 q r u}
 self:=λ_ _ _ _ _ st h=>wgk st h
set_option genInjectivity true in
inductive iD(K:wa2)(H:Hp):V->Value->Prop where
 |non:iD K H .non (.type "NoneType")
 |bl (x:Bool):iD K H (.bl x) (.type "bool")
 |int (i:Int):iD K H (.int i) (.type "int")
 |str (x:Str):iD K H (.str x) (.type "str")
 |flt (x:UInt64):iD K H (.flt x) (.type "float")
 |lst {a:Addr} {xs:List V} (e:H a=some (.lst xs)):iD K H (.ref a) (.type "list")
 |frz {a:Addr} {o:Obj} {xs:List V} (e:H a=some (.frz o (.lst xs))):iD K H (.ref a) (.type "list")
 |tup {a:Addr} {xs:List V} (e:H a=some (.tup xs)):iD K H (.ref a) (.type "tuple")
 |dK {a:Addr} {kvs:List (Key×V)} (e:H a=some (.dK kvs)):iD K H (.ref a) (.type "dict")
 |dT {a:Addr} {kvs:List (List Key×V)} (e:H a=some (.dT kvs)):iD K H (.ref a) (.type "dict")
 |ins {a C dx:Addr} {fs:List (Str×V)} (e:H a=some (.ins C dx fs)) (cl:zQ K C) (ha:wbj K (.ref C) "__class__"=some (some (.builtin "object.__class__")))
   (hn:whn K (.builtin "object.__class__") "__get__"=some (some (.builtin "getset_descriptor.__get__"))) (qA:PySem.W.takesIn K (.builtin "object.__class__")=some true)
   (hm:PySem.W.mroIn K C (.type "object")=some true):iD K H (.ref a) (.ref C)
end
section
variable{X:Cx}{a b:Expr}{pos:Pos}{tA RQ:TT}{rest:List Expr}
theorem BE(ha:PT X a tA)(j:PW X (.BoolOp .And (b::rest) pos) RQ):PW X (.BoolOp .And (a::b::rest) pos) (SU tA RQ):=by
 refine{?_};intro i d s σ H Q I h;refine isTrue_and (bN (ha d s σ H _ I h) λc k ⟨e,f,g⟩=>?_)
 cases c with
 |true=>exact j i d k σ e Q f g
 |false=>exact⟨e,f,g⟩
theorem ky(ha:PT X a tA)(j:PW X (.BoolOp .Or (b::rest) pos) RQ):PW X (.BoolOp .Or (a::b::rest) pos) (Y4 tA RQ):=by
 refine{?_};intro i d s σ H Q I h;refine isTrue_or (bN (ha d s σ H _ I h) λc k ⟨e,f,g⟩=>?_)
 cases c with
 |true=>exact⟨e,f,g⟩
 |false=>exact j i d k σ e Q f g
theorem jF(g:X.N.Nodup)(hi:X.N[i]?=some x)(j:Loc X.env.scope x)(l:X.fn x=true\/X.env.scope.names.lookup x=some .local:=by first |exact .inl rfl |exact .inr rfl |assumption):PG X (.Name x pos) (cK i):=by
 refine{?_};intro a s σ H v u Q I r h;exact wpAny_assign_Name (j7 I g hi j r (λc b=>{_,H,b,h}) l)
theorem uB{j e:Expr}{l:TE}{g:TG}(he:PE X e l)(p:PG X j g)(hs:swapsWithSole [j] e pos.line X.env=pure false:=by rfl)(hw:swappedStores [j] e X.env=pure none:=by rfl)
 (r:(wdE [j] X.env).map (·.2)=[assign j X.env]:=by rfl):PS X (.Assign [j] e pos) (JY l g):=by
 refine{?_};intro a s σ H D I h;refine wpAny_Assign_stores (bN (he a s σ H _ I h) λv b ⟨x,c,d,f,i⟩=>?_) hs hw;rw[r];exact bN (p a b σ c x v _ d f i) λ_ k q=>q
theorem GI{i:Nat}{x:Str}{e:Expr}{j:TE}{g:Pos}(l:X.N.Nodup)(hi:X.N[i]?=some x)(p:Loc X.env.scope x)(he:PE X e j)(hs:wcc e (some (.Name x g)) pos.line X.env=pure false:=by rfl)(r:X.fn x=true\/X.env.scope.names.lookup x=some .local:=by first |exact .inl rfl |exact .inr rfl |assumption) :
 PS X (.Assign [.Name x g] e pos) (JY j (cK i)):=by
 refine{?_};intro a s σ H D I h;refine weg (bN (he a s σ H _ I h) λv m ⟨y,b,c,d,f⟩=>?_) hs;exact j7 c l hi p d (λn k=>{_,b,k,f}) r
theorem uC{i:Nat}{x:Str}{e:Expr}{p:TE}{op:Operator}{t:Pa}{g:Pos}(C:X.N.Nodup)(hi:X.N[i]?=some x)(j:Loc X.env.scope x)(he:PE X e p)(J:RO X op t)(T:X.fn x=true\/X.env.scope.names.lookup x=some .local:=by first |exact .inl rfl |exact .inr rfl |assumption) :
 PS X (.AugAssign (.Name x g) op e pos) (Tj i p t):=by
 refine{?_};intro a s σ H D I h;obtain⟨v,o,h⟩:=h;obtain⟨m,hn,hl⟩:=I.loc;have n:P9 X.env.scope x:=by rcases j with k |k;exact .inl k;exact .inr (.inl k)
 obtain⟨u,r,l⟩:=hl i x v hi o n;refine wpAny_AugAssign_Name ?_
 have go:wpAny (model X.prog X.w) X.A (eval e X.env) (λw d=>wpAny (model X.prog X.w) X.A (inplaceOp op u w) (λr f=>wpAny (model X.prog X.w) X.A (storeName X.env x r) (λ_=>SP X a D .next) X.xe f) X.xe d) X.xe s:=by
  refine bN (he a s σ H _ I h) λw q ⟨y,B,E,G,L⟩=>?_;refine bN (J a q σ B v y u w _ E r G L) λz V ⟨Y,M,O,Q,R⟩=>?_;exact j7 O C hi j Q (λZ S=>{_,M,S,R}) T
 rcases l with⟨hk,U⟩ |⟨hk,c,hc,b⟩
 .exact wgK I.ok.kind hk hn U go
 .rcases hk with hk |hk
  .exact wh1 I.ok.kind hk hc b go
  .rcases j with k |k
   .have:X.env.scope.names.lookup x=some .free:=hk;rw[k]at this;cases this
   .have:X.env.scope.names.lookup x=some .free:=hk;rw[k]at this;cases this
theorem j8{c:Expr}{body:List Stmt}{t:TT}{C:TS}(J:PassesOwn (model X.prog X.w) X.A X.env X.xe)(hc:PT X c t)(T:wt X body C):PS X (.While c body [] pos) (N4 t C):=by
 refine{?_};intro a s σ H D I h;obtain⟨W,⟨E,G⟩,g⟩:=h;refine wpAny_While (codeAny_whileLoop (λn L=>∃i u,Inv X a i u L/\W n i u) ?_ E ⟨σ,H,I,G⟩);rintro n M ⟨e,x,O,Q⟩;refine wcO J (bN (hc a M e x _ O (g n e x Q)) λb R ⟨y,z,k⟩=>?_)
 cases b with
 |true=>
  obtain⟨N,B,k⟩:=k;rw[if_pos rfl];refine wcO J (bN (T a R e y _ z k) λf S l=>?_)
  cases f with
  |next=>
   obtain⟨d,j,m,o⟩:=l;obtain⟨p,q,r⟩:=B d j o;exact⟨p,q,d,j,m,r⟩
  |cont=>
   obtain⟨d,j,m,o⟩:=l;obtain⟨p,q,r⟩:=B d j o;exact⟨p,q,d,j,m,r⟩
  |brk=>exact l
  |ret v=>exact l
 |false=>
  rw[if_neg wan];exact wcu ⟨e,y,z,k⟩
theorem GJ(I:Inv X g σ H s)(r:RelV x v)(ty:Tp X.K T x H) :
 s.TypeIs v T/\∀a,v=.ref a->∃ob,s.heap.get? a=some ob/\ob.dict=none:=by
 cases x with
 |str z=>
  obtain⟨t,rfl⟩:=r;cases(show T="str" from ty);exact{typeIs_str s z t,λ_ e=>nomatch e}
 |int i=>
  obtain⟨t,rfl⟩:=r;cases(show T="int" from ty);exact{typeIs_int s i t,λ_ e=>nomatch e}
 |ref p=>
  cases r;rcases ty with⟨rfl,j,f⟩ |⟨rfl,o,hk,hc,hd⟩ |⟨rfl,hk⟩ |⟨rfl,S,n,hk⟩
  .obtain⟨h,_,pl,_⟩:=I.list f;refine{pl.isList.typeIs,λa e=>?_};cases e;obtain⟨o,n,e,c,hd,_⟩:=pl;exact⟨o,e,hd⟩
  .refine{{o,I.gT p o hk,hc},λa e=>?_};cases e;exact{o,I.gT _ o hk,hd}
  .have z:∃o,s.heap.get? p=some o/\o.ExactDict:=by
    rcases hk with⟨b,hk⟩ |⟨b,hk⟩
    .obtain⟨_,_,_,_,o,_,_,e,ex,_⟩:=I.b9 p _ hk;exact⟨o,e,ex⟩
    .obtain⟨_,_,_,_,o,_,_,e,ex,_⟩:=I.b9 p _ hk;exact⟨o,e,ex⟩
   obtain⟨o,e,ex⟩:=z;refine{⟨o,e,ex.1⟩,λa d=>?_};cases d;exact⟨o,e,ex.2.1⟩
  .obtain⟨o,_,_,_,e,ex,_⟩:=I.b9 p _ hk;refine{⟨o,e,ex.1⟩,λa d=>?_};cases d;exact⟨o,e,ex.2.1⟩
 |_=>exact wb3 ty
theorem forA(hi:PI X j iter l)(r:PG X j g)(I:wt X body J)(T:PassesOwn (model X.prog X.w) X.A X.env X.xe:=by exact wdh)(hc:X.calm=true:=by rfl)(hs:∀x,wbX iter X.env x=pure x:=by intro _;rfl):PS X (.For j iter body [] pos) (Q4 l g J):=GH T hc hi r I hs
end
section
variable{κ:Type}[DecidableEq κ]
noncomputable def putK(kvs:List (κ×V))(k:κ)(v:V):List (κ×V):=
 if (kvs.any λkv=>decide (kv.1=k))=true then kvs.map (λkv=>if kv.1=k then(kv.1,v) else kv) else kvs++[(k,v)]
theorem i5(k:κ):∀kvs:List (κ×V),(kvs.any λg=>decide (g.1=k))=(bC kvs k).isSome
 |[]=>rfl
 |p::r=>by
  rw[wdb]
  by_cases e:p.1=k
  .simp only[cg e,decide_eq_true e,Bool.true_or,Option.isSome_some]
  .rw[cj e,decide_eq_false e,Bool.false_or];exact i5 k r
theorem uD(kvs:List (κ×V))(k j:κ)(y:V):bC (putK kvs k y) j=if j=k then some y else bC kvs j:=by
 unfold putK
 by_cases a:(kvs.any λb=>decide (b.1=k))=true
 .rw[if_pos a,zT];rw[i5]at a
  by_cases e:j=k
  .obtain⟨x,c⟩:=wfE.mp a;rw[if_pos e,e,c,weM,if_pos rfl]
  .rw[if_neg e]
   cases bC kvs j with
   |none=>rfl
   |some x=>rw[weM,if_neg e]
 .rw[if_neg a];refine xx k j y kvs ?_;rw[i5]at a
  cases q:bC kvs k with
  |none=>rfl
  |some x=>rw[q]at a;exact(a rfl).elim
theorem gA(kvs:List (κ×V))(k:κ)(v:V):(putK kvs k v).length<=kvs.length+1:=by
 unfold putK;split
 .rw[wa0];lia
 .rw[wa5,waE,wg9];lia
theorem fF{kvs:List (κ×V)}{k:κ}(v:V)(h:bC kvs k=none):putK kvs k v=kvs++[(k,v)]:=by simp_all [putK,i5,if_neg]
theorem KV.any{kvs:List (κ×V)}{vs:List (κ×Value)}(r:KV kvs vs)(k:κ):(kvs.any λg=>decide (g.1=k))=vs.any λg=>decide (g.1=k):=by
 unfold KV at r
 induction r with
 |nil=>rfl
 |cons h t a=>rw[wdb,wdb,a,h.1]
theorem KV.put{kvs:List (κ×V)}{vs:List (κ×Value)}(r:KV kvs vs)(k:κ){y:V}{u:Value}(g:RelV y u):KV (putK kvs k y) (stored vs k u):=by
 unfold putK stored;rw[r.any k]
 by_cases e:(vs.any λa=>decide (a.1=k))=true
 .rw[if_pos e,if_pos e];exact r.repl k g
 .rw[if_neg e,if_neg e];exact Paired.snoc r ⟨rfl,g⟩
end
theorem Inv.tH{X:Cx}(I:Inv X g σ H s)(j:s.heap.objs.size<=b)(hn:l b=none):tG X g l b:=by
 refine{hn,wc4 (waw I.lt j),I.Tu j,.inr (wal I.sz j),λx c e z=>?_,λp a z=>?_}
 .obtain⟨v,q⟩:=I.cell x c e;exact absurd (waw q.lt (by rw[z];exact j)) (wbm _)
 .exact absurd (waw (wae (I.pin p a).1) (by rw[z];exact j)) (wbm _)
theorem KT.put{H:Hp}{kvs:List (List Key×V)}{xs:List (List Key×Addr×Value)}(r:KT H kvs xs)(k:List Key){b:Addr}{y:V}{u:Value}(j:H b=some (.tup (k.map kV)))(g:RelV y u) :
 KT H (putK kvs k y) (storedH xs k b u):=by
 have e:(kvs.any λa=>decide (a.1=k))=(atKey xs k).isSome:=by
  rw[i5,(r.val k).j0,wfo]
 unfold putK storedH;rw[e]
 by_cases q:(atKey xs k).isSome=true
 .rw[if_pos q,if_pos q];exact r.repl k g
 .rw[if_neg q,if_neg q];exact Paired.snoc r ⟨rfl,j,g⟩
def jG(H:Hp)(a:Addr)(y v:V)(H':Hp):Prop:=
 (∃kvs k,H a=some (.dK kvs)/\y=kV k/\kvs.length<sizeLine/\H'=upd H a (.dK (putK kvs k v))) \/
 ∃kvs k b,H a=some (.dT kvs)/\y=.ref b/\H b=some (.tup (k.map kV))/\kvs.length<sizeLine/\H'=upd H a (.dT (putK kvs k v))
theorem jG.k{H:Hp}{a:Addr}{kvs:List (Key×V)}{k:Key}{v:V}(e:H a=some (.dK kvs))(hl:kvs.length<sizeLine):jG H a (kV k) v (upd H a (.dK (putK kvs k v))):=.inl ⟨kvs,k,e,rfl,hl,rfl⟩
theorem zW{X:Cx}(I:Inv X j σ H s)(g:ee H a y o):s.TypeIs (.ref a) "dict":=by
 rcases g with⟨c,k,e,_,_⟩ |⟨c,k,b,e,_,_,_⟩
 .obtain⟨_,_,f,_,d⟩:=ku I.b9 e;exact d.typeIs
 .obtain⟨_,_,h,_,d⟩:=uA I.b9 e;exact d.typeIs
def Ma(td ty tv:TE):TS:=λD σ H=>tv σ H λv H1=>td σ H1 λx H2=>ty σ H2 λy H3=>∃a H4,x=.ref a/\jG H3 a y v H4/\D.nx σ H4
theorem zX{X:Cx}(hk:PE X k tk)(j:PE X v l)(p:RP X pos r vs g) :
 RP X pos (some k::r) (v::vs) ((tk,l)::g):={λa s σ H Q I h=>
 pairTrees_cons_walk (bN (hk a s σ H _ I h) λu b ⟨x,c,d,e,f⟩=>bN (j a b σ c _ d f) λA i ⟨y,m,n,o,q⟩=>
  bN (p a i σ m _ n q) λB C ⟨ps,t,w,rel,z⟩=>{(x,y)::ps,t,w,.cons ⟨e,o⟩ rel,z})}
noncomputable def jH(kvs more:List (Key×V)):List (Key×V):=more.foldl (λacc kv=>putK acc kv.1 kv.2) kvs
theorem KV.merge:∀{more:List (Key×V)} {rs:List (Key×Value)} {kvs:List (Key×V)} {vs:List (Key×Value)},KV more rs->KV kvs vs->KV (jH kvs more) (merged vs rs):=by
 intro more rs kvs vs r;unfold KV at r
 induction r generalizing kvs vs with
 |nil=>intro q;exact q
 |@cons p q ps c h t a=>
  intro b
  have e:KV (putK kvs p.1 p.2) (stored vs q.1 q.2):=by
   have:=b.put p.1 h.2;rw[<-h.1];exact this
  exact a e
theorem wA:∀(more kvs:List (Key×V)),(jH kvs more).length<=kvs.length+more.length:=by intro more;induction more<;>grind [putK,gA,jH,waE]
def Qe(Th:List (TE×TE)):TE:=λσ H Q=>∀p,H p=none->Bp Th σ (upd H p (.dK [])) λps H2=>H2 p=some (.dK [])/\∃kvs:List (Key×V),ps=kvs.map (λkv=>(kV kv.1,kv.2))/\kvs.length<=15/\Q (.ref p) (upd H2 p (.dK (jH [] kvs)))
theorem GK{X:Cx}(I:Inv X j σ H s)(d:T1 H a) :
 s.TypeIs (.ref a) "dict"/\(∀b,wam a=.ref b->∃ob,s.heap.get? b=some ob/\ob.dict=none)/\(a==wcb)=false:=by
 rcases d with⟨f,e⟩ |⟨f,e⟩
 .obtain⟨_,hd,i,_,c⟩:=ku I.b9 e;refine{c.typeIs,λb q=>?_,hd};cases q;obtain⟨ob,_,_,g,h,_⟩:=c;exact⟨ob,g,h.2.1⟩
 .obtain⟨_,hd,k,_,c⟩:=uA I.b9 e;refine{c.typeIs,λb q=>?_,hd};cases q;obtain⟨ob,_,_,g,h,_⟩:=c;exact⟨ob,g,h.2.1⟩
theorem GL{P:waC}{w:World}{K:wa2}{mg I:Str->Option Value}{CX:G7}{k:Nat}{fa a:Addr}{fd:wbw}{x:Str}{sp:Sp}{g:Shared}{vs:List Value}{ns:List Int}
 (KX:K.In g.heap) (p:g.heap.Ns wb2 mg) (j:g.heap.Ns builtinsNs I) (J:∀x:Str,x≠"__name__"->I x=waV x) (t:g.heap.NoLimit) (hg:g.gens=#[])
 (ha:g.heap.get? a=some {cls:=.type "list",data:=.seq vs.toArray}) (hi:IntsAre vs ns) (hl:ns.length<=sizeLine) (hr:dF k callerA)
 (F:∀base:Heap,K.In base->base.Ns wb2 mg->aS P w K mg base CX k fa fd [x] sp) (l:∀(s:Shared) (u:Value),BindsTo s fd {[u],[]} [(x,u)])
 (T:∀H:Hp,Only H->aH K H a (ns.map V.int)->sp [.ref a] H (λv _=>v=.bl true) λ_ _ _=>False)
 (U:∀H e s',CX [] H g (λ_ _ _=>False) e s'->False) :
 codeAny (model P w) callerA (.call (.ref fa) {[.ref a],[]}) (λr s'=>r=.ok (.ret (.bool true))/\OldK g.heap s'.heap/\s'.os=g.os/\AllBare s'.gens) g:=by
 have G:=xq hi;have f:=hi.length
 have core:∀H:Hp,Only H->aH K H a (ns.map V.int)->jC P w H g.heap->(∀b,H b≠none->b=a)->(H a≠none->K.lookup a=none) ->
  codeAny (model P w) callerA (.call (.ref fa) {[.ref a],[]}) (λr s'=>r=.ok (.ret (.bool true))/\OldK g.heap s'.heap/\s'.os=g.os/\AllBare s'.gens) g:=by
  intro H L O b9 M Q;have Du:∀{b:Addr} {o:Obj},g.heap.get? b=some o->H b=none->(yy g.heap H).get? b=some o:=λe n=>Gg e n
  have D:∀{b:Addr} {o:Obj} {i:Array DictEntry} {y:Nat},g.heap.get? b=some o->o.data=.dict i y->H b=none:=λ{b o i y} e d=>by
   cases q:H b with
   |none=>rfl
   |some u=>
    have E:b=a:=M b (by rw[q];simp);subst E;rw[ha]at e;cases e;have R:Data.seq vs.toArray _=Data.dict i y:=d;cases R
  have c:∀{b:Addr} {m:Str->Option Value},g.heap.Ns b m->(yy g.heap H).Ns b m:=λ{b m} ⟨o,i,y,e,d,r⟩=>{o,i,y,Du e (D e d),d,r}
  have A:K.In (yy g.heap H):=λb o e=>Du (KX b o e) (by
   cases q:H b with
   |none=>rfl
   |some u=>
    have E:b=a:=M b (by rw[q];simp);subst E
    rw[Q (by rw[q];simp)]at e;cases e)
  have S:Mod K mg (yy g.heap H):={A,c p,{I,c j,J},let ⟨X,Y,Z⟩:=t;{X,c Y,Z}};have e0:Bz P w K mg (yy g.heap H) callerA [] g H:={rfl,S,λb o e=>JK e,we2 (Eg _ _),trivial,λb j=>absurd (show b∈([]:List Addr) from j) (by simp),b9,.of_eq hg};refine wch ((F _ A (c p)).run callerA [] g H {[.ref a],[]} [.ref a] [.ref a] _ _ hr e0 (l g (.ref a)) (.cons rfl .nil) (T H L O)) λr s' h=>?_
  cases r with
  |error e=>exact(U H e s' h).elim
  |ok fl=>
   cases fl with
   |next=>exact wb3 h
   |brk=>exact wb3 h
   |cont=>exact wb3 h
   |ret u=>
    obtain⟨v,H',os,bare,un,B,r',q⟩:=h;have q':v=.bl true:=q;subst q';obtain rfl:u=wfx true:=r';refine{rfl,OldK.of_keep λb o e=>?_,os,bare}
    cases q:H b with
    |none=>exact un.keep b o e q (by intro z;exact absurd (show b∈([]:List Addr) from z) (by simp)) (by simp)
    |some u=>
     rcases L b with z |⟨ob,xs,z⟩
     .rw[q]at z;cases z
     .have z2:=un.tF b ob _ z;obtain⟨N,_⟩:=b9 b _ z;obtain⟨e2,_⟩:=B b _ z2;rw[e]at N;cases N;exact e2
 cases hk:K.lookup a with
 |some o=>
  have e:=KX a o hk;rw[ha]at e;cases e;refine core (λ_=>none) (λ_=>.inl rfl) (.inr {_,vs.toArray,_,hk,rfl,rfl,rfl,by rw[waF,f];exact hl,by simpa using G}) (λb u z=>by have C:(none:Option HO)=some u:=z;cases C) (λb z=>absurd rfl z) λz=>absurd rfl z
 |none=>
  refine core (λb=>if b=a then some (.frz {cls:=.type "list",data:=.seq vs.toArray} (.lst (ns.map V.int))) else none) (λb=>?_) (.inl (.inr {{cls:=.type "list",data:=.seq vs.toArray},if_pos rfl})) (λb u z=>?_) (λb z=>?_) λ_=>hk
  .by_cases j:b=a
   .exact .inr {_,_,if_pos j}
   .exact .inl (if_neg j)
  .by_cases j:b=a
   .have C:=(if_pos j).symm.trans z;cases C;subst j;exact{ha,by rw[wa0];exact hl,vs,_,G,ha}
   .have C:=(if_neg j).symm.trans z;cases C
  .by_cases j:b=a
   .exact j
   .exact absurd (if_neg j) z
theorem eT(g:dF k A):A.units+1<wcJ:=wbg (Nat.add_le_add_left (by decide:1<=64) _) g.units
theorem oh:∀{names:List (Str×weu)} (g:List (Str×Addr)),(∀y∈names,y.2=.free->∃c,env.cells.lookup y.1=some c)->(∀y c,g.lookup y=some c->env.cells.lookup y=some c) ->
 ∃cl:List (Str×Addr),(forIn names g (λ(x:Str×weu) p=>(match x with |(name,kind)=>if kind == .free then do let c <-cellOf env name;pure (wdi ((name,c)::p)) else pure (wdi p):Sem (ForInStep (List (Str×Addr))))))=pure cl /\
  (∀y c,cl.lookup y=some c->env.cells.lookup y=some c)/\(∀y c,g.lookup y=some c->∃j,cl.lookup y=some j)/\∀y∈names,y.2=.free->∃c,cl.lookup y.1=some c
 |[],g,_,ha=>{g,rfl,ha,λy c e=>⟨c,e⟩,λ_ h=>nomatch h}
 |(n,k)::r,g,f,ha=>by
  rw[List.forIn_cons]
  by_cases hk:k=.free
  .obtain⟨c,hc⟩:=f (n,k) wag hk;have i:(k==wcQ)=true:=by rw[hk];rfl
   obtain⟨cl,l,m,d,o⟩:=oh (env:=env) (names:=r) ((n,c)::g) (λy a=>f y (wac _ a)) (λy j e=>by
    rw[wdF]at e
    cases q:y==n with
    |true=>
     rw[q]at e;have:c=j:=waf e;subst this;have:y=n:=eq_of_beq q;subst this;exact hc
    |false=>
     rw[q]at e
     exact ha y j e)
   refine{cl,?_,m,λy j e=>?_,λy a b=>?_}
   .rw[<-l];simp only[i,if_true];have s:cellOf env n=pure c:=by unfold cellOf;rw[hc]
    rw[s];rfl
   .by_cases q:y=n
    .subst q;exact d y c (by simp[wdF])
    .refine d y j ?_;have:(y==n)=false:=beq_eq_false_iff_ne.mpr q;rw[wdF,this];exact e
   .rcases waG.mp a with rfl |a
    .exact d n c (by simp[wdF])
    .exact o y a b
  .have i:(k==wcQ)=false:=by simpa using hk
   obtain⟨cl,l,m,d,o⟩:=oh (env:=env) (names:=r) g (λy a=>f y (wac _ a)) ha;refine{cl,?_,m,d,λy a b=>?_}
   .rw[<-l];simp only[i,wc5,if_false];rfl
   .rcases waG.mp a with rfl |a
    .exact absurd b hk
    .exact o y a b
theorem nk(g:∀y∈scope.names,y.2=.free->∃c,env.cells.lookup y.1=some c) :
 ∃cl,closureFor scope env=pure cl/\(∀y c,cl.lookup y=some c->env.cells.lookup y=some c)/\∀y∈scope.names,y.2=.free->∃c,cl.lookup y.1=some c:=by
 obtain⟨cl,b,d,_,f⟩:=oh (env:=env) (names:=scope.names) [] g (λy c e=>by simp at e);refine{cl,?_,d,f};simp only[closureFor]
 first
  |(rw[b];rfl)
  |(have a:=b;simp only at a ⊢;rw[a];rfl)
  |(refine wdV (congrArg (λm=>m >>= λh=>pure h) ?_) ?_;exact pure cl;exact b;rfl)
theorem yL(g:∀y∈scope.names,y.2≠.cell)(h:(relabel scope env).names.lookup x=some .cell\/(relabel scope env).names.lookup x=some .free):∃k,(x,k)∈scope.names/\k=wcQ:=by
 unfold relabel at h;dsimp only at h
 have key:∀(names:List (Str×weu)),(∀y∈names,y.2≠.cell) ->
  ((names.map λ(n,k)=>if (k==wcQ&&env.scope.kind == .function&&env.kindOf n==some .cell) then(n,wfh) else(n,k)).lookup x=some .cell \/
   (names.map λ(n,k)=>if (k==wcQ&&env.scope.kind == .function&&env.kindOf n==some .cell) then(n,wfh) else(n,k)).lookup x=some .free)->∃k,(x,k)∈names/\k=wcQ:=by
  intro names
  induction names with
  |nil=>grind
  |cons y r a=>
   grind
 exact key scope.names g h
theorem Dv(h:nj J l g j r H Q):xD (cK 0) 1 J l g j r H Q:=
 let ⟨W,a,t⟩:=h
 {W,a,λi m d e w=>let ⟨p,q⟩:=t i m d e w;{p,q.imp id λ⟨a,b,c⟩=>{a,b,λx f k n y=>by revert k;refine iC 1 _ ?_;exact λ_=>{{[some x],rfl,rfl},c x f y}}}}
theorem uE(h:scope.names.lookup x=some .free):(relabel scope env).names.lookup x=some .cell\/(relabel scope env).names.lookup x=some .free:=by
 unfold relabel;dsimp only
 have key:∀(names:List (Str×weu)),names.lookup x=some .free ->
  ((names.map λ(n,k)=>if (k==wcQ&&env.scope.kind == .function&&env.kindOf n==some .cell) then(n,wfh) else(n,k)).lookup x=some .cell \/
   (names.map λ(n,k)=>if (k==wcQ&&env.scope.kind == .function&&env.kindOf n==some .cell) then(n,wfh) else(n,k)).lookup x=some .free):=by
  intro names
  induction names with
  |nil=>grind
  |cons y r a=>
   grind
 exact key scope.names h
theorem dJ{Ok:Hp->Prop}{Q:Hp->Prop}(p:V->Bool)(g:V->V)(T:lB J Ok xs)(hl:H l=none)(hz:xs.length<=sizeLine)(t:∀j,a8 H j->Ok j)
 (U:∀x r C,x∈xs->a8 H r->(∀j,a8 r j->C (p x) j)->tt (some x::I) r C)
 (he:∀x r C,x∈xs->p x=true->a8 H r->(∀j,a8 r j->C (g x) j)->te (some x::I) r C)
 (hd:∀j,a8 H j->j l=some (.lst ((xs.filter p).map g))->Q j):nj J l I tt te H Q:=by
 refine{λi m n d=>m=xs.length-i/\i<=xs.length/\a8 H d/\d l=some (.lst n)/\n=((xs.take i).filter p).map g,{xs.length,by simp,waq _,a8.upd hl,a7,by simp},?_};rintro i m n d ⟨rfl,hi,c,h,k⟩;refine{h,?_}
 by_cases a:i<xs.length
 .refine .inr {T.go i d (t _ c) a,?_,λx r y=>?_}
  .rw[k,wa0];refine wbg (wb6 _ _) ?_;rw[wad];omega
  .obtain⟨e,s⟩:=T.tS i d x r (t _ c) a y;subst e;have mem:x∈xs:=wa8 s;have u:xs.take (i+1)=xs.take i++[x]:=by rw[waM,s];rfl
   refine U x _ _ mem c λw f=>?_
   cases q:p x with
   |false=>
    rw[if_neg wan];refine{xs.length-(i+1),(),rfl,a,c.trans f,f _ _ h,?_};rw[u,wbB,k];simp[q]
   |true=>
    rw[if_pos rfl];refine he x _ _ mem q (c.trans f) λz v=>?_;refine{v _ _ (f _ _ h),xs.length-(i+1),(),rfl,a,?_,a7,?_}
    .intro b o e;rw[af (ag e hl)];exact v _ _ (f _ _ (c _ _ e))
    .rw[u,wbB,k];simp[q]
 .have e:i=xs.length:=();subst e;refine .inl {T.stop d (t _ c),hd d c ?_};rw[h,k,waH]
theorem GN(hk:kvs.map (·.1)=g.map (wak:Str->Key))(rel:KV kvs vs)(hl:us.length=vs.length)
 (l:∀(j:Nat) (u:Value),us[j]?=some u->∃k x,vs[j]?=some (k,x)/\(bx P w).is k u=true):StrsAre us g:=by
 have e:vs.map (·.1)=g.map (wak:Str->Key):=rel.keys ▸ hk;clear hk rel
 induction g generalizing us vs with
 |nil=>
  have:vs=[]:=by cases vs with |nil=>rfl |cons a b=>simp at e
  subst this;have:us=[]:=wfV.mp hl;subst this;exact .nil
 |cons k g i=>
  cases vs with
  |nil=>simp at e
  |cons v vs=>
   cases us with
   |nil=>simp at hl
   |cons u us=>
    rw[wat,wat]at e;injection e with m n
    obtain⟨f,x,o,p⟩:=l 0 u rfl;have c:v=(f,x):=by simpa using o
    subst c;have d:f=(wak k:Key):=m;subst d;obtain⟨t,rfl⟩:=wh0 (x:=k) (v:=u) p;exact .cons k t (i (by simpa using hl) (λj q h=>l (j+1) q (by simpa using h)) n)
theorem xF:∀{kvs:List (Key×V)} {vs:List (Key×Value)} {us:List Value},KV kvs vs->us.length=vs.length ->
 (∀(j:Nat) (u:Value),us[j]?=some u->∃k x,vs[j]?=some (k,x)/\(bx P w).is k u=true)->Vals (kvs.map λg=>kV g.1) us
 |_,_,us,.nil,hl,_=>by
  have:us=[]:=wfV.mp hl;subst this;exact .nil
 |_,_,us,.cons (a:=p) (b:=q) r t,hl,d=>by
  cases us with
  |nil=>simp at hl
  |cons u us=>
   obtain⟨f,x,l,m⟩:=d 0 u rfl;have c:q=(f,x):=by simpa using l
   subst c;refine .cons ?_ (xF t (by simpa using hl) λj n h=>d (j+1) n (by simpa using h));have e:p.1=f:=r.1;show RelV (kV p.1) u;rw[e];rcases cf m with⟨i,t,rfl,rfl⟩ |⟨y,t,rfl,rfl⟩
   .exact⟨t,rfl⟩
   .exact⟨t,rfl⟩
theorem lJ{K:wa2}{a:Addr}{xs:List V}{g:TG}{C:TS}{D:Ends}{σ:St}{H:Hp}(Pv:Nat->St->Hp->Prop)(h0:Pv 0 σ H)(hl:∀i σ H,i<=xs.length->Pv i σ H->aH K H a xs)
 (hs:∀i x σ H T,xs[i]?=some x->Pv i σ H->H T=none->g (.ref T) σ (upd H T (.tup [.int (i:Nat),x])) λj t=>C (D.lp (Pv (i+1))) j t) (hd:∀σ H,Pv xs.length σ H->D.nx σ H) :
 ∃W:Nat->Nat->St->Hp->Prop,(∃m,W 0 m σ H)/\∀i m σ H,W i m σ H ->
  ((OC K a).stop i H/\D.nx σ H)\/((OC K a).go i H/\∃N:St->Hp->Prop,(∀l r,N l r->∃I,I<m/\W (i+1) I l r)/\∀x r,(OC K a).tS i H x r->g x σ r λj t=>C (D.lp N) j t):=by
 refine{λi m σ H=>m=xs.length-i/\i<=xs.length/\Pv i σ H,{xs.length,by simp,waq _,h0},?_};rintro i m σ H ⟨rfl,hi,p⟩;have q:=hl i σ H hi p
 by_cases b:i<xs.length
 .refine .inr {{xs,xs[i],q,by simp[b]},Pv (i+1),λl r c=>{xs.length-(i+1),(),rfl,b,c},λx r y=>?_};obtain⟨T,d,f,h,k,y⟩:=y;subst h k;exact hs i d σ _ T (y xs q) p f
 .have e:i=xs.length:=();subst e;exact .inl {{xs,q,waa _},hd σ H p}
noncomputable def rK(σ:List Str)(v:Str):List Str:=if σ.any (· == v)=true then σ else σ++[v]
noncomputable def cY(val:Nat->Str)(i:Nat):List Str:=((waD i).map val).foldl rK []
theorem iF(val:Nat->Str)(i:Nat):cY val (i+1)=rK (cY val i) (val i):=by
 unfold cY;rw[wcv,wai,wfp];rfl
theorem xG(val:Nat->Str):∀i,(cY val i).length<=i
 |0=>waa _
 |i+1=>by
  rw[iF];unfold rK;have a:=xG val i;split
  .lia
  .grind
theorem Eo(σ:List Str)(v k:Str):(rK σ v).any (· == k)=(σ.any (· == k) ||decide (k=v)):=by
 unfold rK
 by_cases h:σ.any (· == v)=true
 .rw[if_pos h]
  by_cases e:k=v
  .subst e;rw[h];simp
  .simp[e]
 .rw[if_neg h,List.any_append]
  by_cases e:k=v
  .subst e;simp
  .have a:(v==k)=false:=by simpa [beq_iff_eq] using(λb:v=k=>e b.symm)
   simp[a,e]
theorem yM(σ:List Str)(v:Str):(rK σ v).length=if σ.any (· == v) then σ.length else σ.length+1:=by
 unfold rK;split<;>simp
theorem BF{X:Cx}(g:X.env.scope=l)(r:X.N=N)(h:o9 l scope N x ys p=true):bS X scope x ys p:=by
 unfold o9 at h;simp only[wbc]at h;obtain⟨⟨⟨⟨⟨⟨⟨b,d⟩,f⟩,k⟩,m⟩,n⟩,o⟩,s⟩:=h;refine{?_,λy a=>?_,λy a e=>?_,of_decide_eq_true m,λy a e=>?_,of_decide_eq_true n,of_decide_eq_true o,λj y c=>?_}
 .cases e:scope.kind<;>rw[e]at b<;>first |rfl |cases b
 .have:=waR.mp d y a;simpa using this
 .have:=waR.mp f y a;simpa [e] using this
 .have:=waR.mp k y a;have q:l.names.lookup y.1=some .cell\/l.names.lookup y.1=some .free:=by simpa [e] using this
  show X.env.scope.names.lookup y.1=some .cell\/X.env.scope.names.lookup y.1=some .free;rw[g];exact q
 .have hl:j<ys.length:=(wa6.mp c).1;have:=waR.mp s j (wb7.mpr hl);rw[c]at this
  cases e:p[j]? with
  |none=>rw[e]at this;cases this
  |some i=>
   rw[e]at this;simp only[wbc,weO,decide_eq_true_eq]at this;exact{i,rfl,by rw[r];exact this.1.1,by rw[g];exact this.1.2,this.2}
noncomputable def kz(ks:List Str):List (Key×V):=ks.map λk=>((wak k:Key),V.bl true)
theorem BG(g:List Str):(kz g).map (·.1)=g.map (wak:Str->Key):=by
 unfold kz;rw[wah];rfl
theorem Ep(g:List Str):(kz g).length=g.length:=by unfold kz;rw[wa0]
noncomputable def lK(es:List (Key×V))(N7:List Str):Bool:=(es.map (·.2)).any λe=>oP e (N7.map V.str)
theorem GO{e:V}{a b:List Str}(h:∀k∈a,k∈b)(q:oP e (a.map V.str)=true):oP e (b.map V.str)=true:=by grind [oP]
theorem BH{g:List (Key×V)}{a b:List Str}(h:∀k∈a,k∈b)(q:lK g a=true):lK g b=true:=by
 unfold lK at q ⊢;obtain⟨y,c,d⟩:=wbN.mp q;exact wbN.mpr {y,c,GO h d}
structure Qf(ks:List Str)(es:Str->List (Key×V))(ls:List Str):Prop where
 sub:ls.Sublist ks
 Er:∀k∈ls,lK (es k) ls=true
 most:∀N7:List Str,(∀k∈N7,k∈ks/\lK (es k) N7=true)->∀k∈N7,k∈ls
theorem gZ(h:k∈mv.map (·.1)):∃a,(k,a)∈mv/\bC (ck mv) (wak k:Key)=some (.ref a):=by
 induction mv with
 |nil=>simp at h
 |cons m mv b=>
  grind [cg,ck,cj]
theorem uF{Ok:Hp->Prop}{Q:Hp->Prop}(R:V->Prop)(r:lB J Ok xs)(hl:H l=none)(C:xs.length<=sizeLine)(j:∀g,a8 H g->Ok g)
 (he:∀x p I,x∈xs->a8 H p->(∀y g,R y->a8 p g->I y g)->T (some x::t) p I)
 (hd:∀ys g,a8 H g->ys.length=xs.length->(∀y∈ys,R y)->g l=some (.lst ys)->Q g):nj J l t wx T H Q:=by
 refine{λi m ys a=>m=xs.length-i/\i<=xs.length/\a8 H a/\a l=some (.lst ys)/\ys.length=i/\∀y∈ys,R y,{xs.length,by simp,waq _,a8.upd hl,a7,rfl,λy f=>(nomatch f)},?_};rintro i m ys a ⟨rfl,hi,d,h,k,n⟩;refine{h,?_}
 by_cases c:i<xs.length
 .refine .inr {r.go i a (j _ d) c,by lia,λx p y=>?_};obtain⟨e,u⟩:=r.tS i a x p (j _ d) c y;subst e;unfold wx;dsimp only;rw[if_pos rfl];refine he x _ _ (wa8 u) d λz v C s=>?_;refine{s _ _ h,xs.length-(i+1),by lia,rfl,c,?_,a7,by simp[k],λy f=>?_}
  .intro b o e;rw[af (ag e hl)];exact s _ _ (d _ _ e)
  .rcases wax.mp f with q |q
   .exact n y q
   .have:y=z:=by simpa using q
    subst this;exact C
 .have e:i=xs.length:=by lia
  subst e;exact .inl {r.stop a (j _ d),hd ys a d k n h}
noncomputable def roundF(ss:List Str)(es:Str->List (Key×V))(N7:List Str):List Str:=ss.filter λp=>lK (es p) N7
noncomputable def rounds(ss:List Str)(es:Str->List (Key×V)):Nat->List Str
 |0=>ss
 |n+1=>roundF ss es (rounds ss es n)
theorem Jy.low{lo j:Nat}{H:Hp}{h:Heap}{e C:Addr}{l:Option Addr}(F:Jy lo H h e C l)(hl:j<=lo):Jy j H h e C l:=by
 obtain⟨g,n,i,sl,k,m,f⟩:=F;refine{wal hl g,n,i,sl,k,m,?_};rcases f with f |⟨T,o,p,a,b,c,d⟩
 .exact .inl f
 .exact .inr {T,o,p,a,wal hl b,c,d}
theorem xH{X:Cx}(g:Ds X E):Passes (Bj X.prog X.w) X E:=λa σ H s k d I h=>by
 obtain⟨e,C,f,i,rfl,c,bare,un,b9,F,j⟩:=h;exact g a σ i d e C f (I.xC c un b9 bare λb z=>absurd z (by simp)) (F.low I.sz) j
theorem BI{X:Cx}(I:Inv X g σ H s)(e:H d=some (.frz o (.dK kvs)))(j:o.data=.dict p ep) :
 ∃vs,KV kvs vs/\s.heap.DictAt (bx X.prog X.w) d vs ep:=by
 obtain⟨f,_⟩:=I.b9 d _ e;obtain⟨_,_,vs,rel,h,a,i,b,k,c,l⟩:=ku I.b9 (.inr ⟨o,e⟩);refine{vs,rel,h,a,b,k,?_,l};rw[f]at b;cases b;rw[c]at j;cases j;exact c
theorem ee.f{H:Hp}{a:Addr}{o:Obj}{kvs:List (Key×V)}{k:Key}(e:H a=some (.frz o (.dK kvs))):ee H a (kV k) (bC kvs k):=.inl {kvs,k,.inr ⟨o,e⟩,rfl,rfl}
noncomputable def qK(f:Str->V)(ks:List Str):List (Key×V):=ks.map λp=>((wak p:Key),f p)
theorem uG(f:Str->V)(h:k∈g):bC (qK f g) (wak k:Key)=some (f k):=by
 induction g with
 |nil=>simp at h
 |cons j g a=>
  by_cases e:j=k
  .subst e;exact cg rfl
  .unfold qK;rw[wat,cj (λz=>e (wcf z))];exact a (by grind)
theorem zY(f:Str->V)(g:List Str):(qK f g).length=g.length:=by unfold qK;rw[wa0]
theorem xI(f:Str->V)(g:List Str)(k:Str):qK f (g++[k])=qK f g++[((wak k:Key),f k)]:=by unfold qK;rw[wai];rfl
noncomputable def K3(f:Str->Int):V->V:=λv=>match v with
 |.str z=>.int (f z)
 |_=>.non
theorem qL(f:Str->Int)(g:List Str):(g.map V.str).map (K3 f)=(g.map f).map V.int:=by
 rw[wah,wah];rfl
theorem zZ{R:It->Hp->Prop}(h:g d=some (.dK kvs)\/∃o,g d=some (.frz o (.dK kvs)))
 (k:∀o j,j d=some (.frz o (.dK kvs))->(∀c,c≠d->j c=g c)->R (JX d o kvs) j) :
 (g d=some (.dK kvs)/\∀o,R (JX d o kvs) (upd g d (.frz o (.dK kvs))))\/∃o,g d=some (.frz o (.dK kvs))/\R (JX d o kvs) g:=by
 rcases h with h |⟨o,h⟩
 .exact .inl {h,λo=>k o _ a7 λc hc=>af hc}
 .exact .inr {o,h,k o _ h λc _=>rfl}
theorem bc.keep(t:bc H rs g)(k:∀r xs,H r=some (.tup xs)->j r=some (.tup xs)):bc j rs g:={t.1,λi r xs a b=>k _ _ (t.2 i r xs a b)}
theorem ee.rd{H:Hp}{a:Addr}{kvs:List (Key×V)}{k:Key}(e:Rd H a (.dK kvs)):ee H a (kV k) (bC kvs k):=.inl ⟨kvs,k,e,rfl,rfl⟩
theorem Es(h:uj kvs=true)(e:bC kvs k=some v):dQ v=true:=by
 unfold bC at e
 cases q:kvs.find? λa=>decide (a.1=k) with
 |none=>rw[q]at e;cases e
 |some a=>
  rw[q]at e;have:=waR.mp h a (List.mem_of_find?_eq_some q);cases e;exact this
theorem uH{Ok:Hp->Prop}{Q:Hp->Prop}(R:Nat->V->Hp->Prop)(C:∀i y I g ys,R i y I->I l=some (.lst ys)->(∀b o,I b=some o->b≠l->g b=some o)->R i y g)(T:lB J Ok xs)(hl:H l=none)(hz:xs.length<=sizeLine)(r:∀p,a8 H p->Ok p)
 (he:∀i x t ys Q',xs[i]?=some x->a8 H t->t l=some (.lst ys)->(∀y p,a8 t p->R i y p->Q' y p)->te (some x::U) t Q')
 (hd:∀ys p,a8 H p->p l=some (.lst ys)->ys.length=xs.length->(∀i y,ys[i]?=some y->R i y p)->Q p):nj J l U wx te H Q:=by
 refine{λi m a g=>m=xs.length-i/\i<=xs.length/\a8 H g/\g l=some (.lst a)/\a.length=i/\∀j y,a[j]?=some y->R j y g,{xs.length,by simp,waq _,a8.upd hl,a7,rfl,λj y h=>by simp at h},?_};rintro i m a g ⟨rfl,hi,f,k,c,B⟩;refine{k,?_}
 by_cases d:i<xs.length
 .refine .inr {T.go i g (r _ f) d,by rw[c];lia,λx t y=>?_};obtain⟨e,D⟩:=T.tS i g x t (r _ f) d y;subst e;unfold wx;dsimp only;rw[if_pos rfl];refine he i x _ a _ D f k λy s u v=>{u _ _ k,xs.length-(i+1),by lia,rfl,d,λb o e=>?_,a7,by rw[wa5,c];rfl,λj z n=>?_}
  .rw[af (ag e hl)];exact u _ _ (f _ _ e)
  .have q:=u _ _ k;have kp:∀b o,s b=some o->b≠l->(upd s l (.lst (a++[y]))) b=some o:=λb o e E=>by rw[af E];exact e
   by_cases w:j<a.length
   .rw[waA w]at n;exact C j z s _ _ (C j z _ _ _ (B j z n) k λb o e _=>u _ _ e) q kp
   .rw[waB (by lia)]at n
    have A:j-a.length=0:=by
     have:=(wa6.mp n).1;simp at this
     lia
    rw[A]at n;cases n;have:j=i:=by lia
    rw[this];exact C i y s _ _ v q kp
 .have e:i=xs.length:=by lia
  subst e;exact .inl {T.stop g (r _ f),hd a g f k c B}
theorem oi{α:Type}(p:Nat->Bool)(x:α):∀(k:Nat) (xs:List α),bp p k (xs++[x])=bp p k xs++(if p (k+xs.length) then[x] else[])
 |k,[]=>by
  show (if p k then x::[] else[])=[]++_;rw[wdR];rfl
 |k,y::xs=>by
  have e:k+(y::xs).length=k+1+xs.length:=by grind
  rw[e];show (if p k then y::bp p (k+1) (xs++[x]) else bp p (k+1) (xs++[x]))=(if p k then y::bp p (k+1) xs else bp p (k+1) xs)++_;rw[oi p x (k+1) xs];cases p k<;>rfl
theorem mR{α:Type}(p:Nat->Bool):∀(k:Nat) (xs:List α),(bp p k xs).length<=xs.length
 |_,[]=>waa _
 |k,x::xs=>by
  have:=mR p (k+1) xs;show (if p k then x::bp p (k+1) xs else bp p (k+1) xs).length<=xs.length+1
  cases p k with
  |true=>grind
  |false=>grind
theorem xJ{α β:Type}(f:α->β)(p:Nat->Bool):∀(k:Nat) (xs:List α),bp p k (xs.map f)=(bp p k xs).map f
 |_,[]=>rfl
 |k,x::xs=>by
  show (if p k then f x::bp p (k+1) (xs.map f) else bp p (k+1) (xs.map f))=(if p k then x::bp p (k+1) xs else bp p (k+1) xs).map f;rw[xJ f p (k+1) xs];cases p k<;>rfl
theorem bu.pick{K:wa2}{H:Hp}(p:Nat->Bool):∀(k:Nat) (g:List jE) (xs:List V),bu K H g xs->bu K H (bp p k g) (bp p k xs)
 |_,[],xs,h=>by
  have e:xs=[]:=h;subst e;rfl
 |k,d::g,_,h=>by
  obtain⟨v,a,rfl,c,hl⟩:=h;have b:=bu.pick p (k+1) g a hl;show bu K H (if p k then d::bp p (k+1) g else bp p (k+1) g) (if p k then v::bp p (k+1) a else bp p (k+1) a)
  cases p k with
  |true=>exact{v,_,rfl,c,b}
  |false=>exact b
theorem under(n:Nat){P:Int->Prop}(h:∀k:Fin n,P ((k.val:Nat):Int))(d:Int)(a:0<=d)(b:d<(n:Int)):P d:=by
 obtain⟨k,rfl⟩:=wfW a;exact h {k,Int.ofNat_lt.mp b}
theorem aw{X:Cx}(ys:List Str)(ix:List Nat)(h:o9 X.env.scope scope X.N x ys ix=true:=by kernel_rfl):bS X scope x ys ix:=BF rfl rfl h
inductive Tv(a:Addr)(y z:V)(H:Hp)(Q:VK):Prop
 |mk (kvs k) (_:H a=some (.dK kvs)) (_:y=kV k) (_:(putK kvs k z).length<=sizeLine) (_:∀v,bC kvs k=some v->Q v H) (_:bC kvs k=none->Q z (upd H a (.dK (putK kvs k z))))
def Qg(td ty tx:TE):TE:=λσ H Q=>td σ H λx H1=>∃a,x=.ref a/\T1 H1 a/\ty σ H1 λy H2=>tx σ H2 λz H3=>Tv a y z H3 Q
theorem Dw{f:Nat->Int}{k:Int}:∀n,(∀i,i<n+1->f i=k)->firstMet f (n+1)=[k]
 |0,h=>by rw[firstMet_succ,firstMet_zero,h 0 ()];rfl
 |n+1,h=>by
  rw[firstMet_succ,Dw n λi hi=>h i (),h (n+1) ()];simp[step_dedup]
section
variable{X:Cx}{st:Stmt}{rest:List Stmt}{t u:TS}
def N8(t u:TS):TS:=λD σ H=>t (D.M4 (u D)) σ H
theorem a6(g:PS X st t)(j:wt X rest u):wt X (st::rest) (N8 t u):=by
 refine{?_};intro a s σ H D I h;refine wd0 (bN (g a s σ H (D.M4 (u D)) I h) λf c q=>?_)
 cases f with
 |next=>
  obtain⟨b,d,e,q⟩:=q;exact j a c b d D e q
 |ret v=>exact q
 |brk=>exact q
 |cont=>exact q
theorem ae(g:PS X st t):wt X [st] t:=by
 refine{?_};intro a s σ H D I h;refine wd0 (bN (g a s σ H D I h) λf b q=>?_)
 cases f with
 |next=>exact wcu q
 |ret v=>exact q
 |brk=>exact q
 |cont=>exact q
def Tw(c:TT)(t u:TS):TS:=λD σ H=>c σ H λb H1=>if b=true then t D σ H1 else u D σ H1
theorem GP(l:X.A.units<wcJ):lH X (wbo .Eq) (Td X.K):=by
 intro m s σ H x y v u Q I C D h;obtain⟨a,b,f,g,rfl,rfl,ha,E,G,J,q⟩:=h;cases C;cases D;obtain⟨d,n,o,_⟩:=I.list ha;obtain⟨c,p,r,_⟩:=I.list E;have L:=n.length;have U:=p.length
 by_cases hl:f.length=g.length
 .refine whZ (e:=λj=>rG (f.getD j .non) (g.getD j .non)) o.isList r.isList (by simp only[waF];lia) l (λj M N=>?_) ?_
  .have i:j<d.length:=by simpa using M
   have k:j<c.length:=by simpa using N
   have t:f[j]?=some (f.getD j .non):=by rw[wa4];simp[show j<f.length by lia]
   have w:g[j]?=some (g.getD j .non):=by rw[wa4];simp[show j<g.length by lia]
   obtain⟨O,z,R⟩:=n.get t;obtain⟨S,B,T⟩:=p.get w
   have g1:d.toArray[j]=O:=by
    have:d[j]?=some d[j]:=by simp[i]
    rw[this]at z;simpa using waf z
   have g2:c.toArray[j]=S:=by
    have:c[j]?=some c[j]:=by simp[k]
    rw[this]at B;simpa using waf B
   rw[g1,g2];exact Bv R T (waR.mp G _ (wa8 t)) (waR.mp J _ (wa8 w))
  .rw[uo hl]at q;refine{.bl _,H,I,rfl,?_};rw[waF,<-L];exact q
 .refine SeqAt.eq_list_lengthsAt o.isList r.isList (by simp only[waF,bne_iff_ne];lia) l {.bl false,H,I,rfl,?_};rw[GC hl]at q;exact q
inductive Tx(t u:TS)(D:Ends)(σ:St)(H:Hp):Prop
 |mk (Z) (_:t (D.M4 Z) σ H) (_:∀σ' H',Z σ' H'->u D σ' H')
theorem K4(g:PS X st t)(j:wt X rest u):wt X (st::rest) (Tx t u):=by
 refine{?_};intro a s σ H D I h;obtain⟨Z,d,e⟩:=h;refine wd0 (bN (g a s σ H (D.M4 Z) I d) λf i q=>?_)
 cases f with
 |next=>
  obtain⟨b,c,k,q⟩:=q;exact j a i b c D k (e b c q)
 |ret v=>exact q
 |brk=>exact q
 |cont=>exact q
theorem N9(I:Inv X g σ H s)(h:H a=some (.dK [])):∃o ep,s.heap.get? a=some o/\o.cls=.type "dict"/\o.data=.dict #[] ep/\(a==wcb)=false:=by
 obtain⟨_,e,m,rel,o,c,ep,f,i,j,k⟩:=(show bU X.prog X.w H s.heap a (.dK []) from I.b9 a _ h);cases rel;have d:=k.2.1
 have:c=#[]:=wev.mp (by
  cases l:c.toList with
  |nil=>rfl
  |cons a b=>rw[l]at d;cases d)
 subst this;exact⟨o,ep,f,i.1,j,e⟩
end
section
variable{X:Cx}{pins:List (Addr×Obj)}{σ:St}{H:Hp}{s:Shared}{E:Value->Shared->Prop}
theorem Inv.o1(I:Inv X pins σ H s)(E:Value->Shared->Prop):Inv (X.o1 E) pins σ H s:={I.ok.o1 E,I.os,I.bare,I.base,I.loc,I.cell,I.free,I.j5,I.pin,I.b9,I.len}
theorem Inv.gi(I:Inv (X.o1 E) pins σ H s):Inv X pins σ H s:=⟨I.ok.gi,I.os,I.bare,I.base,I.loc,I.cell,I.free,I.j5,I.pin,I.b9,I.len⟩
theorem SP.gi(h:SP (X.o1 E) pins D f s'):SP X pins D f s':=by
 cases f with
 |next=>obtain⟨a,b,I,q⟩:=h;exact⟨a,b,I.gi,q⟩
 |brk=>obtain⟨a,b,I,q⟩:=h;exact⟨a,b,I.gi,q⟩
 |cont=>obtain⟨a,b,I,q⟩:=h;exact⟨a,b,I.gi,q⟩
 |ret u=>obtain⟨v,a,b,I,r,q⟩:=h;exact⟨v,a,b,I.gi,r,q⟩
theorem wt.LQ{st:List Stmt}{t:TS}(h:wt X.LQ st t):wt X st t:={λpins s σ H D I hw=>
 wb8 (h pins s σ H D (I.o1 _) hw) (λ_ _ q=>q.gi) λ_ _ z=>wb3 z}
theorem Inv.K5(I:Inv X pins σ H s):Bz X.prog X.w X.K X.mg X.base X.A X.stack s H:=
 {I.ok.frames,I.ok.mod,I.bs,wal I.ok.Gh I.sz,I.stack,I.tX,I.b9,I.bare}
theorem Inv.fresh(I:Inv X pins σ H s):H s.heap.objs.size=none:=I.b9.fresh (waa _)
theorem Inv.big(I:Inv X pins σ H s):wcb<s.heap.objs.size:=by
 have h:wb2<s.heap.objs.size:=(I.mod.glob.keeps I.bk).lt;exact Nat.lt_trans ⋯ h
end
section
variable{X:Cx}{e:Expr}{es:List Expr}{te:TE}{t:TJ}{pos:Pos}
theorem bj(he:PE X e te)(hs:wcc e none pos.line X.env=pure false:=by rfl):PS X (.Expr e pos) (Q3 te):=by
 refine{?_};intro a s σ H D I h;exact wpAny_Expr_any (bN (he a s σ H _ I h) λv f ⟨x,b,c,g,d⟩=>⟨σ,b,c,d⟩) I.quiet hs
theorem ay(he:PE X e te):PS X (.Return (some e) pos) (Tn te):=by
 refine{?_};intro a s σ H D I h;exact wpAny_Return_some (bN (he a s σ H _ I h) λv g ⟨x,b,c,d,f⟩=>⟨x,σ,b,c,d,f⟩)
theorem aV(h:PE X e te):PO X (some e) (Pq te):=by
 refine{?_};intro a s σ H Q I hw;rw[evalPart_some];refine bN (h a s σ H _ I hw) λu g ⟨x,b,c,d,f⟩=>?_;obtain⟨i,rfl,q⟩:=f;obtain⟨t,rfl⟩:=d;exact{some i,b,c,.int i t,q}
noncomputable def Tz(z:Str)(t:TJ):TJ:=λacc σ H Q=>(acc++z).length<=sizeLine/\t (acc++z) σ H Q
noncomputable def TB(te:TE)(t:TJ):TJ:=λacc σ H Q=>te σ H λv H1=>(∃i,v=.int i/\i.natAbs.log2<1920/\(acc++(toString i:String)).length<=sizeLine/\t (acc++(toString i:String)) σ H1 Q)\/(∃z,v=.str z/\z.length<=sizeLine/\(acc++z).length<=sizeLine/\t (acc++z) σ H1 Q)
theorem K6(h:PJ X (e::g::es) t):PE X (.JoinedStr (e::g::es) pos) (λσ H Q=>t Str.empty σ H λz j=>Q (.str z) j):={λa s σ H Q I q=>
 JoinedStr_many (bN (h a s σ H _ _ I q) λu f ⟨z,b,c,r,d⟩=>{.str z,b,c,r,d})}
theorem AP.gi{E:Value->Shared->Prop}{Q:List V->Hp->Prop}(h:AP (X.o1 E) g σ Q us s'):AP X g σ Q us s':=by
 obtain⟨a,b,I,r,q⟩:=h;exact⟨a,b,I.gi,r,q⟩
end
section
variable{M:Model}{A:Around}{E:Value->Shared->Prop}{s:Shared}{base:Heap}{env:Env}{outer:List Env}{L e C:Addr}{od:Option Addr}{lo:Nat}{H:Hp}
structure Et(lo:Nat)(H:Hp)(fs:List Addr)(h h':Heap):Prop where
 keep:∀b o,h.get? b=some o->(b<lo\/H b≠none)->b∉fs->h'.get? b=some o
 slot:∀b o,h.get? b=some o->b∈fs->∃sl,h'.get? b=some {o with slots:=sl}
theorem xK{Q:Unit->Shared->Prop}
 (Qh:A.frames=some (env::outer)) (hl:s.heap.FunFrames base (env::outer)) (hf:env.frame=some L) (Mb:lo<=s.heap.objs.size) (Qi:∀b,s.heap.objs.size<=b->H b=none) (Qj:lo<=e) (VM:H e=none)
 (he:s.heap.get? e=some oe) (zL:oe.cls=.ref C) (VN:oe.dict=od) (hd:oe.data=.fields vs) (hsz:1<vs.size)
 (h:∀h',Jy lo H h' e C od->Et lo H ((env::outer).filterMap (·.frame)) s.heap h'->Q .unit {s with heap:=h'}) :
 wpAny M A (do let a <-frameOf env;let pl <-entryPlaceOf L RT;let b <-wh2 head a .none (rawInt L) .none pl;setField (.ref e) 1 b) (λ_ s'=>wpAny M A (wga (.ref e) none) Q E s') E s:=by
 have Qk:e∉(env::outer).filterMap (·.frame):=λhm=>by
  obtain⟨_,o,ho,TC⟩:=hl.mem hm;rw[he]at ho;injection ho with ho;subst ho;exact TC vs hd
 refine wa7 (wpAny_frameOf_fun Qh hl hf λh₁ Ql=>?_);refine wa7 (wpAny_entryPlaceOf λpl hpl=>?_);unfold wh2 newFields;refine wa7 (wfq ?_ (hpl.sizeOk5 _ _ _ _ _));have VO:h₁.get? e=some oe:=(Ql.2.1 e Qk).trans he;have VP:=wa9 (h:=h₁) {cls:=.type "traceback",dict:=none,data:=.fields ([head,.ref L,.none,rawInt L,.none]++(if pl.isEmpty then waj 6 wbF else pl)).toArray} VO;refine wf7 VP hd hsz ?_;have TF:h₁.objs.size≠e:=wc4 (wae VO);have VQ:=wdj hd (·.setIfInBounds 1 (wam h₁.objs.size));have VR:=wbG (wdc (·.setIfInBounds 1 (wam h₁.objs.size))) VP (weA VQ)
 have VS:=(waO (h₁.push {cls:=.type "traceback",dict:=none,data:=.fields ([head,.ref L,.none,rawInt L,.none]++(if pl.isEmpty then waj 6 wbF else pl)).toArray})
  (wdc (·.setIfInBounds 1 (wam h₁.objs.size))) (wbx TF)).trans (wap h₁ rfl)
 unfold wga;refine wa7 (wen VR VQ (x:=.ref h₁.objs.size) (by simp[hsz]) ?_);rw[if_pos (show (wam h₁.objs.size != wbF)=true from by simp)];refine wf7 VS rfl (by simp only[waF,wa5,waE,wg9]<;>lia) (h _ ?_ ?_)
 .refine{Qj,VM,vs.setIfInBounds 1 (.ref h₁.objs.size),oe.slots,?_,by simpa using hsz,.inr {h₁.objs.size,_,_,by simp[hsz],by rw[Ql.1];exact Mb,Qi _ (by rw[Ql.1];exact waa _),TF,
   wbG _ VS (weA (wdj rfl _)),wdj rfl _,by first |(simp;done) |(rcases hpl with rfl |⟨_,_,_,_,_,_,_,rfl⟩<;>simp)}}
  rw[waO _ _ TF,VR];obtain⟨c,d,dt,sl⟩:=oe;dsimp only at zL VN hd;subst zL VN hd;rfl
 .have keep:∀b o,b≠e->h₁.get? b=some o ->
   (((h₁.push {cls:=.type "traceback",dict:=none,data:=.fields ([head,.ref L,.none,rawInt L,.none]++(if pl.isEmpty then waj 6 wbF else pl)).toArray}).update e (wdc (·.setIfInBounds 1 (wam h₁.objs.size)))).update h₁.objs.size
     (wdc (·.setIfInBounds 3 ((none:Option Addr).elim wbF λf=>rawInt f)))).get? b=some o:=λb o Ym hb=>by
   have Yn:h₁.objs.size≠b:=wc4 (wae hb);rw[waO _ _ Yn,waO _ _ (wbx Ym)];exact wa9 _ hb
  refine{λb o hb hx TC=>keep b o ?_ ((Ql.2.1 b TC).trans hb),λb o hb hm=>?_}
  .rintro rfl;rcases hx with hx |hx
   .exact absurd (waw hx Qj) (wbm _)
   .exact hx VM
  .obtain⟨sl,hs⟩:=Ql.2.2 b o hb;exact{sl,keep b _ (λz=>Qk (z ▸ hm)) hs}
theorem A0{Q:Unit->Shared->Prop}(p:A.frames=some (env::outer))(hl:s.heap.FunFrames base (env::outer))(I:env.frame=some L)(r:lo<=s.heap.objs.size)(g:∀b,s.heap.objs.size<=b->H b=none)
 (F:Jy lo H s.heap e C od) (h:∀h',Jy lo H h' e C od->Et lo H ((env::outer).filterMap (·.frame)) s.heap h'->Q .unit {s with heap:=h'}) :
 wpAny M A (noteFrame (.ref e) env) (λ_ s'=>wpAny M A (wga (.ref e) none) Q E s') E s:=by
 obtain⟨m,n,z,sl,v,t,k⟩:=F;unfold noteFrame;simp only[I];rcases k with k |⟨T,N,B,G,u,x,y,w,i,k⟩
 .refine wa7 (wen v rfl k ?_);rw[if_neg ⋯];exact xK p hl I r g m n v rfl rfl rfl t h
 .refine wa7 (wen v rfl G ?_);rw[if_pos (show (wam T != wbF)=true from by simp)];refine wa7 (wen w i k ?_);rw[if_neg (show ¬((wbF==rawInt L)=true) from by simp[rawInt])];refine wa7 (wf7 w i (wfi.mp k).1 ?_);have other:∀b,b≠T->(s.heap.update T (wdc (·.setIfInBounds 3 wbF))).get? b=s.heap.get? b:=λb a=>waO _ _ (wbx a)
  have c:∀b o,s.heap.get? b=some o->(∀z,o.data≠.fields z)->b≠T:=λb o a d q=>by
   rw[q,w]at a;injection a with a;subst a;exact d B i
  have f:(s.heap.update T (wdc (·.setIfInBounds 3 wbF))).objs.size=s.heap.objs.size:=Heap.size_after_update ..;refine xK (s:={s with heap:=s.heap.update T (wdc (·.setIfInBounds 3 wbF))}) p (hl.of_keeps λb o a d=>{o,(other b (c b o a d)).trans a,rfl}) I (by show lo<=_;rw[f];exact r) (λb a=>g b (by rw[<-f];exact a)) m n ((other e (wbx y)).trans v) rfl rfl rfl t λh' J P=>h h' J {λb o a l hn=>P.keep b o ((other b ?_).trans a) l hn,λb o a D=>P.slot b o ((other b ?_).trans a) D}
  .rintro rfl;rcases l with l |l
   .exact absurd (waw l u) (wbm _)
   .exact l x
  .rintro rfl;obtain⟨_,O,j,d⟩:=hl.mem D;rw[w]at j;injection j with j;subst j
   exact d B i
theorem uI{Q:Unit->Shared->Prop}(F:Jy lo H s.heap e C od)(h:∀h',Jy lo H h' e C od->(∀b o,s.heap.get? b=some o->(b<lo\/H b≠none)->h'.get? b=some o)->Q .unit {s with heap:=h'}) :
 wpAny M A (wga (.ref e) none) Q E s:=by
 obtain⟨g,i,p,sl,n,j,f⟩:=F;unfold wga;rcases f with f |⟨T,v,u,r,a,k,l,t,d,f⟩
 .refine wa7 (wen n rfl f ?_);rw[if_neg ⋯];exact waz (h _ {g,i,p,sl,n,j,.inl f} λb o q _=>q)
 .have c:3<u.size:=(wfi.mp f).1;refine wa7 (wen n rfl r ?_);rw[if_pos (show (wam T != wbF)=true from by simp)];refine wf7 t d c (h _ {g,i,p,sl,?_,j,.inr {T,_,_,r,a,k,l,wbG _ t (weA (wdj d _)),wdj d _,by simp[c]}} λb o q m=>?_)
  .exact(waO _ _ l).trans n
  .refine(waO _ _ ?_).trans q;rintro rfl;rcases m with m |m
   .exact absurd (waw m a) (wbm _)
   .exact m k
end
section
variable{K:wa2}
theorem zS.binds{x g:Str}{st:Stmt}{f:Addr}{fd:wbw}{ps:List Str}(F:zS K x g st f fd)
 (h:∀(kV j pm:Value) (p:Option Addr) (l ct:Value) (us:List Value),us.length=ps.length->bindArgs (wct x g (dj st) (c9 st) (aJ st) .none kV j pm p l ct) {us,[]}=pure (ps.zip us)):Binds K fd ps []:=by
 obtain⟨c,d,kV,j,pm,p,l,ct,a,rfl,lk,b⟩:=F.ex;exact .all (h kV j pm p l ct)
theorem GQ{x g:Str}{st:Stmt}{f:Addr}{C:Value}{I t:Option Addr}{r:Array (Option Value)}{kV p pm j ct:Value}(l:K.lookup f=some {C,I,.func (wct x g (dj st) (c9 st) (aJ st) .none kV p pm t j ct),r})
 (c:wec K j g=true) (k:wcX K (.ref f)=true):zS K x g st f (wct x g (dj st) (c9 st) (aJ st) .none kV p pm t j ct):={⟨C,I,kV,p,pm,t,j,ct,r,rfl,l,c⟩,k}
theorem oS{X:Cx}{g:List (Addr×Obj)}{σ:St}{H:Hp}{s:Shared}{l:List Addr}{x y:V}{u v:Value}{j:Heap}(tk:Nat)(I:Inv X g σ H s)(p:∀b∈l,tG X g H b)(kp:∀b o,b∉l->s.heap.get? b=some o->j.get? b=some o)
 (t:j.get? s.heap.objs.size=some {cls:=.type "tuple",data:=.seq #[u,v]}) (C:RelV y u) (J:RelV x v) (hl:∀b∈l,b<s.heap.objs.size) :
 H s.heap.objs.size=none/\Inv X g σ (upd H s.heap.objs.size (.tup [y,x])) {s with heap:=j,gens:=s.gens,drawn:=s.drawn,toks:=tk}/\∀b∈l,upd H s.heap.objs.size (.tup [y,x]) b=none:=by
 have d:=I.b9.fresh (waa s.heap.objs.size);have e:∀b o,H b=some o->b∉l:=λb o q z=>by rw[(p b z).1]at q;cases q
 have f:jC X.prog X.w (upd H s.heap.objs.size (.tup [y,x])) j:=by
  intro b o q
  by_cases a:b=s.heap.objs.size
  .subst a;rw[a7]at q;cases q;exact{by show 2<=sizeLine;decide,[u,v],.cons C (.cons J .nil),{_,t,rfl,_,rfl}}
  .rw[af a]at q;refine(I.b9 b o q).uz (λc v hc r=>?_) (λc r=>by rw[af (ag r d)];exact r) λc i r=>by rw[af (ag r d)];exact r
   rcases hc with z |z
   .rw[z]at r ⊢;exact kp b v (e b o q) r
   .exact kp c v (e c _ z) r
 refine{d,?_,λb a=>by rw[af (wav (hl b a))];exact(p b a).1}
 refine I.step (ch:=l) (λb a=>?_) (λb o _ _ hc q _=>kp b o hc q) (λb o _ _ hc q _=>{o.slots,kp b o hc q}) (λb o _ q n=>by rw[af (wav (wae q))];exact n) (λb o hc q=>{o,kp b o hc q})
  (λb i r=>by rw[af (ag r d)];exact r) (λb o u r=>by rw[af (ag r d)];exact r) (λb ps r=>{#[],by rw[af (ag r d),r];simp})
  (λm ⟨o,k,A,h,r⟩=>{o,k,A,kp _ o (λz=>(p _ z).2.1 rfl) h,r}) f I.bare
 obtain⟨_,f1,_,B,D,E⟩:=p b a;exact⟨B,f1,D,E⟩
end
section
variable{fs ex:List Addr}{H:Hp}{h h':Heap}{a:Addr}{o:HO}
theorem Un.kept(k:∀b u,h.get? b=some u->h'.get? b=some u):Un fs ex H H h h':=
 {λb ob q _ _ _=>k b ob q,λb ob q _ _ _=>{ob.slots,k b ob q},λ_ _ _ n _=>n,λb ob q _=>{ob,k b ob q},λ_ _ q=>q,λ_ _ _ q=>q,λ_ ps q=>{#[],by rw[q];simp}}
theorem Un.refl:Un fs ex H H h h:=Un.kept λ_ _ q=>q
theorem Un.laid(k:∀b u,h.get? b=some u->h'.get? b=some u)(g:h.objs.size<=a)(hn:H a=none):Un fs ex H (upd H a o) h h' where
 keep:=λb u q _ _ _=>k b u q
 slot:=λb u q _ _ _=>{u.slots,k b u q}
 free:=λb u q n _=>by rw[af (wav (waw (wae q) g))];exact n
 there:=λb u q _=>{u,k b u q}
 uf:=λb c q=>by rw[af (ag q hn)];exact q
 tF:=λb u c q=>by rw[af (ag q hn)];exact q
 ug:=λb ps q=>{#[],by rw[af (ag q hn),q];simp}
end
section
variable{X:Cx}{pins:List (Addr×Obj)}{σ:List (Option V)}{H:Hp}{s:Shared}{h':Heap}
theorem Inv.tok(I:Inv X pins σ H s)(t:Nat):Inv X pins σ H {s with toks:=t}:=I.un (h':=s.heap) (t':=t) Un.refl I.b9
theorem Inv.kept(I:Inv X pins σ H s)(k:∀b u,s.heap.get? b=some u->h'.get? b=some u):Inv X pins σ H {s with heap:=h',toks:=t'}:=I.un (Un.kept k) (I.b9.kept k)
theorem Inv.laid(I:Inv X pins σ H s)(k:∀b u,s.heap.get? b=some u->h'.get? b=some u)(g:s.heap.objs.size<=a)(new:bU X.prog X.w (upd H a o) h' a o) :
 Inv X pins σ (upd H a o) {s with heap:=h',toks:=t'}:=I.un (Un.laid k g (I.b9.fresh g)) (I.b9.laid k g new)
theorem ao{i j pos}:PE X (.Constant (.int i) j pos) (tC (.int i)):={λ_ _ _ H _ I h=>wpAny_Constant_int {.int i,H,I.tok _,{_,rfl},h}}
theorem dO{x j pos}:PE X (.Constant (.str x) j pos) (tC (.str x)):={λ_ _ _ H _ I h=>whd {.str x,H,I.tok _,{_,rfl},h}}
theorem GR:RO X .Add (Y5 λi j=>i+j):=by
 intro a s σ H x y v u Q I b c h;obtain⟨i,j,d,e,q⟩:=h;subst d;subst e;obtain⟨t,rfl⟩:=b;obtain⟨f,rfl⟩:=c;exact iadd_int {.int _,H,I.tok _,{_,rfl},q}
theorem yN:OD X SZ:=by
 intro value slice a s σ H x y v u Q I b d h e;obtain⟨z,i,c,rfl,rfl,m,f,q⟩:=h;obtain⟨t,rfl⟩:=b;obtain⟨n,rfl⟩:=d;obtain⟨j,g,o,p,k,l⟩:=yB f;have hl:z.cps.toList.length=z.length:=by simp[wdG]
 rw[hl]at g k l;have hn:=o6
 exact tail_any (typeIs_str s z t) slot_str_getitem.lookup (getItem_str (c:=c) (by
  grind) (by grind) {.str {#[c]},H,I.tok _,{_,rfl},q}) e
theorem Nb:PJ X [] T8:={λb s σ H a Q I h=>joinParts_nil {a,H,I.tok _,{_,rfl},h.2} h.1}
end
section
variable{X:Cx}{tg:Expr}
theorem aP{l:Expr}{g:TE}(hl:PE X l g):PI X tg l (Pb X.K g):=by
 refine{?_};intro c s σ H R I h;refine bN (hl c s σ H _ I h) λv d ⟨x,i,f,j,k⟩=>?_;obtain⟨a,e,⟨t,m⟩,q⟩:=k;subst e;cases j;obtain⟨n,u,p,w⟩:=f.list m;refine wcR p.isList ?_;refine{d.heap.objs.size,[d.heap.objs.size],_,_,i,rfl,f.kept (t':=d.toks) λb o e=>wa9 _ e,En a _,{_,wap _ rfl,rfl,rfl},λb r=>?_,q};have e:b=d.heap.objs.size:=by simpa using r
 subst e;exact f.tH (waa _) (f.b9.fresh (waa _))
theorem A1{g:List (Addr×Obj)}{σ:St}{H:Hp}{s:Shared}{R:It->Hp->Prop}{E:Value->Shared->Prop}{lo hi:Int}{t u v:Tok}{tk:Nat}(I:Inv X g σ H s)(j:-(2^62)<=lo)(l:lo<2^62)(p:-(2^62)<=hi)(r:hi<2^62)
 (q:R (LR lo (hi-lo).toNat) H):wpAny (model X.prog X.w) X.A (pyIter (.ref s.heap.objs.size)) (MZ X g σ tg R) E {s with heap:=s.heap.push {cls:=.type "range",data:=.fields #[.int lo t,.int hi u,.int 1 v]},toks:=tk}:=by
 refine we3 (wgl ..) (small_one j l p r) ?_;have a:Inv X g σ H {s with heap:=s.heap.push {cls:=.type "range",data:=.fields #[.int lo t,.int hi u,.int 1 v]},toks:=tk}:=I.kept λb o e=>wa9 _ e
 refine{(s.heap.push {cls:=.type "range",data:=.fields #[.int lo t,.int hi u,.int 1 v]}).objs.size,[(s.heap.push {cls:=.type "range",data:=.fields #[.int lo t,.int hi u,.int 1 v]}).objs.size],_,_,H,rfl,
  a.kept (t':=tk) λb o e=>wa9 _ e,BD _ lo (hi-lo).toNat,?_,λb c=>?_,q}
 .have d:lo+((0:Nat):Int)*1=lo:=by simp
  have f:(((hi-lo).toNat:Nat):Int)-((0:Nat):Int)=wb9 lo hi 1:=by rw[rangeSize_one];split<;>lia
  show wel _ _ (lo+((0:Nat):Int)*1) ((((hi-lo).toNat:Nat):Int)-((0:Nat):Int)) 1;rw[d,f];exact wap _ rfl
 .have e:b=(s.heap.push {cls:=.type "range",data:=.fields #[.int lo t,.int hi u,.int 1 v]}).objs.size:=by simpa using c
  subst e;exact a.tH (waa _) (a.b9.fresh (waa _))
theorem bX(g:Gl X "range")(l:X.mg "range"=none)(ha:PA X [a] C)(hs:starEach [a] X.env=[(false,eval a X.env)]:=by rfl):PI X tg (.Call (.Name "range" p) [a] [] pos) (Pg C):=by
 refine{?_};intro b s σ H R I h;refine Call_ (eR I g l wfz (waZ (bN (ha pos b s σ H _ I h) λm n ⟨o,u,d,f,c⟩=>?_) hs rfl));obtain⟨j,e,c,i,q⟩:=c;subst e
 cases f with
 |cons r k=>
  cases k;obtain⟨t,rfl⟩:=r;exact call_range_1 (A1 d (by lia) (by lia) c i (by simpa using q))
theorem qM(l:Gl X "range")(C:X.mg "range"=none)(ha:PA X [a,b] J)(hs:starEach [a,b] X.env=[(false,eval a X.env),(false,eval b X.env)]:=by rfl)(g:starEach [b] X.env=[(false,eval b X.env)]:=by rfl) :
 PI X tg (.Call (.Name "range" p) [a,b] [] pos) (Ph J):=by
 refine{?_};intro c s σ H R I h;refine Call_ (eR I l C wfz (waZ (bN (ha pos c s σ H _ I h) λw x ⟨y,z,k,m,d⟩=>?_) (by rw[hs,g]) (by rw[g];rfl)));obtain⟨i,j,e,⟨d,n,o,u⟩,q⟩:=d;subst e
 cases m with
 |cons r f=>
  cases f with
  |cons v f=>
   cases f;obtain⟨t,rfl⟩:=r;obtain⟨A,rfl⟩:=v;exact call_range_2 (A1 k d n o u q)
theorem RU{f:Value->Value->Sem Value}{C:Int->Int->Prop}{g:Int->Int->Int}
 (rule:∀(i j:Int) (t u:Tok) (s:Shared) (Q:Value->Shared->Prop) (E:Value->Shared->Prop),C i j->Q (.int (g i j) s.toks) {s with toks:=s.toks+1}->wpAny (model X.prog X.w) X.A (f (.int i t) (.int j u)) Q E s) :
 lH X f (rI C λi j=>.int (g i j)):=by
 intro a s σ H x y v u Q I b c h;obtain⟨i,j,rfl,rfl,hc,q⟩:=h;obtain⟨t,rfl⟩:=b;obtain⟨d,rfl⟩:=c;exact rule i j t d s _ _ hc {.int (g i j),H,I.tok _,{_,rfl},q}
theorem Qm{f:Value->Value->Sem Value}{g:Int->Int->Int}
 (rule:∀(i j:Int) (t u:Tok) (s:Shared) (Q:Value->Shared->Prop) (E:Value->Shared->Prop),Q (.int (g i j) s.toks) {s with toks:=s.toks+1}->wpAny (model X.prog X.w) X.A (f (.int i t) (.int j u)) Q E s) :
 lH X f (LU λi j=>.int (g i j)):=by
 intro a s σ H x y v u Q I b c h;obtain⟨i,j,rfl,rfl,q⟩:=h;obtain⟨t,rfl⟩:=b;obtain⟨d,rfl⟩:=c;exact rule i j t d s _ _ {.int (g i j),H,I.tok _,{_,rfl},q}
theorem cu:lH X (binaryOp .Add) (LU λi j=>.int (i+j)):=Qm λ_ _ _ _ _ _ _ q=>add_int q
theorem lL:lH X (binaryOp .Sub) (LU λi j=>.int (i-j)):=Qm λ_ _ _ _ _ _ _ q=>sub_int q
theorem f5:lH X (binaryOp .Mult) (rI JO λi j=>.int (i*j)):=RU λ_ _ _ _ _ _ _ hc q=>mul_int q hc.ok
theorem jI:lH X (binaryOp .FloorDiv) (rI SY λi j=>.int (i/j)):=RU λi j _ _ _ _ _ hc q=>by
 have a:(0:Int)<j:=hc.1;have b:j<1073741824:=hc.2;exact floordiv_int () (by rw[Int.fdiv_eq_ediv_of_nonneg i ()];exact q) (.inl (wds ()))
theorem cD:lH X (binaryOp .Mod) (rI (λ_ j=>0<j) λi j=>.int (i%j)):=RU λi j _ _ _ _ _ hc q=>by
 have a:(0:Int)<j:=hc;exact mod_int' (by lia) (by rw[Int.fmod_eq_emod_of_nonneg i (by lia)];exact q)
theorem Yo{f:Value->Sem Value}{g:Int->Int}
 (rule:∀(i:Int) (t:Tok) (s:Shared) (Q:Value->Shared->Prop) (E:Value->Shared->Prop),Q (.int (g i) s.toks) {s with toks:=s.toks+1}->wpAny (model X.prog X.w) X.A (f (.int i t)) Q E s) :
 Tg X f (rU λi=>.int (g i)):=by
 intro a s σ H x v Q I b h;obtain⟨i,rfl,q⟩:=h;obtain⟨t,rfl⟩:=b;exact rule i t s _ _ {.int (g i),H,I.tok _,{_,rfl},q}
theorem GU:Tg X (unaryOp .USub) (rU λi=>.int (-i)):=Yo λ_ _ _ _ _ q=>neg_int q
theorem i6:lH X (binaryOp .Add) (λx y H Q=>∃i j,x=.str i/\y=.str j/\i.length+j.length<=sizeLine/\Q (.str (i++j)) H):=by
 intro a s σ H x y v u Q I b c h;obtain⟨i,j,rfl,rfl,d,q⟩:=h;obtain⟨t,rfl⟩:=b;obtain⟨e,rfl⟩:=c;exact add_str (λe f=>{.str (i++j),H,I.tok _,{_,rfl},q}) d
theorem A2:lH X (inplaceOp .Add) (λx y H Q=>∃i j,x=.str i/\y=.str j/\i.length+j.length<=sizeLine/\Q (.str (i++j)) H):=by
 intro a s σ H x y v u Q I b c h;obtain⟨i,j,rfl,rfl,d,q⟩:=h;obtain⟨t,rfl⟩:=b;obtain⟨e,rfl⟩:=c;exact iadd_str (λe f=>{.str (i++j),H,I.tok _,{_,rfl},q}) d
theorem Eu(hc:X.calm=true):dH X (.builtin "max") (λxs H Q=>∃i j,xs=[.int i,.int j]/\Q (.int (if j>i then j else i)) H):=by
 intro b s σ H xs c Q I r h;obtain⟨i,j,rfl,q⟩:=h;obtain⟨u,d,rfl,⟨t,rfl⟩,⟨e,rfl⟩⟩:=vals2 r;refine max_two_ints (I.ok.hd hc) λf g k=>{_,H,I.kept k,?_,q}
 by_cases a:j>i
 .rw[if_pos a,if_pos a];exact{_,rfl}
 .rw[if_neg a,if_neg a];exact{_,rfl}
theorem qN(hc:X.calm=true):dH X (.builtin "min") (λxs H Q=>∃i j,xs=[.int i,.int j]/\Q (.int (if j<i then j else i)) H):=by
 intro b s σ H xs c Q I r h;obtain⟨i,j,rfl,q⟩:=h;obtain⟨u,d,rfl,⟨t,rfl⟩,⟨e,rfl⟩⟩:=vals2 r;refine min_two_ints (I.ok.hd hc) λf g k=>{_,H,I.kept k,?_,q}
 by_cases a:j<i
 .rw[if_pos a,if_pos a];exact{_,rfl}
 .rw[if_neg a,if_neg a];exact{_,rfl}
theorem Ew{CX:G7}{P:waC}{w:World}{K:wa2}{mg:Str->Option Value}{base:Heap}{N ps:List Str}{g:Str}{scope:wd3}{f:Addr}{cd:Value}{A:Around}{outer:List Env}{s s1:Shared}{H:Hp}{E:XK}{us:List Value}{vs:List V}
 (S:tT N ps scope) (hd:A.handled=none) (j:Bz P w K mg base A outer s H) (hl:vs.length=ps.length) (r:Vals vs us)
 (x:InCallC s s.heap.objs.size (bindL (envOfC g scope s.heap.objs.size f cd).kindOf (ps.zip us) λ_=>none) (cellsFrom (s.heap.objs.size+1) scope.names []) (bindC (envOfC g scope s.heap.objs.size f cd).kindOf (ps.zip us) λ_=>none) s1) :
 Inv (ux CX P w K mg base N g scope f cd A outer s H E) [] (start N vs) H s1:=by
 have D:ps.length<=N.length:=by have:=congrArg wdt S.pre;rw[wad]at this;lia
 obtain⟨B,I,rfl,hk⟩:=x.done;have l:∀b:Addr,b∉(ux CX P w K mg base N g scope f cd A outer s H E).ex:=λb z=>absurd (show b∈([]:List Addr) from z) (by simp)
 refine{{j.mod,S.kind,rfl,rfl,waa _,λy z c B d=>?_,λy m=>?_,λy c _ h=>?_,λ_=>hd,Around.frames_deeper j.frames,.inr ⟨rfl,rfl⟩,λb z=>absurd z (l b),j.bs,j.Gh,λb _ _=>l b,λb z=>absurd z (l b),j.oK,j.JM},
  rfl,j.bare,Un.kept hk,{_,x.toInCall.ns,λi y v B d J=>?_},λy c h=>{_,x.cell y c h},j.b9.fresh (waa _),λy c h=>?_,λp o=>absurd (show p∈([]:List (Addr×Obj)) from o) (by simp),j.b9.kept hk,?_}
 .exact name_of_addr x.apart (wcE B) (wcE d)
 .have m:scope.names.lookup y=some .cell\/scope.names.lookup y=some .free:=m;rcases m with m |m
  .exact zR m
  .exact absurd rfl (S.ML _ (wcE m))
 .exact weN (x.above y c (wcE h))
 .have hi:i<vs.length:=by
   unfold start at d
   by_cases hi:i<vs.length
   .exact hi
   .rw[waB (by simpa using hi)]at d;rw[List.getElem?_replicate]at d;split at d<;>cases d
  have ha:vs[i]?=some v:=by
   unfold start at d;rw[waA (by simpa using hi),wa3]at d
   cases e:vs[i]? with
   |none=>rw[e]at d;cases d
   |some a=>rw[e]at d;cases d;rfl
  obtain⟨u,C,G⟩:=r.get ha
  have o:ps[i]?=some y:=by
   rw[<-S.pre,wd1 (by lia)];exact B
  have t:ps.Nodup:=by rw[<-S.pre];exact S.nd.sublist (wbp _ _)
  refine{u,G,?_};rcases S.par y (wa8 o) with k |k
  .exact .inl {k,xm t o C k}
  .obtain⟨c,e⟩:=zR (n:=s.heap.objs.size+1) k;refine .inr {.inl k,c,e,?_};have q:=x.cell y c e;rw[xn t o C (by show scope.names.lookup y≠_;rw[k];decide)]at q;exact q
 .exact j.b9.fresh (weN (x.above y c (wcE h)))
 .unfold start;show _=N.length;rw[wa5,wa0,waN]
  lia
theorem Md{CX:G7}{P:waC}{w:World}{K:wa2}{mg:Str->Option Value}{base:Heap}{k:Nat}{f:Addr}{name g:Str}{l:Arguments}{body:List Stmt}{scope:wd3}{dV kV C pm j ct oc:Value}{an od:Option Addr}
 {T:Array (Option Value)} {N ps:List Str} {sp:Sp} (lk:K.lookup f=some {oc,od,.func (wct name g l body scope dV kV C pm an j ct),T}) (U:wec K j g=true) (S:tT N ps scope)
 (len:∀vs H Q E,sp vs H Q E->vs.length=ps.length)
 (p:∀(A:Around) (outer:List Env) (s:Shared) (H:Hp) (vs:List V) (Q:VK) (E:XK),dF k (A.deeper (envOfC g scope s.heap.objs.size f j))->sp vs H Q E ->
   ∃t,wt (ux CX P w K mg base N g scope f j A outer s H E) body t/\t (Ends.fn Q) (start N vs) H) :
 aS P w K mg base CX (k+1) f (wct name g l body scope dV kV C pm an j ct) ps sp:=by
 refine{len,λA outer s H args O vs Q E z i R r m=>?_};have hl:=len _ _ _ _ m;have L:K.In s.heap:=i.mod.LO.keeps λb o e=>(i.bs b o e).1;have B:s.heap.NoLimit:=i.mod.nolimit.keeps λb o e=>(i.bs b o e).1
 have c:∀y∈ps.zip O,scope.names.lookup y.1=some .local\/(scope.names.lookup y.1=some .cell/\((cellsFrom (s.heap.objs.size+1) scope.names []).lookup y.1).isSome=true):=λ⟨n,v⟩ X=>by
  rcases S.par n (wg6 X).1 with q |q
  .exact .inl q
  .exact .inr {q,wge _ _ _ (.inl q)}
 refine codeAny_call_function z.depth (L _ _ lk) rfl S.co S.gen rfl (PySem.W.codeRec_of L U) (R _ _ _ _ ?_);refine wpAny_newFunctionEnv_cells S.kind c λenv Y M x=>?_;subst Y;refine{B.keeps x.toInCall.keep,codeAny_func ?_};obtain⟨t,Z,hq⟩:=p A outer s H vs Q E (z.deeper _) m;have I:Inv (ux CX P w K mg base N g scope f j A outer s H E) [] (start N vs) H M:=Ew S z.hd i hl r x;refine wb8 (Z [] M (start N vs) H _ I hq) (λfl D d=>?_) λe D d=>d
 have fin:∀{a:St} {h:Hp} {v:V} {u:Value},Inv (ux CX P w K mg base N g scope f j A outer s H E) [] a h D->RelV v u->Q v h->CE outer P w H s Q u D:=
  λ{a h v u} J G q=>⟨v,h,J.os,J.bare,J.base,J.b9,G,q⟩
 cases fl with
 |ret u=>
  obtain⟨v,a,h,J,G,q⟩:=d;exact fin J G q
 |next=>
  obtain⟨a,h,J,q⟩:=d;exact fin (v:=V.non) (u:=wbF) J rfl q
 |brk=>
  obtain⟨_,_,_,q⟩:=d;exact wb3 q
 |cont=>
  obtain⟨_,_,_,q⟩:=d;exact wb3 q
theorem oU:dH X (.builtin "len") (λxs H Q=>∃p ys,xs=[.ref p]/\(aH X.K H p ys\/g8 X.K H p ys)/\Q (.int ys.length) H):=by
 intro e s σ H xs i Q I r h;obtain⟨p,ys,rfl,a,q⟩:=h;obtain⟨u,rfl,f⟩:=vals1 r;cases f;have hn:=o6;rcases a with a |a
 .obtain⟨c,d,pl,g⟩:=I.list a;have b:=d.length;exact wf1 pl.isList (by grind) {.int ys.length,H,I.tok _,{s.toks+1,by grind},q}
 .obtain⟨c,d,pl,g⟩:=I.tuple a;have b:=d.length;exact len_tuple pl (by grind) {.int ys.length,H,I.tok _,{s.toks+1,by grind},q}
theorem yO:dH X (.builtin "len") (λxs H Q=>∃z,xs=[.str z]/\z.length<=sizeLine/\Q (.int z.length) H):=by
 intro a s σ H xs b Q I r h;obtain⟨z,rfl,c,q⟩:=h;obtain⟨u,rfl,t,rfl⟩:=vals1 r;have hn:=o6;exact len_str (by lia) {.int z.length,H,I.tok _,{_,rfl},q}
theorem dk:dH X (.type "list") (λxs H Q=>∃p ys,xs=[.ref p]/\(aH X.K H p ys\/g8 X.K H p ys)/\∀l,H l=none->Q (.ref l) (upd H l (.lst ys))):=by
 intro g s σ H xs x Q I r h;obtain⟨p,ys,rfl,i,q⟩:=h;obtain⟨u,rfl,v⟩:=vals1 r;cases v
 have fin:∀(a:List Value),Vals ys a->ys.length<=sizeLine->∀(c:Heap) (d:Nat),(∀b t,s.heap.get? b=some t->c.get? b=some t) ->
  c.get? s.heap.objs.size=some {cls:=.type "list",dict:=none,data:=.seq a.toArray d,slots:=#[]}->EP X g σ Q (.ref s.heap.objs.size) {s with heap:=c}:=λa f j c d kp e=>
  {.ref s.heap.objs.size,_,I.laid (t':=s.toks) kp (waa _) (show bU X.prog X.w _ c _ (.lst ys) from ⟨j,a,d,f,e⟩),rfl,q _ (I.b9.fresh (waa _))}
 rcases i with i |i
 .obtain⟨a,f,pl,j⟩:=I.list i;have k:=f.length;obtain⟨o,m,hc,n,hd⟩:=pl.isList;exact call_list_seq p (.inl rfl) m hc hd (λc d kp e=>fin a f j c d kp e) (by grind)
 .obtain⟨a,f,pl,j⟩:=I.tuple i;have k:=f.length;obtain⟨o,m,hc,n,hd⟩:=pl;exact call_list_seq p (.inr rfl) m hc hd (λc d kp e=>fin a f j c d kp e) (by grind)
theorem a8.refl(H:Hp):a8 H H:=λ_ _ h=>h
theorem xM:M7 X "dict.values" (λx xs H Q=>∃d kvs,x=.ref d/\xs=[]/\H d=some (.dK kvs)/\∀v,H v=none->Q (.ref v) (upd H v (lE v d))):=by
 intro a s σ H x xs v j Q I f g h;obtain⟨d,kvs,rfl,rfl,hd,q⟩:=h;cases f;have:=g.zero;subst this;obtain⟨l,lo,i,rel,c⟩:=rJ I.b9 hd;refine wfI we4 c.typeIs PySem.F.entry_dict_values (PySem.F.args_dict_values_1 _) (meets_dict_values (bx X.prog X.w) d lo) {⟨i,c⟩,?_};refine{.ref s.heap.objs.size,_,I.laid (t':=s.toks) (o:=lE s.heap.objs.size d) (λb o e=>wa9 _ e) (waa _) {{_,wap _ rfl,rfl,rfl},{_,wap _ rfl},λm n ⟨o,e,r⟩ k=>{o,k o e,r}},rfl,q _ (I.b9.fresh (waa _))}
theorem yP:M7 X "str.join" (λx xs H Q=>∃z p ts,x=.str z/\xs=[.ref p]/\aH X.K H p (wcZ V.str ts)/\(ts.map (·.length)).sum+ts.length*z.length<=16777216/\Q (.str (wd2 z ts)) H):=by
 intro a s σ H x xs v l Q I b c h;obtain⟨z,p,ts,rfl,rfl,d,e,q⟩:=h;obtain⟨t,rfl⟩:=b;obtain⟨u,rfl,f⟩:=c.one;cases f;obtain⟨g,i,pl,_⟩:=I.list d;exact join_list pl.isList (by simpa using Bq i) e λj k=>{.str _,H,I.tok k,⟨j,rfl⟩,q}
theorem A3:dH X (.builtin "len") (λxs H Q=>∃p n,xs=[.ref p]/\H p=some (JT X.prog X.w p n)/\Q (.int n) H):=by
 intro b s σ H xs g Q I r h;obtain⟨p,n,rfl,c,q⟩:=h;obtain⟨u,rfl,d⟩:=vals1 r;cases d;obtain⟨⟨S,o,i,j,k,e,hex,hd,_,_,f,a,hn⟩,_⟩:=(show bU X.prog X.w H s.heap p (JT X.prog X.w p n) from I.b9 p _ c);refine call_len_set e hex hd a (by grind [wdk]) {.int n,H,I.tok _,{s.toks+1,?_},q};rw[hn]
theorem comp_map{Ok:Hp->Prop}{Q:Hp->Prop}(g:V->V)(I:lB J Ok xs)(hl:H l=none)(T:xs.length<=sizeLine)(t:∀j,a8 H j->Ok j)
 (he:∀x p r,x∈xs->a8 H p->(∀j,a8 p j->r (g x) j)->U (some x::C) p r)
 (hd:∀j,a8 H j->j l=some (.lst (xs.map g))->Q j):nj J l C wx U H Q:=
 dJ (λ_=>true) g I hl T t (λx p r _ _ q=>q p (a8.refl _)) (λx p r a _ s q=>he x p r a s q) (λj s h=>hd j s (by rw[h,wb1.mpr (λ_ _=>rfl)]))
theorem rL:dH X (.type "range") (λxs H Q=>∃j:Int,xs=[.int j]/\∀p,H p=none->Q (.ref p) (upd H p (.rng 0 j))):=by
 intro a s σ H xs c Q I r h;obtain⟨j,rfl,q⟩:=h;obtain⟨u,rfl,t,rfl⟩:=vals1 r;refine call_range_1 {.ref s.heap.objs.size,_,I.laid (λb ob q=>wa9 _ q) (waa _) (show bU X.prog X.w _ _ _ (.rng 0 j) from {_,_,_,wap _ rfl}),rfl,q _ (I.b9.fresh (waa _))}
theorem BJ:dH X (.type "dict") (λxs H Q=>∃d kvs,xs=[.ref d]/\Rd H d (.dK kvs)/\∀l,H l=none->Q (.ref l) (upd H l (.dK kvs))):=by
 intro a s σ H xs n Q I r h;obtain⟨d,kvs,rfl,hd,q⟩:=h;obtain⟨u,rfl,f⟩:=vals1 r;cases f;obtain⟨c,lo,g,rel,i⟩:=ku I.b9 hd;refine kt_call_dict (knd:=bx X.prog X.w) lo i (by rw[<-rel.length];exact c) λp j k=>?_;have m:=(ur (P:=X.prog) (w:=X.w) (H:=H) s.heap I.big);refine{.ref s.heap.objs.size,upd H s.heap.objs.size (.dK kvs),I.laid (t':=s.toks) (λb o e=>?_) (waa _) ⟨c,m.2.1,g,rel,j⟩,rfl,q _ (I.b9.fresh (waa _))};exact k.extBut b o (wav (wae e)) (wa9 _ e)
theorem K7:RO X .Add (λx y H Q=>∃i j,x=.str i/\y=.str j/\i.length+j.length<=sizeLine/\Q (.str (i++j)) H):=λa s σ H x y v u Q I b c h=>A2 a s σ H x y v u Q I b c h
theorem uJ:lH X (binaryOp .FloorDiv) (rI Pz λi j=>.int (i/j)):=RU λi j _ _ _ _ _ hc q=>by
 have a:(0:Int)<j:=hc.1;exact floordiv_int (by lia) (by grind) (.inl (PyProof.noPylong_of_log2 hc.2))
theorem Dx{σ:St}:∀{ps:List (Int×Int)} {H Q},(∀g j,a8 H g->j.length=ps.length->(∀(i:Nat) p,ps[i]?=some p->∃q,j[i]?=some (.ref q)/\g q=some (.tup [.int p.1,.int p.2]))->Q j g)->uk ps σ H Q
 |[],H,_,k=>k H [] (a8.refl _) rfl λ_ _ h=>nomatch h
 |_::_,_,_,k=>{(by show 2<=sizeLine;decide),λq f=>Dx λg j s e a=>k g (.ref q::j) ((a8.upd f).trans s) (congrArg (· + 1) e) λ
  |0,_,h=>{q,rfl,by cases h;exact s _ _ a7}
  |i+1,p,h=>a i p h}
theorem qO{α:Type}(p:Nat->Bool):∀(k:Nat) (xs:List α),(bp p k xs).Sublist xs
 |_,[]=>wfr _
 |k,x::xs=>by
  show (if p k then x::bp p (k+1) xs else bp p (k+1) xs).Sublist (x::xs)
  cases p k with
  |true=>exact(qO p (k+1) xs).cons₂ x
  |false=>exact(qO p (k+1) xs).cons x
theorem dM{α:Type}{p:Nat->Bool}{k:Nat}{xs:List α}{x:α}(h:x∈bp p k xs):x∈xs:=(qO p k xs).subset h
end
section
variable{X:Cx}{x:Str}{pos:Pos}{e:Expr}{te:Py}{i:Nat}{pos':Pos}
theorem dm(hc:X.calm=true)(h:RN X g t)
 (hn:(wdE g X.env).length=n:=by rfl) (j:(wdE g X.env).findIdx? (·.1)=none:=by rfl):PG X (.Tuple g k pos) (Gj X.K n t):=by
 refine{?_};intro c s σ H v u Q I r hw;obtain⟨a,f,i,l,hl,hw⟩:=hw;subst i;cases r;obtain⟨m,d,p,y⟩:=I.tuple l;refine assign_Tuple_tuple (I.ok.hd hc) p (by simp[hn,<-hl,d.length]) j λq w=>?_;have x:Inv X c σ H {s with heap:=q}:=I.kept (t':=s.toks) λb o e=>w b o (wav (wae e)) e;exact h c _ σ H f _ Q x (by simpa using d) hw
theorem da:PE X (.Dict [] [] pos) MM:={λb s σ H Q I h=>
 wpAny_Dict_empty {.ref s.heap.objs.size,_,I.laid (a:=s.heap.objs.size) (o:=.dK []) (t':=s.toks) (λ_ _ q=>wa9 _ q) (waa _) (ur s.heap I.big),rfl,h _ (I.b9.fresh (waa _))}}
noncomputable def TH(te:Py)(i:Nat):OG:=λE D σ H=>te (E σ) σ H λv H1=>D.nx (σ.set i (some v)) H1
inductive Qn(x y:V)(H:Hp)(Q:VK):Prop
 |mk (l b xs zs) (_:x=.ref l) (_:y=.ref b) (_:Rd H l (.lst xs)) (_:Rd H b (.lst zs)) (_:xs.length+zs.length<=sizeLine) (_:∀p,H p=none->Q (.ref p) (upd H p (.lst (xs++zs))))
end
section
variable{X:Cx}{pins:List (Addr×Obj)}{σ:St}{H:Hp}{s:Shared}{l:Addr}{xs ys:List V}
theorem Inv.Nc(I:Inv X pins σ H s)(j:Vals ys g)(p:ys.length<=sizeLine) :
 Inv X pins σ (upd H s.heap.objs.size (.lst ys)) {s with heap:=s.heap.push {cls:=.type "list",data:=.seq g.toArray},toks:=t'}:=
 I.laid (λ_ _ q=>wa9 _ q) (waa _) {p,g,0,j,wap _ rfl}
theorem Inv.GV(I:Inv X pins σ H s)(j:H l=some (.lst xs)):xs.length<=sizeLine/\∃(g:List Value) (n:Nat),Vals xs g/\xs.length=g.length/\s.heap.get? l=some {cls:=.type "list",data:=.seq g.toArray n}:=by
 obtain⟨z,g,n,r,e⟩:=I.b9 l _ j;exact⟨z,g,n,r,r.length,e⟩
theorem yQ:lH X (binaryOp .Add) Tr:=by
 intro d s σ H x y v u Q I f g h;obtain⟨l,b,t,w,rfl,rfl,i,j,A,q⟩:=h;cases f;cases g;obtain⟨z,c,n,r,hl,e⟩:=I.GV i;obtain⟨B,a,C,k,m,o⟩:=I.GV j;refine whL e o ?_ (by rw[waF,waF];omega);have p:c.toArray++a.toArray=(c++a).toArray:=by simp
 rw[p];exact{.ref _,_,I.Nc (t':=s.toks) (r.append k) (by rw[wa5];omega),rfl,q _ I.fresh}
theorem BK:lH X (binaryOp .Mult) Ts:=by
 intro p s σ H x y v u Q I A B h;obtain⟨l,k,L,rfl,rfl,C,D,E,w,q⟩:=h;cases A;obtain⟨t,rfl⟩:=B;obtain⟨z,b,n,r,hl,e⟩:=I.GV C;have d:b.toArray.size*k.toNat<=sizeLine:=by rw[waF,<-hl];exact w
 have f:¬b.toArray.size*k.toNat>(2^63-1)/8:=by
  have:(sizeLine:Nat)<=(2^63-1)/8:=⋯
  lia
 have g:¬(!Builtin.List.listFitsIndex k)=true:=by
  rw[fitsIndex_both D E];exact wan
 have c:¬wdX (b.toArray.size*k.toNat)=true:=by
  rw[Gn d];exact wan
 have i:whY (λj o=>j++o) #[] (waj (if b.toArray.isEmpty=true then 0 else k.toNat) b.toArray)=(waj k.toNat b).flatten.toArray:=by
  have G:∀m:Nat,whY (λj o=>j++o) #[] (waj m b.toArray)=(waj m b).flatten.toArray:=λm=>by
   grind [foldl_rep]
  rw[G]
  cases b with
  |nil=>simp
  |cons a M=>grind
 refine wpAny_binaryOp_repeat_ref (T:="list") (U:="int") ⋯ {_,e,rfl} (λJ=>typeIs_int J k t) noFill_list_mul F.fills_int_mul F.slot_int_rmul repeat_list F.slot_int_index.lookup
  (weP F.slot_int_rmul (typeIs_int s k t) F.entry_int_rmul (F.args_int_rmul_2 _ _) (int___rmul___int_list k t l b.toArray n)
    {e,rfl,{_,e,rfl},weP F.slot_list_mul {_,e,rfl} F.entry_list_mul (F.args_list_mul_2 _ _) (AutoListH.list___mul___list_int_3 l b.toArray n k t g f c) {e,?_}})
 rw[i];exact{.ref _,_,I.Nc (t':=s.toks) (r.rep k.toNat) (by rw[JR,Nat.mul_comm];exact w),rfl,q _ I.fresh}
end
section
variable{X:Cx}{pins:List (Addr×Obj)}{σ:St}{H:Hp}{s:Shared}{a:Addr}{y d:V}{u r:Value}{o:Option V}{A:Around}{E:Value->Shared->Prop}
theorem TK{Q:Value->Shared->Prop}(p:A.units+1<wcJ)(I:Inv X pins σ H s)(g:ee H a y o)(j:RelV y u)(h:∀s',Inv X pins σ H s'->Q (.bool o.isSome) s') :
 wpAny (model X.prog X.w) A (wbo .In u (.ref a)) Q E s:=by
 rcases g with⟨c,k,e,d,l⟩ |⟨c,k,b,e,d,i,l⟩
 .subst d;obtain⟨z,hd,m,rel,f⟩:=ku I.b9 e;refine wpAny_in_of (rF j) hd f.mapOf ?_;rw[<-(rel.val k).j0,<-l];exact h _ (I.tok _)
 .subst d;cases(show u=wam b from j);obtain⟨z,hd,n,rel,f⟩:=uA I.b9 e;refine wpAny_in_heap (wdl p) (qJ I.b9 i) hd f ?_;have q:=(rel.val k).j0;rw[wfo]at q;rw[<-q,<-l];exact h _ (I.tok _)
theorem K8{Q:Value->Shared->Prop}(p:A.units+1<wcJ)(I:Inv X pins σ H s)(g:ee H a y o)(j:RelV y u)(h:∀s',Inv X pins σ H s'->Q (.bool (!o.isSome)) s') :
 wpAny (model X.prog X.w) A (wbo .NotIn u (.ref a)) Q E s:=by
 rcases g with⟨c,k,e,d,l⟩ |⟨c,k,b,e,d,i,l⟩
 .subst d;obtain⟨z,hd,m,rel,f⟩:=ku I.b9 e;refine wpAny_notIn_of (rF j) hd f.mapOf ?_;rw[<-(rel.val k).j0,<-l];exact h _ (I.tok _)
 .subst d;cases(show u=wam b from j);obtain⟨z,hd,n,rel,f⟩:=uA I.b9 e;refine wpAny_notIn_heap (wdl p) (qJ I.b9 i) hd f ?_;have q:=(rel.val k).j0;rw[wfo]at q;rw[<-q,<-l];exact h _ (I.tok _)
theorem Nf{Q:Value->Shared->Prop}(t:A.units+1<wcJ)(I:Inv X pins σ H s)(g:ee H a y o)(j:RelV y u)(rd:RelV d r)(h:∀p s',Inv X pins σ H s'->RelV (o.getD d) p->Q p s') :
 wpAny (model X.prog X.w) A (call (.builtin "dict.get") [.ref a,u,r]) Q E s:=by
 rcases g with⟨f,k,e,i,l⟩ |⟨f,k,b,e,i,m,l⟩
 .subst i;obtain⟨z,hd,q,rel,c⟩:=ku I.b9 e;refine wfI weB c.typeIs wgm (wfX _ _ _) (meets_dict_get_default (bx X.prog X.w) a (rF j) hd r) {_,c.mapOf,h _ _ (I.tok _) ?_};rw[l];exact(rel.val k).getD rd
 .subst i;cases(show u=wam b from j);obtain⟨z,hd,n,rel,c⟩:=uA I.b9 e;refine wfI weB c.typeIs wgm (wfX _ _ _) (meetsH_dict_get_default (wfb (bx X.prog X.w)) a b hd r) {wdl t,k,n,qJ I.b9 m,c,h _ _ (I.tok _) ?_};rw[l];exact(rel.val k).getD rd
end
section
variable{m:Str}
theorem wB{X:Cx}{K:wa2}(g:X.K=K):dH X (.builtin "len") (λxs H Q=>∃p ys,xs=[.ref p]/\(aH K H p ys\/g8 K H p ys)/\Q (.int ys.length) H):=by
 subst g;exact oU
theorem Ng{α:Type}{M:Model}{A:Around}{m:Sem α}{Q:α->Shared->Prop}{E:Value->Shared->Prop}{s:Shared}(h:wpAny M A m Q (λ_ _=>False) s):wpAny M A m Q E s:=wb8 h (λ_ _ x=>x) λ_ _ z=>z.elim
end
section
variable{κ:Type}[DecidableEq κ]
theorem GW{kvs:List (κ×V)}{k:κ}(h:bC kvs k=none):¬k∈kvs.map (·.1):=by
 intro m;obtain⟨p,a,e⟩:=wab.mp m;have q:(kvs.any λb=>decide (b.1=k))=true:=wbN.mpr {p,a,decide_eq_true e};rw[i5,h]at q;exact absurd q (by simp)
theorem yR{kvs:List (κ×V)}{k:κ}{v:V}(h:bC kvs k=some v):k∈kvs.map (·.1):=by
 have q:(kvs.any λa=>decide (a.1=k))=true:=by
  rw[i5,h]
  all_goals rfl
 obtain⟨p,b,e⟩:=wbN.mp q;exact wab.mpr {p,b,of_decide_eq_true e}
end
section
variable{X:Cx}{es:List Expr}{t:TA}{pos:Pos}
theorem dP{g}(h:PA X es t):PE X (.Tuple es g pos) (PL t):=by
 refine{?_};intro a s σ H Q I i;refine wpAny_Tuple_spliced (bN (h pos a s σ H _ I i) λj c ⟨k,d,f,r,z,q⟩=>{by rw[<-r.length];exact z,?_});have l:d c.heap.objs.size=none:=f.b9.fresh (waa _);refine{.ref c.heap.objs.size,upd d c.heap.objs.size (.tup k),f.laid (t':=c.toks) (λb u e=>wa9 _ e) (waa _) ?_,rfl,q _ l};exact{z,j,r,{_,wap _ rfl,rfl,_,rfl}}
theorem bY(h:PA X es t):PE X (.List es pos) (PN t):=by
 refine{?_};intro a s σ H Q I g;refine wpAny_List_spliced (bN (h pos a s σ H _ I g) λi c ⟨j,d,f,r,z,q⟩=>{by rw[<-r.length];exact z,?_});have k:d c.heap.objs.size=none:=f.b9.fresh (waa _);refine{.ref c.heap.objs.size,upd d c.heap.objs.size (.lst j),f.laid (t':=c.toks) (λb u e=>wa9 _ e) (waa _) ?_,rfl,q _ k};exact{z,i,0,r,wap _ rfl}
theorem oj(h:k∉mv.map (·.1)):bC (ck mv) (wak k:Key)=none:=by
 cases q:bC (ck mv) (wak k:Key) with
 |none=>rfl
 |some v=>
  have:=yR q;unfold ck at this;rw[wah]at this;obtain⟨m,a,e⟩:=wab.mp this;have b:m.1=k:=wcf e;exact absurd (wab.mpr ⟨m,a,b⟩) h
theorem xN(f:Str->V)(h:k∉g):bC (qK f g) (wak k:Key)=none:=by
 cases q:bC (qK f g) (wak k:Key) with
 |none=>rfl
 |some v=>
  have:=yR q;unfold qK at this;rw[wah]at this;obtain⟨m,a,e⟩:=wab.mp this;have b:m=k:=wcf e;subst b;exact absurd a h
end
section
variable{X:Cx}{o i:Expr}{td ty:TE}
theorem GX(j:X.A.units+1<wcJ)(hi:PE X i ty)(l:PE X o td):PC X .In i o (T6 ty td):=by
 refine{?_};intro b s σ H Q I h;refine bN (hi b s σ H _ I h) λv c ⟨y,d,e,f,k⟩=>bN (l b c σ d _ e k) λu w ⟨x,m,n,p,a,q,ex,g,r⟩=>?_;subst ex;obtain rfl:u=wam a:=p;exact TK j n g f λz t=>{.bl q.isSome,m,t,rfl,r}
theorem xO(j:X.A.units+1<wcJ)(hi:PE X i ty)(l:PE X o td):PC X .NotIn i o (JW ty td):=by
 refine{?_};intro b s σ H Q I h;refine bN (hi b s σ H _ I h) λv c ⟨y,d,e,f,k⟩=>bN (l b c σ d _ e k) λu w ⟨x,m,n,p,a,q,ex,g,r⟩=>?_;subst ex;obtain rfl:u=wam a:=p;exact K8 j n g f λz t=>{.bl (!q.isSome),m,t,rfl,r}
end
section
variable{P:waC}{w:World}{K:wa2}{mg:Str->Option Value}{base:Heap}
theorem zS.ok{x g:Str}{st:Stmt}{f:Addr}{fd:wbw}{N ps:List Str}{k:Nat}{sp:Sp}(F:zS K x g st f fd)(S:tT N ps (aJ st))(len:∀vs H Q E,sp vs H Q E->vs.length=ps.length)
 (l:∀(j:Value) (A:Around) (outer:List Env) (s:Shared) (H:Hp) (vs:List V) (Q:VK) (E:XK),dF k (A.deeper (envOfC g (aJ st) s.heap.objs.size f j))->sp vs H Q E ->
   ∃t,wt (ux cO P w K mg base N g (aJ st) f j A outer s H E).LQ (c9 st) t/\t (Ends.fn Q) (start N vs) H):aS P w K mg base cO (k+1) f fd ps sp:=by
 obtain⟨i,m,kV,c,pm,n,j,ct,d,rfl,lk,a⟩:=F.ex;refine Md lk a S len λA outer s H vs Q E e b=>?_;obtain⟨t,h,q⟩:=l j A outer s H vs Q E e b;exact⟨t,h.LQ,q⟩
theorem j9(d:Addr)(o:Obj)(kvs:List (Key×V)):lB (JX d o kvs) (λH=>H d=some (.frz o (.dK kvs))) (kvs.map λg=>kV g.1) where
 go:=λi H ok h=>{ok,by rwa[wa0]at h}
 tS:=λi H x a ok h q=>by
  obtain⟨rfl,g,e,rfl⟩:=q;refine{rfl,?_};rw[wa3,e];rfl
 stop:=λH ok=>{ok,by rw[wa0];exact waa _}
end
section
variable{X:Cx}{tg:Expr}
theorem BL{P:waC}{w:World}{K:wa2}{U:Expr}{it:Addr}{n:Nat}{Pv:Nat->Value->Prop}{St:Nat->Heap->Prop}{val:Nat->V}
 (T:∀A:Around,A.handled=none->Walks P w A it [it] [it] n Pv St)
 (g:∀i h,St i h->∃(o:Obj) (nm:String) (vs:Array Value),h.get? it=some o/\o.cls=.type nm/\o.data=.fields vs/\LX nm)
 (j:∀i h h',St i h->(∀o,h.get? it=some o->h'.get? it=some o)->St i h')
 (l:∀(A:Around) (i:Nat) (s:Shared) (Q:Value->Shared->Prop) (E:Value->Shared->Prop),St i s.heap->Q (.ref it) s->wpAny (model P w) A (pyIter (.ref it)) Q E s)
 (p:∀i u,Pv i u->RelV (val i) u):Turn P w K U (RL n val) [it] it (λi h=>St i h/\i<=n) where
 mem:=by simp
 obj:=λi h st b f=>by
  have e:b=it:=by simpa using f
  subst e;obtain⟨o,nm,vs,e,c,d,_⟩:=g i h st.1;exact{o,e,λv z=>by rw[d]at z;cases z}
 keep:=λi h h' st k=>{j i h h' st.1 λo e=>k it (by simp) o e,st.2}
 item:=by
  intro X t hw x hc i a s σ H E I q st r;subst t hw x;obtain⟨y,f1,f2,B,C,D⟩:=q it (by simp);refine(T X.A (I.ok.hd hc)).item i s _ _ r st.1 λv h' G L m J=>?_;have M:Inv X a σ H {s with heap:=h',toks:=G}:=I.turned (λb o f e=>J b o (by simpa using f) e) y f1 B C D;obtain⟨o,nm,vs,e,c,d,hn⟩:=g _ _ m;exact{_,rfl,xi (s:={s with heap:=h',toks:=G}) e c d hn {val i,H,M,p i v L,⟨rfl,rfl⟩,⟨m,r⟩,λb f=>(q b f).1}}
 done:=by
   intro X t hw x hc i a s σ H E I q st r;subst t hw x;obtain⟨y,f1,f2,B,C,D⟩:=q it (by simp)
   have e:i=n:=by
    have N:=st.2;have O:n<=i:=r
    lia
   subst e;exact(T X.A (I.ok.hd hc)).done s _ _ st.1 λh' G J=>{rfl,I.turned (λb o f e=>J b o (by simpa using f) e) y f1 B C D}
 self:=λA i s Q E st h=>l A i s Q E st.1 h
theorem yS{l:Expr}{C:TE}(hl:PE X l C):PI X tg l (T7 C):=by
 refine{?_};intro f s σ H R I h;refine bN (hl f s σ H _ I h) λv a ⟨x,B,n,D,G⟩=>?_;obtain⟨z,e,q⟩:=G;subst e;obtain⟨t,rfl⟩:=D
 have fin:∀(j:String) (o:Obj),(∀m:Around,m.handled=none->Walks X.prog X.w m a.heap.objs.size [a.heap.objs.size] [a.heap.objs.size] z.cps.size (SignAt z) (λi h=>h.IsStrIter a.heap.objs.size j z t i)) ->
  (∀(A:Around) (i:Nat) (s:Shared) (Q:Value->Shared->Prop) (E:Value->Shared->Prop),s.heap.IsStrIter a.heap.objs.size j z t i->Q (.ref a.heap.objs.size) s->wpAny (model X.prog X.w) A (pyIter (.ref a.heap.objs.size)) Q E s) ->
  LX j->(a.heap.push o).IsStrIter a.heap.objs.size j z t 0->MZ X f σ tg R (.ref a.heap.objs.size) {a with heap:=a.heap.push o}:=by
  intro j o J g p r
  refine{a.heap.objs.size,[a.heap.objs.size],_,_,B,rfl,n.kept (t':=a.toks) λb o e=>wa9 _ e,
   BL (val:=xA z) J (λi h st=>?_) (λi h O st k=>?_) g (λi u L=>?_),{r,waq _},λb M=>?_,q}
  .obtain⟨o,e,c,d⟩:=st;exact{o,j,_,e,c,d,p}
  .obtain⟨o,e,c,d⟩:=st;exact{o,k o e,c,d}
  .obtain⟨c,N,hc,e⟩:=L;refine{N,?_};rw[e,wcK,hc];rfl
  .have e:b=a.heap.objs.size:=by simpa using M
   subst e;exact n.tH (waa _) (n.b9.fresh (waa _))
 cases ha:z.cps.all (· < 128)
 .exact wpAny_pyIter_wide ha (fin "str_iterator" _ (λm y=>Walks.strWide y _ z t) (λA i s Q E st h=>wpAny_pyIter_striter_wide st h) ⋯ {_,wap _ rfl,rfl,rfl})
 .exact wpAny_pyIter_ascii ha (fin "str_ascii_iterator" _ (λm y=>Walks.strAscii y _ z t) (λA i s Q E st h=>wpAny_pyIter_striter_ascii st h) ⋯ {_,wap _ rfl,rfl,rfl})
theorem lM(hc:X.calm=true):dH X (.builtin "any") (λxs H Q=>∃p bs,xs=[.ref p]/\aH X.K H p (wcZ V.bl bs)/\Q (.bl (bs.any id)) H):=by
 intro d s σ H xs o Q I r h;obtain⟨p,bs,rfl,j,q⟩:=h;obtain⟨u,rfl,k⟩:=vals1 r;cases k;obtain⟨a,l,pl,t⟩:=I.list j;have f:=rH l;have hl:=pl.isList;have m:=I.ok.hd hc;have c:p<s.heap.objs.size:=by obtain⟨_,e,_⟩:=hl;exact wae e
 refine call_any_walk (wcR hl ?_)
 refine{s.heap.objs.size,[s.heap.objs.size,p],[s.heap.objs.size],a.toArray.size,_,_,λi=>(bs[i]?).getD false,rfl,wfA (A:=X.A.in1) m _ p (wav c) a.toArray,
  {{_,wap _ rfl,rfl,rfl},hl.push _},λi v w x y n g=>?_,λz B hk=>?_}
 .obtain⟨b,e,rfl⟩:=f.get i v (by simpa using n);simp only[e,whM]at g;exact wbW g
 .have e:((waD a.toArray.size).any λi=>(bs[i]?).getD false)=bs.any id:=by
   rw[waF,f.length];exact LSm.range_any bs
  rw[e];exact{.bl _,H,I.kept (LSm.kept_iter hk),rfl,q}
theorem A4(hc:X.calm=true):dH X (.builtin "all") (λxs H Q=>∃p bs,xs=[.ref p]/\aH X.K H p (wcZ V.bl bs)/\Q (.bl (bs.all id)) H):=by
 intro d s σ H xs o Q I r h;obtain⟨p,bs,rfl,j,q⟩:=h;obtain⟨u,rfl,k⟩:=vals1 r;cases k;obtain⟨a,l,pl,t⟩:=I.list j;have f:=rH l;have hl:=pl.isList;have m:=I.ok.hd hc;have c:p<s.heap.objs.size:=by obtain⟨_,e,_⟩:=hl;exact wae e
 refine call_all_walk (wcR hl ?_)
 refine{s.heap.objs.size,[s.heap.objs.size,p],[s.heap.objs.size],a.toArray.size,_,_,λi=>(bs[i]?).getD true,rfl,wfA (A:=X.A.in1) m _ p (wav c) a.toArray,
  {{_,wap _ rfl,rfl,rfl},hl.push _},λi v w x y n g=>?_,λz B hk=>?_}
 .obtain⟨b,e,rfl⟩:=f.get i v (by simpa using n);simp only[e,whM]at g;exact wbW g
 .have e:((waD a.toArray.size).all λi=>(bs[i]?).getD true)=bs.all id:=by
   rw[waF,f.length];exact LSm.range_all bs
  rw[e];exact{.bl _,H,I.kept (LSm.kept_iter hk),rfl,q}
theorem yT(hc:X.calm=true):dH X (.builtin "sorted") (λxs H Q=>∃d kvs g,xs=[.ref d]/\H d=some (.dK kvs)/\kvs.map (·.1)=wcZ (wak:Str->Key) g/\g.length<64 /\
 ∀l ss,H l=none->ss.Perm g->wfU ss=true->Q (.ref l) (upd H l (.lst (ss.map V.str)))):=by
 intro k s σ H xs U Q I r h;obtain⟨d,kvs,g,rfl,hd,hk,v,q⟩:=h;obtain⟨u,rfl,N⟩:=vals1 r;cases N;obtain⟨D,lo,x,rel,O⟩:=rJ I.b9 hd;obtain⟨ep,y⟩:=O.dictAt;have R:=I.ok.hd hc;have n:kvs.length=g.length:=by have:=congrArg wdt hk;simpa using this
 have hn:x.length<=sizeLine:=by rw[<-rel.length];exact D
 refine Calls.call_function_entry kind_sorted plain_sorted entry_sorted (args_sorted1 _) ?_;unfold wey.«sorted»;refine wa7 (m:=checkCount "sorted" 1 1 _) (waz ?_);refine wa7 (PySem.W.kdu_collect (A:=X.A.in1) (whN (knd:=bx X.prog X.w) (kvs:=x) (ep:=ep) lo) R y hn λi E a z c=>?_);have hl:a.toList.length=x.length:=by rw[wcD];exact c.1
 refine wa7 (wpAny_newList ?_ (by rw[hl];exact hn));have B:StrsAre a.toList g:=GN (P:=X.prog) (w:=X.w) hk rel hl λj u e=>c.2 j u (by rw[<-wcn];exact e);have f:(i.push (seqObj "list" a.toList.toArray 0)).get? i.objs.size=some (seqObj "list" a.toList.toArray 0):=wap _ rfl;have p:a.toList.length<64:=by rw[hl,<-rel.length,n];exact v
 refine wa7 (wbt (wpAny_call_entry slot_list_sort {_,f,rfl} entry_list_sort (list_sort_treeK strKind_oneLt f B.keysOf (λG J rest e=>keyKind_strs (by rw[<-e];exact B)) p λC a1 a2=>{_,rfl,?_}) (args_list_sort _)));obtain⟨t,b1,L,S⟩:=sorted_out_str B a1 a2;have M:Inv X k σ H {s with heap:=i,toks:=E}:=I.kept z;obtain⟨e,T⟩:=sortedHeap_at (out:=(arrOf C).map (·.2)) f;refine waz {_,rfl,{.ref i.objs.size,upd H i.objs.size (.lst (t.map V.str)),M.laid (t':=E) (λb o q=>?_) (waa _) {?_,_,e,xr b1,?_},rfl,q _ t (M.b9.fresh (waa _)) L S}}
 .have lt:b<i.objs.size:=wae q;rw[sortedHeap_old (wav lt) (by rw[size_push'];exact weh lt)];exact wa9 _ q
 .rw[wa0,L.length_eq,<-n];exact D
 .rw[wdH];exact T
theorem jJ(hc:X.calm=true):dH X (.type "list") (λxs H Q=>∃d kvs,xs=[.ref d]/\H d=some (.dK kvs)/\∀l,H l=none->Q (.ref l) (upd H l (.lst (kvs.map λg=>kV g.1)))):=by
 intro k s σ H xs y Q I r h;obtain⟨d,kvs,rfl,hd,q⟩:=h;obtain⟨u,rfl,n⟩:=vals1 r;cases n;obtain⟨m,lo,f,rel,o⟩:=rJ I.b9 hd;obtain⟨ep,i⟩:=o.dictAt;have p:=I.ok.hd hc;have hn:f.length<=sizeLine:=by rw[<-rel.length];exact m
 refine whO (whN (knd:=bx X.prog X.w) (kvs:=f) (ep:=ep) lo) p i hn λt v b c kp x a=>?_;have hl:b.toList.length=f.length:=by rw[wcD];exact a.1
 refine{.ref s.heap.objs.size,_,I.laid (t':=v) kp (waa _) (show bU X.prog X.w _ t _ (.lst (kvs.map λg=>kV g.1)) from {?_,b.toList,c,xF (P:=X.prog) (w:=X.w) rel hl λj u e=>a.2 j u (by rw[<-wcn];exact e),?_}),rfl,q _ (I.b9.fresh (waa _))}
 .rw[wa0];exact m
 .rw[wdH];exact x
theorem BM(hc:X.calm=true):dH X (.type "list") (λxs H Q=>∃v d kvs,xs=[.ref v]/\H v=some (lE v d)/\H d=some (.dK kvs)/\∀l,H l=none->Q (.ref l) (upd H l (.lst (kvs.map (·.2))))):=by
 intro k s σ H xs D Q I r h;obtain⟨v,d,kvs,rfl,n,hd,q⟩:=h;obtain⟨u,rfl,o⟩:=vals1 r;cases o;obtain⟨m,lo,b,rel,p⟩:=rJ I.b9 hd;obtain⟨ep,i⟩:=p.dictAt;obtain⟨g,_⟩:=(show bU X.prog X.w H s.heap v (lE v d) from I.b9 v _ n);have x:=I.ok.hd hc;have hn:b.length<=sizeLine:=by rw[<-rel.length];exact m
 refine whO (whe (knd:=bx X.prog X.w) (kvs:=b) (ep:=ep)) x ⟨g,i⟩ hn λy z a c kp A f=>?_;have hl:a.toList.length=b.length:=by rw[wcD];exact f.1
 have e:a.toList=b.map (·.2):=PySem.W.kdl_vals_eq a.toList hl λj u e=>f.2 j u (by rw[<-wcn];exact e)
 have B:∀{kvs:List (Key×V)} {b:List (Key×Value)},KV kvs b->Vals (kvs.map (·.2)) (b.map (·.2)):=λ{kvs b} r=>by
  induction r with
  |nil=>exact .nil
  |cons r t C=>exact .cons r.2 C
 refine{.ref s.heap.objs.size,_,I.laid (t':=z) kp (waa _) (show bU X.prog X.w _ y _ (.lst (kvs.map (·.2))) from {?_,a.toList,c,by rw[e];exact B rel,?_}),rfl,q _ (I.b9.fresh (waa _))}
 .rw[wa0];exact m
 .rw[wdH];exact A
theorem Ex{P:waC}{w:World}{K:wa2}{g:List Expr}{k:Nat}{pos:Pos}(a e it:Addr)(j:e≠it):Turn P w K (.Tuple g k pos) (OC K a) [e,it] e (λi h=>(∃old,IsEnum h e it (i:Nat) old)/\h.IsListIter it a i) where
 mem:=by simp
 obj:=λi h st b f=>by
  obtain⟨⟨old,c⟩,o,t,hc,hd⟩:=st;rcases waG.mp f with rfl |f
  .exact{_,c,λv z=>by
    have Q:wem _=wg8 v:=z
    cases Q}
  .have R:b=it:=by simpa using f
   subst R;exact{o,t,λv z=>by rw[hd]at z;cases z}
 keep:=λi h O st k=>{st.1.imp λold c=>k e (by simp) _ c,st.2.at λo q=>k it (by simp) o q}
 item:=by
  intro X A hw B hc i l s σ H E I C st D;subst A hw B;obtain⟨S,x,r,G⟩:=D;obtain⟨J,L,p,T⟩:=I.list r;obtain⟨u,U,V⟩:=L.get G;obtain⟨⟨old,c⟩,hit⟩:=st;refine wpAny_pyNext_enum_item c hit p.isList (x:=u) (by simpa using U) j λO t m Y Z hk=>?_;refine{_,rfl,wdM t λTL M d=>?_};obtain⟨_,N,_⟩:=id hit;have n:e<s.heap.objs.size:=wae c;obtain⟨fr,I1,hn⟩:=oS (y:=.int (i:Nat)) (s.toks+1) I C (λb o h q=>(d.2 b (yC h).1).trans (hk b o (yC h).1 (yC h).2 q)) ((d.2 _ (wc4 n)).trans Y) {_,rfl} V (MO n (wae N));exact{.ref s.heap.objs.size,_,I1,rfl,{s.heap.objs.size,x,fr,rfl,rfl,λys hy=>by rw[I.j6 hy r];exact G},{{u,by simpa using M},m.at λo q=>(d.2 it (wbx j)).trans q},hn}
 done:=by
   intro X A hw B hc i l s σ H E I C st D;subst A hw B;obtain⟨S,r,G⟩:=D;obtain⟨J,L,p,T⟩:=I.list r;have hl:=L.length;obtain⟨⟨old,c⟩,hit⟩:=st;obtain⟨g0,g1,g2,g3,g4,g5⟩:=C it (by simp);exact wpAny_pyNext_enum_end (I.ok.hd hc) c hit p.isList (wdu (by simp;lia)) λO eb=>{rfl,I.turned (t':=s.toks) (λb o f e=>eb b o f e) g0 g1 g3 g4 g5}
 self:=λ_ _ _ _ _ st h=>let ⟨⟨_,c⟩,_⟩:=st;wcS c h
theorem jK{g:List Expr}{k:Nat}{j:Pos}{l:Expr}{r:TA}{p pos:Pos}(t:Gl X "enumerate")(C:X.mg "enumerate"=none)(ha:PA X [l] r)(hs:starEach [l] X.env=[(false,eval l X.env)]:=by rfl) :
 PI X (.Tuple g k j) (.Call (.Name "enumerate" p) [l] [] pos) (PR X.K r):=by
 refine{?_};intro c s σ H R I h;refine Call_ (eR I t C gG (waZ (bN (ha pos c s σ H _ I h) λD d ⟨E,m,i,o,v⟩=>?_) hs rfl));obtain⟨a,G,e,w,q⟩:=v;subst e;obtain⟨u,rfl,x⟩:=vals1 o;cases x;obtain⟨y,J,pl,L⟩:=i.list w;refine call_enumerate_list pl.isList λz n hit A kp=>wcS n ?_;have B:Inv X c σ m {d with heap:=z}:=i.kept (t':=d.toks) kp;refine{d.heap.objs.size+1,[d.heap.objs.size+1,d.heap.objs.size],_,_,m,rfl,B,Ex a _ _ (wc4 (wbO _)),{{_,n},hit},λb M=>?_,q}
 have f:d.heap.objs.size<=b:=by
  grind
 exact i.tH f (i.b9.fresh f)
theorem uK(hc:X.calm=true):dH X (.type "list") (λxs H Q=>∃(p:Addr) (n:Nat),xs=[.ref p]/\H p=some (.rng 0 (n:Int))/\n<=sizeLine/\∀l,H l=none->Q (.ref l) (upd H l (.lst ((waD n).map λi=>V.int (i:Nat))))):=by
 intro m s σ H xs b Q I r h;obtain⟨p,n,rfl,x,hn,q⟩:=h;obtain⟨u,rfl,y⟩:=vals1 r;cases y;obtain⟨t,u,v,e⟩:=I.b9 p _ x;have f:n<=2^24:=by rw[wcg]at hn;lia
 refine call_list_range (I.ok.hd hc) (n:=n) (show IsRange s.heap p 0 (n:Int) 1 t u v from e) (small_one (by lia) (by lia) (by lia) (by lia)) (by rw[rangeSize_one];split<;>lia) f λg z d c kp A a=>?_
 have B:∀(b:List Value) (k:Nat),(∀(j:Nat) (u:Value),b[j]?=some u->∃t,u=.int ((k+j:Nat):Int) t)->Vals ((wgn k b.length).map λi=>V.int (i:Nat)) b:=by
  intro b
  induction b with
  |nil=>intro k _;exact .nil
  |cons u b C=>
   intro k h;obtain⟨t,e⟩:=h 0 u rfl;rw[waE,whP,wat];refine .cons ⟨t,e⟩ (C (k+1) λj u g=>?_);obtain⟨t,e⟩:=h (j+1) u (by simpa using g);exact{t,by rw[e];congr 1;lia}
 have hl:d.toList.length=n:=by rw[wcD];exact a.1
 have o:=B d.toList 0 λj u e=>by
  obtain⟨t,D⟩:=a.2 j u (by rw[<-wcn];exact e);exact{t,by rw[D];congr 1;lia}
 rw[hl,<-List.range_eq_range']at o;refine{.ref s.heap.objs.size,_,I.laid (t':=z) kp (waa _) (show bU X.prog X.w _ g _ (.lst ((waD n).map λi=>V.int (i:Nat))) from {?_,d.toList,c,o,?_}),rfl,q _ (I.b9.fresh (waa _))}
 .rw[wa0,waJ];exact hn
 .rw[wdH];exact A
theorem BO{P:waC}{w:World}{K:wa2}{j:List Expr}{k:Nat}{pos:Pos}(z:Str)(t:Tok)(nm:String)(e it:Addr)(g:e≠it)
 (D:∀A:Around,A.handled=none->Draws P w A it [it] z.cps.size (λi v=>∃c u,z.cps[i]?=some c/\v=.str {#[c]} u) (λi h=>h.IsStrIter it nm z t i)) :
 Turn P w K (.Tuple j k pos) (Gz z) [e,it] e (λi h=>((∃old,IsEnum h e it (i:Nat) old)/\h.IsStrIter it nm z t i)/\i<=z.cps.size) where
 mem:=by simp
 obj:=λi h st b f=>by
  obtain⟨⟨⟨old,a⟩,o,l,hc,hd⟩,_⟩:=st;rcases waG.mp f with rfl |f
  .exact{_,a,λv z=>by
    have T:wem _=wg8 v:=z
    cases T}
  .have B:b=it:=by simpa using f
   subst B;exact{o,l,λv z=>by rw[hd]at z;cases z}
 keep:=λi h R st k=>{{st.1.1.imp λold a=>k e (by simp) _ a,let ⟨o,l,r⟩:=st.1.2;{o,k it (by simp) o l,r}},st.2}
 item:=by
  intro X C hw G hc i m s σ H E I J st L;subst C hw G;obtain⟨⟨⟨old,a⟩,hit⟩,_⟩:=st;have n:i<z.cps.size:=L;refine wfY (D X.A.in1 (I.ok.hd hc)) a hit n g (by simpa using g) λu R U V l p Y Z hk=>?_;obtain⟨c,S,M,rfl⟩:=V
  have ru:RelV (xA z i) (.str {#[c]} S):={S,by
   rw[wcK,M]
   rfl}
  refine{_,rfl,wdM l λTL N d=>?_};obtain⟨_,O,_⟩:=id hit;have x:e<s.heap.objs.size:=wae a;obtain⟨fr,I1,hn⟩:=oS (y:=.int (i:Nat)) (U+1) I J (λb o h q=>(d.2 b (yC h).1).trans (hk b o (yC h).1 (yC h).2 q)) ((d.2 _ (wc4 x)).trans Y) {_,rfl} ru (MO x (wae O));obtain⟨o,Q,r⟩:=p;exact{.ref s.heap.objs.size,_,I1,rfl,⟨s.heap.objs.size,fr,rfl,rfl⟩,{{{_,by simpa using N},{o,(d.2 it (wbx g)).trans Q,r}},n},hn}
 done:=by
   intro X C hw G hc i m s σ H E I J st L;subst C hw G;obtain⟨⟨⟨old,a⟩,hit⟩,hle⟩:=st;have Qj:z.cps.size<=i:=L;have B:i=z.cps.size:=by lia
   subst B;obtain⟨g0,g1,g2,g3,g4,g5⟩:=J it (by simp);exact wgo (D X.A.in1 (I.ok.hd hc)) a hit λR eb=>{rfl,I.turned (t':=s.toks) (λb o f e=>eb b o f e) g0 g1 g3 g4 g5}
 self:=λ_ _ _ _ _ st h=>let ⟨⟨⟨_,a⟩,_⟩,_⟩:=st;wcS a h
theorem A5{g:List Expr}{k:Nat}{j:Pos}{l:Expr}{C:TA}{p pos:Pos}(J:Gl X "enumerate")(T:X.mg "enumerate"=none)(ha:PA X [l] C)(hs:starEach [l] X.env=[(false,eval l X.env)]:=by rfl) :
 PI X (.Tuple g k j) (.Call (.Name "enumerate" p) [l] [] pos) (MV C):=by
 refine{?_};intro d s σ H R I h;refine Call_ (eR I J T gG (waZ (bN (ha pos d s σ H _ I h) λQ a ⟨S,B,o,G,L⟩=>?_) hs rfl));obtain⟨z,e,q⟩:=L;subst e;obtain⟨u,rfl,t,rfl⟩:=vals1 G;refine call_enumerate_str λr E hit M kp=>wcS E ?_;have N:Inv X d σ B {a with heap:=r}:=o.kept (t':=a.toks) kp
 have fin:∀n,(∀A:Around,A.handled=none->Draws X.prog X.w A a.heap.objs.size [a.heap.objs.size] z.cps.size (λi v=>∃c u,z.cps[i]?=some c/\v=.str {#[c]} u) (λi h=>h.IsStrIter a.heap.objs.size n z t i)) ->
  r.IsStrIter a.heap.objs.size n z t 0->MZ X d σ (.Tuple g k j) R (.ref (a.heap.objs.size+1)) {a with heap:=r}:=by
  intro n D f;refine{a.heap.objs.size+1,[a.heap.objs.size+1,a.heap.objs.size],_,_,B,rfl,N,BO z t n _ _ (wc4 (wbO _)) D,{{{_,E},f},waq _},λb x=>?_,q}
  have m:a.heap.objs.size<=b:=by
   rcases waG.mp x with rfl |x
   .exact wbR _
   .have O:b=a.heap.objs.size:=by simpa using x
    subst O;exact waa _
  exact o.tH m (o.b9.fresh m)
 cases ha:z.cps.all (· < 128)
 .exact fin "str_iterator" (λA y=>Draws.strWide y _ z t) (by simpa [strIterType,ha] using hit)
 .exact fin "str_ascii_iterator" (λA y=>Draws.strAscii y _ z t) (by simpa [strIterType,ha] using hit)
theorem lN(hc:X.calm=true):dH X (.builtin "sum") (λxs H Q=>∃p ns,xs=[.ref p]/\aH X.K H p (wcZ V.int ns)/\Q (.int ns.sum) H):=by
 intro b s σ H xs j Q I r h;obtain⟨p,ns,rfl,d,q⟩:=h;obtain⟨u,rfl,f⟩:=vals1 r;cases f;obtain⟨a,g,pl,k⟩:=I.list d;obtain⟨c,e,rfl⟩:=jB g
 have hl:s.heap.IsList p (intItems c.toArray):=by
  have:intItems c.toArray=a.toArray:=by rw[e];unfold intItems;simp
  rw[this];exact pl.isList
 refine sum_intListG (I.ok.hd hc) hl λl m i hk=>?_;refine{.int _,H,I.kept hk,{i,?_},q};rw[preSum_eq,wbf (by simp)]
theorem Ey{P:waC}{w:World}{K:wa2}{T:Expr}(d it:Addr)(o:Obj)(kvs:List (Key×V))(U:Array DictEntry)(ep:Nat)(J:o.data=.dict U ep):Turn P w K T (JX d o kvs) [it] it (λi h=>h.IsKeyIter it d i kvs.length ep) where
 mem:=by simp
 obj:=λi h st b j=>by
  have e:b=it:=by grind
  subst e;obtain⟨o,e,c,D⟩:=st;exact{o,e,λv z=>by grind}
 keep:=λi h m st k=>st.at λo e=>k it (by simp) o e
 item:=by
  intro X p hw q hc i a s σ H E I n st r;subst p hw q;obtain⟨u,hi⟩:=r;obtain⟨L,rel,f⟩:=BI I u J;have G:kvs[i]?=some kvs[i]:=by simp[hi]
  obtain⟨⟨k,v⟩,M,N,_⟩:=Gr rel G;obtain⟨x,f1,f2,A,B,C⟩:=n it (by simp);rw[rel.length]at st;refine wpAny_pyNext_dict_item st f M λkey m l g sb=>?_;have O:Inv X a σ H {s with heap:=m}:=I.turned (t':=s.toks) (λb o j e=>(sb.2 b j).trans e) x f1 A B C;obtain⟨S,e,c,D⟩:=id g;rw[<-rel.length]at g;refine{key,rfl,xi (s:={s with heap:=m}) e c D ⋯ {kV kvs[i].1,H,O,?_,{rfl,_,G,rfl},g,λb j=>(n b j).1}};have Q:kvs[i].1=k:=N;rw[Q];rcases cf l with⟨i,t,rfl,rfl⟩ |⟨y,t,rfl,rfl⟩
  .exact⟨t,rfl⟩
  .exact⟨t,rfl⟩
 done:=by
   intro X p hw q hc i a s σ H E I n st r;subst p hw q;obtain⟨u,hi⟩:=r;obtain⟨L,rel,f⟩:=BI I u J;obtain⟨x,f1,f2,A,B,C⟩:=n it (by simp);rw[rel.length]at st hi;exact wpAny_pyNext_dict_end (I.ok.hd hc) st f (by simp;omega) λm R=>{rfl,I.turned (t':=s.toks) (λb o j e=>R b o j e) x f1 A B C}
 self:=λ_ _ _ _ _ st h=>wpAny_pyIter_keyiter st h
theorem GY:RO X .Mult Yg:=by
 intro a s σ H x y v u Q I b c h;obtain⟨i,j,d,e,hc,q⟩:=h;subst d;subst e;obtain⟨t,rfl⟩:=b;obtain⟨f,rfl⟩:=c;exact imul_int {.int _,H,I.tok _,{_,rfl},q} hc.ok
theorem Ez(hc:X.calm=true):dH X (.builtin "max") (λxs H Q=>∃p ns,xs=[.ref p]/\aH X.K H p (wcZ V.int ns)/\ns≠[]/\∀M,M∈ns->(∀a∈ns,a<=M)->Q (.int M) H):=by
 intro g s σ H xs w Q I r h;obtain⟨p,ns,rfl,i,c,q⟩:=h;obtain⟨u,rfl,k⟩:=vals1 r;cases k;obtain⟨d,l,pl,x⟩:=I.list i;obtain⟨b,e,rfl⟩:=jB l
 have hl:s.heap.IsList p (intItems b.toArray):=by
  have:intItems b.toArray=d.toArray:=by grind [intItems]
  rw[this];exact pl.isList
 have f:0<b.toArray.size:=by
  rw[waF];exact Nat.pos_of_ne_zero λz=>c (by grind)
 refine max_intList (I.ok.hd hc) hl f λv y A m hk=>?_;obtain⟨t,rfl⟩:=whF m;obtain⟨B,n⟩:=argBest_gt (numAt b.toArray) (b.toArray.size-1);refine{.int _,H,I.kept hk,⟨t,rfl⟩,q _ ?_ λa ha=>?_}
 .rw[numAt_eq];exact getD_mem (by grind)
 .obtain⟨j,o,rfl⟩:=mem_getD ha;rw[wa0]at o;have:=n j (by grind);rw[numAt_eq]at this;exact this
def jL(K:wa2)(J:It)(l:Addr)(σf:St)(tt:TT)(te:TE)(H:Hp)(Q:Hp->Prop):Prop:=
 ∃W:Nat->Nat->List V->Hp->Prop,(∃m,W 0 m [] (upd H l (.lst [])))/\∀i m ys H2,W i m ys H2->H2 l=some (.lst ys) /\
  ((J.stop i H2/\Q H2)\/(J.go i H2/\ys.length<sizeLine/\∀x H3,J.tS i H2 x H3->∃p a b,x=.ref p/\g8 K H3 p [a,b]/\tt (some a::some b::σf) H3 λok H4=>
    if ok=true then te (some a::some b::σf) H4 λy H5=>H5 l=some (.lst ys)/\∃m',m'<m/\W (i+1) m' (ys++[y]) (upd H5 l (.lst (ys++[y])))
    else ∃m',m'<m/\W (i+1) m' ys H4))
def Nh(K:wa2)(wi:TI)(ix:List Nat)(tt:TT)(te:TE):TE:=λσ H Q=>wi σ H λJ H1=>∀l,H1 l=none->jL K J l (pick σ ix) tt te H1 (λH2=>Q (.ref l) H2)
theorem jM{K:wa2}{J:It}{Ok:Hp->Prop}{rs:List Addr}{prs:List (V×V)}{l:Addr}{t:St}{U:TT}{te:TE}{H:Hp}{Q:Hp->Prop}(p:V×V->Bool)(g:V×V->V)(T:lB J Ok (rs.map V.ref))(hT:bc H rs (prs.map iE))(hl:H l=none)(hz:rs.length<=sizeLine)(C:∀j,a8 H j->Ok j)
 (ht:∀q r I,q∈prs->a8 H r->(∀j,a8 r j->I (p q) j)->U (some q.1::some q.2::t) r I)
 (he:∀q r I,q∈prs->p q=true->a8 H r->(∀j,a8 r j->I (g q) j)->te (some q.1::some q.2::t) r I)
 (hd:∀j,a8 H j->j l=some (.lst ((prs.filter p).map g))->Q j):jL K J l t U te H Q:=by
 have f:rs.length=prs.length:=by rw[hT.1,wa0]
 refine{λi m s d=>m=rs.length-i/\i<=rs.length/\a8 H d/\d l=some (.lst s)/\s=((prs.take i).filter p).map g,{rs.length,by simp,waq _,a8.upd hl,a7,by simp},?_};rintro i m s d ⟨rfl,hi,c,k,n⟩;refine{k,?_}
 by_cases a:i<rs.length
 .refine .inr {T.go i d (C _ c) (by rw[wa0];exact a),?_,λx r y=>?_}
  .rw[n,wa0];refine wbg (wb6 _ _) ?_;rw[wad];omega
  .obtain⟨e,v⟩:=T.tS i d x r (C _ c) (by rw[wa0];exact a) y;subst e;have w:prs[i]?=some prs[i]:=wa1 ();have z:rs[i]?=some rs[i]:=wa1 a;rw[wa3,z]at v;obtain rfl:V.ref rs[i]=x:=waf v;have mem:prs[i]∈prs:=waK _;have A:prs.take (i+1)=prs.take i++[prs[i]]:=by rw[waM,w];rfl
   refine{rs[i],prs[i].1,prs[i].2,rfl,g8.of (c _ _ (hT.2 i rs[i] _ z (by rw[wa3,w];rfl))),ht prs[i] _ _ mem c λD h=>?_}
   cases u:p prs[i] with
   |false=>
    rw[if_neg wan];refine{rs.length-(i+1),(),rfl,a,c.trans h,h _ _ k,?_};rw[A,wbB,n];simp[u]
   |true=>
    rw[if_pos rfl];refine he prs[i] _ _ mem u (c.trans h) λE B=>{B _ _ (h _ _ k),rs.length-(i+1),(),rfl,a,λb o e=>?_,a7,?_}
    .rw[af (ag e hl)];exact B _ _ (h _ _ (c _ _ e))
    .rw[A,wbB,n];simp[u]
 .have e:i=rs.length:=();subst e;refine .inl {?_,hd d c ?_}
  .have:=T.stop d (C _ c);rwa[wa0]at this
  .rw[k,n,f,waH]
theorem lO{P:waC}{w:World}{K:wa2}{C:Expr}(it:Addr)(lo c:Int)(n:Nat):Turn P w K C (Bu lo c n) [it] it (λi h=>wel h it (lo+(i:Nat)*c) ((n:Int)-(i:Nat)) c) where
 mem:=by simp
 obj:=λi h st b d=>by
  have e:b=it:=by simpa using d
  subst e
  exact{_,st,λv z=>by
   have A:wem _=wg8 v:=z
   cases A}
 keep:=λi h g st k=>k it (by simp) _ st
 item:=by
  intro X l hw m hc i a s σ H E I j st p;subst l hw m;obtain⟨q,f1,f2,r,u,x⟩:=j it (by simp);have B:=Walks.range (prog:=X.prog) (w:=X.w) (I.ok.hd hc) it lo c n;refine B.item i s _ _ p st λv g y D f G=>?_;obtain⟨t,rfl⟩:=D;have J:Inv X a σ H {s with heap:=g,toks:=y}:=I.turned (λb o d e=>G b o (by simpa using d) e) q f1 r u x;exact{_,rfl,xi (s:={s with heap:=g,toks:=y}) (n:="range_iterator") f rfl rfl ⋯ {.int (lo+(i:Nat)*c),H,J,⟨t,rfl⟩,⟨rfl,rfl⟩,f,λb d=>(j b d).1}}
 done:=by
   intro X l hw m hc i a s σ H E I j st p;subst l hw m;obtain⟨q,f1,f2,r,u,x⟩:=j it (by simp);exact wgj (I.ok.hd hc) st (by have:n<=i:=p;lia) λg L=>{rfl,I.turned (t':=s.toks) (λb o d e=>L b o d e) q f1 r u x}
 self:=λ_ _ _ _ _ st h=>wgk st h
def K9(K:wa2)(wi:TI)(ix:List Nat)(tt:TT)(te:TE)(i:Nat):TS:=λD σ H=>wi σ H λJ H1=>∀l,H1 l=none->jL K J l (pick σ ix) tt te H1 (λH2=>D.nx (σ.set i (some (.ref l))) H2)
theorem yU:lH X (binaryOp .Add) Qn:=by
 intro d s σ H x y v u Q I g i h;obtain⟨l,b,t,w,rfl,rfl,j,k,A,q⟩:=h;cases g;cases i;obtain⟨z,c,n,r,e⟩:=j.ok I.b9;obtain⟨B,a,C,f,m⟩:=k.ok I.b9;have hl:=r.length;have o:=f.length;refine whL e m ?_ (by grind);have p:c.toArray++a.toArray=(c++a).toArray:=by simp
 rw[p];exact{.ref _,_,I.Nc (t':=s.toks) (r.append f) (by grind),rfl,q _ I.fresh}
def uL(K:wa2)(J:It)(l:Addr)(σf:St)(tt:TT)(te:TE)(H:Hp)(Q:Hp->Prop):Prop:=
 ∃W:Nat->Nat->List V->Hp->Prop,(∃m,W 0 m [] (upd H l (.lst [])))/\∀i m ys H2,W i m ys H2->H2 l=some (.lst ys) /\
  ((J.stop i H2/\Q H2)\/(J.go i H2/\ys.length<sizeLine/\∀x H3,J.tS i H2 x H3->∃p a b c,x=.ref p/\g8 K H3 p [a,b,c]/\tt (some a::some b::some c::σf) H3 λok H4=>
    if ok=true then te (some a::some b::some c::σf) H4 λy H5=>H5 l=some (.lst ys)/\∃m',m'<m/\W (i+1) m' (ys++[y]) (upd H5 l (.lst (ys++[y])))
    else ∃m',m'<m/\W (i+1) m' ys H4))
def Ni(K:wa2)(wi:TI)(ix:List Nat)(tt:TT)(te:TE):TE:=λσ H Q=>wi σ H λJ H1=>∀l,H1 l=none->uL K J l (pick σ ix) tt te H1 (λH2=>Q (.ref l) H2)
end
section
variable{X:Cx}{pins:List (Addr×Obj)}{σ:St}{H:Hp}{s:Shared}{e:Addr}
theorem Cx.Ok.marked(ok:X.Ok):(X.marked e).Ok:=
 {ok.mod,ok.kind,ok.glob,ok.blt,ok.above,ok.inj,ok.has,ok.MJ,λz=>Bool.noConfusion z,ok.frames,ok.OA,ok.RJ,ok.bs,ok.Gh,ok.Bl,ok.Eh,ok.oK,ok.JM}
theorem Inv.marked(I:Inv X pins σ H s):Inv (X.marked e) pins σ H s:=⟨I.ok.marked,I.os,I.bare,I.base,I.loc,I.cell,I.free,I.j5,I.pin,I.b9,I.len⟩
theorem Inv.unmarked(ok:X.Ok)(I:Inv (X.marked e) pins σ H s):Inv X pins σ H s:=⟨ok,I.os,I.bare,I.base,I.loc,I.cell,I.free,I.j5,I.pin,I.b9,I.len⟩
theorem A6{K:wa2}{J:It}(h:jL K J l g j r H Q):xD (Gj K 2 (lD (cK 0) (lD (cK 1) Gi))) 2 J l g j r H Q:=
 let ⟨W,a,t⟩:=h
 {W,a,λi m ys f w=>let ⟨p,q⟩:=t i m ys f w;{p,q.imp id λ⟨a,b,c⟩=>{a,b,λx k n u y=>by revert n;refine iC 2 _ ?_;exact λ_ _=>let ⟨p,v,d,e,o,s⟩:=c x k y;{p,[v,d],e,o,rfl,v,[d],rfl,d,[],rfl,rfl,{[some v,some d],rfl,rfl},s}}}}
theorem GZ{K:wa2}{J:It}(h:uL K J l g j r H Q):xD (Gj K 3 (lD (cK 0) (lD (cK 1) (lD (cK 2) Gi)))) 3 J l g j r H Q:=
 let ⟨W,a,t⟩:=h
 {W,a,λi m ys k w=>let ⟨p,q⟩:=t i m ys k w;{p,q.imp id λ⟨a,b,c⟩=>{a,b,λx n o z y=>by revert o;refine iC 3 _ ?_;exact λ_ _ _=>let ⟨p,v,f,d,e,u,s⟩:=c x n y;{p,[v,f,d],e,u,rfl,v,[f,d],rfl,f,[d],rfl,d,[],rfl,rfl,{[some v,some f,some d],rfl,rfl},s}}}}
end
section
variable{f C:Addr}
structure Mk(K:wa2)(C f:Addr):Prop where
 makes:wi0 K C=true
 init:wbj K (.ref C) "__init__"=some (some (.ref f))
 fn:wfG K (.ref f)=true
 kp:wcX K (.ref C)=true
abbrev Jz(X:Cx)(ifs:List Expr)(t:TT):Prop:=Bx (∀(pins:List (Addr×Obj)) (s:Shared) (σ:St) (H:Hp) (Q:Bool->Hp->Prop),Inv X pins σ H s->t σ H Q ->
  wpAny (model X.prog X.w) X.A (forIn ifs true λc r=>if r=true then do let ok <-isTrue c X.env (eval c X.env);pure (wdi ok) else pure (wdi r)) (TP X pins σ Q) X.xe s)
theorem b8{X:Cx}:Jz X [] wx:={λ_ _ _ H _ I h=>wpAny_tests_nil ⟨H,I,h⟩}
theorem gv{X:Cx}(h:PT X c t):Jz X [c] t:={λa s σ H Q I hw=>wpAny_tests_one (h a s σ H Q I hw)}
end
section
variable{X:Cx}{pins:List (Addr×Obj)}{σ:St}{H:Hp}{s₂:Shared}{scope:wd3}{x:Str}{xs ys:List Str}{ix:List Nat}{cl:List (Str×Addr)}{fp:List Addr}{L:Addr}
theorem Ka(B:bS X scope x ys ix)(I:Inv X pins σ H s₂)(j:∀b∈fp,tG X pins H b)(l:∀b∈fp,b<s₂.heap.objs.size)(r:s₂.heap.objs.size<=L)
 (g:∀y c,cl.lookup y=some c->X.env.cells.lookup y=some c) (p:∀y∈scope.names,y.2=.free->∃c,cl.lookup y.1=some c):(bG X scope N cl L s₂ H fp (X.pn++pins)).Ok where
 mod:=I.ok.mod
 kind:=B.kind
 glob:=I.ok.glob
 blt:=I.ok.blt
 above:=r
 inj:=λa b c i m=>I.ok.inj a b c (g a c i) (g b c m)
 has:=λa ha=>by
  obtain⟨k,f,hk⟩:=yL (env:=X.env) B.Gx (x:=a) ha;exact p (a,k) f hk
 MJ:=λ_ _ h=>nomatch h
 hd:=I.ok.hd
 frames:=I.ok.frames
 OA:=.inl rfl
 RJ:=λb d=>{wav (waw (l b d) r),λy c h=>(j b d).2.2.2.2.1 y c (g y c h)}
 bs:=I.bs
 Gh:=wal I.ok.Gh I.sz
 Bl:=λb o e d=>by
  rcases(j b d).2.2.2.1 with z |z
  .exact I.ok.Bl b o e z
  .exact absurd (waw (waw (wae e) I.ok.Gh) z) (wbm _)
 Eh:=λb d f=>by
  rcases waG.mp (I.uv b f) with z |z
  .exact(j b d).2.1 z
  .exact(j b d).2.2.1 z
 oK:=I.stack
 JM:=I.tX
theorem Hc{m₁:Str->Option Value}(B:bS X scope x ys ix)(I:Inv X pins σ H s₂)(hf:∀b∈fp,tG X pins H b)(J:∀b∈fp,b<s₂.heap.objs.size)(T:s₂.heap.objs.size<=L)
 (g:∀y c,cl.lookup y=some c->X.env.cells.lookup y=some c) (C:∀y∈scope.names,y.2=.free->∃c,cl.lookup y.1=some c)
 (kp:∀b o,s₂.heap.get? b=some o->t.get? b=some o) (U:t.Ns L m₁) (hl:l=s₂.heap.objs.size) (TN:l≠L) (ho:t.get? l=some {cls:=.type "list",data:=.seq ([]:List Value).toArray n₀}) :
 Inv (bG X scope (xs++ys) cl L s₂ H fp (X.pn++pins)) [] (waj xs.length none++pick σ ix) (upd H l (.lst [])) {s₂ with heap:=t,toks:=tk}:=by
 subst hl;have Q:=I.b9.fresh (waa s₂.heap.objs.size);refine{Ka B I hf J T g C,rfl,I.bare,Un.laid kp (waa _) Q,{m₁,U,λi y v D E Z=>?_},λy c e=>?_,?_,λy c e=>?_,λp O=>?_,I.b9.laid kp (waa _) {waq _,[],n₀,.nil,ho},?_}
 .obtain⟨j,rfl⟩:∃j,i=xs.length+j:=by
   by_cases z:i<xs.length
   .rw[waA (by simpa using z)]at E;simp[z]at E
   .exact{i-xs.length,by lia}
  have G:ys[j]?=some y:=by
   have D:(xs++ys)[xs.length+j]?=some y:=D;rwa[waB (wdI _ _),wcB]at D
  obtain⟨i,hi,R,hk,a⟩:=B.slots j y G
  have f:(σ[i]?).join=some v:=by
   have:(pick σ ix)[j]?=some (some v):=by rwa[waB (by simp),waN,wcB]at E
   unfold pick at this;rw[wa3,hi]at this;exact waf this
  have s:σ[i]?=some (some v):=by
   cases q:σ[i]? with
   |none=>rw[q]at f;cases f
   |some z=>rw[q]at f;rw[show z=some v from f]
  obtain⟨m,hn,M⟩:=I.loc;have N:P9 X.env.scope y:=.inr (hk.imp id id);obtain⟨u,r,l⟩:=M i y v R s N;refine{u,r,.inr {uE a,?_}};rcases l with⟨k,_⟩ |⟨_,c,hc,h⟩
  .have A:X.env.scope.names.lookup y=some .local:=k;rcases hk with z |z
   .rw[z]at A;cases A
   .rw[z]at A;cases A
  .obtain⟨S,w⟩:=C (y,.free) (wcE a) rfl;have:=g y S w;rw[hc]at this;cases this;obtain⟨o,q,d⟩:=h;exact{c,w,o,kp c o q,d}
 .obtain⟨v,o,q,d⟩:=I.cell y c (g y c e);exact{v,o,kp c o q,d}
 .show upd H s₂.heap.objs.size (.lst []) L=none;rw[af (wbx TN)];exact I.b9.fresh T
 .obtain⟨v,o,q,d⟩:=I.cell y c (g y c e);rw[af (wav (wae q))];exact I.j5 y c (g y c e)
 .rw[waY]at O;obtain⟨q,n,ne,V,d⟩:=I.pin p O;have lt:=wae q;refine{kp _ _ q,by rw[af (wav lt)];exact n,wav (waw lt T),λY=>?_,d};rcases waG.mp (I.uv p.1 Y) with z |z
  .exact ne z
  .exact V z
 .simp[pick,B.len,bG]
theorem Dy(B:bS X scope x ys ix)(cl L s H ex pn):PG (bG X scope ([x]++ys) cl L s H ex pn) (.Name x g) (cK 0):=
 have a:(relabel scope X.env).names.lookup x=some .local:=wcw B.var
 jF B.nd rfl (.inl a) (.inr a)
end
section
variable{P:waC}{w:World}{K:wa2}{mg:Str->Option Value}{base:Heap}{N:List Str}{qual:Str}{scope:wd3}{f:Addr}{cd:Value}{A:Around}{outer:List Env}{s:Shared}{H:Hp}{E:XK}
theorem jC.past{lo:Nat}{H:Hp}{fs:List Addr}{h h':Heap}(x:jC P w H h)(p:Et lo H fs h h')(g:∀b∈fs,H b=none):jC P w H h':=λa o e=>
 (x a o e).uz (λb u c q=>p.keep b u q (.inr (by grind)) λd=>by
   grind) (λ_ q=>q) λ_ _ q=>q
theorem cU:Ds (ux (Bj P w) P w K mg base N qual scope f cd A outer s H E) E:=by
 intro v σ l x e C y I F B;show wpAny (model P w) _ («leaving» _ (.ref e)) (λ_ d=>Bj P w outer H s E (.ref e) d) (λD d=>Bj P w outer H s E D d) x;unfold «leaving»;have g:∀b,x.heap.objs.size<=b->l b=none:=λb a=>I.b9.fresh a;refine wa7 (A0 (lo:=s.heap.objs.size) (H:=l) (base:=base) (outer:=outer) I.ok.frames I.stack rfl I.sz g F λJ G p=>?_);have m:=I.tX
 have h:∀b o,s.heap.get? b=some o->b∉rB outer->b∉(envOfC qual scope s.heap.objs.size f cd::outer).filterMap (·.frame):=λb o a hn j=>by
  rcases waG.mp (show b∈s.heap.objs.size::rB outer from j) with z |z
  .exact absurd (wae a) (by rw[z];exact wbm _)
  .exact hn z
 refine{e,C,y,l,rfl,I.os,I.bare,?_,I.b9.past p m,G,B};have u:=I.base;refine{λb o a n c i=>?_,λb o a n c i=>?_,λb o a n i=>u.free b o a n i,λb o a i=>?_,u.uf,u.tF,u.ug}
 .exact p.keep b o (u.keep b o a n c i) (.inl (wae a)) (h b o a c)
 .obtain⟨sl,k⟩:=u.slot b o a n c i;obtain⟨q,r⟩:=p.slot b _ k (show b∈s.heap.objs.size::rB outer from wac _ c);exact⟨q,r⟩
 .obtain⟨t,k⟩:=u.there b o a i
  by_cases j:b∈(envOfC qual scope s.heap.objs.size f cd::outer).filterMap (·.frame)
  .obtain⟨sl,r⟩:=p.slot b t k j;exact{_,r}
  .exact{t,p.keep b t k (.inl (wae a)) j}
theorem uM(r:KV g j)(C:uj g=true):∀{l:List (Key×V)} {I:List (Key×Value)},KV l I->uj l=true->wi1 A s j I (hitsD g l)
 |_,_,.nil,_=>.nil
 |_,_,@Paired.cons _ _ _ p q ps c h t,fa=>by
  obtain⟨k,v⟩:=p;obtain⟨d,u⟩:=q;obtain⟨f,i⟩:=h;obtain rfl:k=d:=f;have f1:dQ v=true:=waR.mp fa (k,v) (wag ..);have f2:uj ps=true:=waR.mpr λz m=>waR.mp fa z (wac _ m);have n:=uM r C t f2;have a:=r.val k;unfold hitsD;rw[wff];show wi1 A s j ((k,u)::c) ((match bC g k with |some y=>rG v y |none=>false)&&_)
  cases e:bC g k with
  |none=>
   rw[e]at a
   cases b:valueAt j k with
   |none=>exact .miss b
   |some y=>rw[b]at a;exact wb3 a
  |some y=>
   rw[e]at a
   cases b:valueAt j k with
   |none=>rw[b]at a;exact wb3 a
   |some o=>
    rw[b]at a;exact .hit b (Bv i a f1 (Es C e)) n
end
section
variable{X:Cx}{pins:List (Addr×Obj)}{σ:St}{H:Hp}{s:Shared}{a:Addr}{y v:V}{u:Value}{A:Around}{E:Value->Shared->Prop}
theorem EA{Q:Value->Shared->Prop}(C:A.units+1<wcJ)(I:Inv X pins σ H s)(g:ee H a y (some v))(t:RelV y u)(h:∀j s',Inv X pins σ H s'->RelV v j->Q j s') :
 wpAny (model X.prog X.w) A (getItem (.ref a) u) Q E s:=by
 rcases g with⟨d,k,e,f,l⟩ |⟨d,k,b,e,f,n,l⟩
 .subst f;obtain⟨z,hd,q,rel,i⟩:=ku I.b9 e;obtain⟨j,hw,c⟩:=iS.yz (v:=v) (o:=valueAt q k) (by rw[l];exact rel.val k);exact wpAny_getItem_of (rF t) i.mapOf hw (h j _ (I.tok _) c)
 .subst f;cases(show u=wam b from t);obtain⟨z,hd,r,rel,i⟩:=uA I.b9 e;obtain⟨j,hw,c⟩:=iS.yz (v:=v) (o:=(atKey r k).map (·.2)) (by rw[l];exact rel.val k);obtain⟨p,x,m⟩:=wdq.mp hw;refine wpAny_getItem_heap (wdl C) (qJ I.b9 n) i x ?_;rw[m];exact h j _ (I.tok _) c
theorem Inv.BP{l g:Hp}{j s1:Shared}{h':Heap}(C:Inv X pins σ l j)(r:s1.os=j.os)(bare:AllBare s1.gens)(un:Un (rB X.stack) [] l g j.heap s1.heap)(b9:jC X.prog X.w g s1.heap)
 (p:Et j.heap.objs.size g (rB X.stack) s1.heap h') (t:∀b∈rB X.stack,g b=none):Un (rB X.stack) [] l g j.heap h'/\jC X.prog X.w g h'/\∀tk,Inv X pins σ g {s1 with heap:=h',toks:=tk}:=by
 have e:Un (rB X.stack) [] l g j.heap h':=by
  refine{λb o d n a f=>p.keep b o (un.keep b o d n a f) (.inl (wae d)) a,λb o d n a f=>?_,un.free,λb o d f=>?_,un.uf,un.tF,un.ug}
  .obtain⟨sl,h⟩:=un.slot b o d n a f;obtain⟨i,k⟩:=p.slot b _ h a;exact⟨i,k⟩
  .obtain⟨m,h⟩:=un.there b o d f
   by_cases q:b∈rB X.stack
   .obtain⟨sl,k⟩:=p.slot b m h q;exact{_,k}
   .exact{m,p.keep b m h (.inl (wae d)) q}
 have c:=b9.past p t;exact{e,c,λtk=>C.xC (s':={s1 with heap:=h',toks:=tk}) r e c bare λb z=>absurd z (by simp)}
theorem Nj(g:X.A.units<wcJ):lH X (wbo .Eq) Te:=by
 intro c s σ H x y v u Q I f i h;obtain⟨a,b,p,r,rfl,rfl,ha,j,fa,k,q⟩:=h;cases f;cases i;obtain⟨_,l,t,d,m⟩:=ku I.b9 ha;obtain⟨_,n,w,e,o⟩:=ku I.b9 j;refine PySem.W.keq_eq l n m o g (λ_=>uM e k d fa) {.bl _,H,I,rfl,?_};rw[<-d.length,<-e.length];exact q
end
section
variable{X:Cx}{e:Expr}{es:List Expr}{te:TE}{t:TA}
theorem a9(ha:PE X e te)(g:PA X es t)(hs:starEach (e::es) X.env=(false,eval e X.env)::starEach es X.env:=by rfl):PA X (e::es) (rE te t):=by
 refine{?_};intro pos a s σ H Q I h;rw[hs];show wpAny _ _ (spliced ((false,eval e X.env)::backTo pos (starEach es X.env))) _ _ s;refine wdm (bN (ha a s σ H _ I h) λu b ⟨x,c,d,f,i⟩=>?_);exact bN (g pos a b σ c _ d i) λo p ⟨j,k,l,m,n⟩=>{x::j,k,l,.cons f m,n}
theorem aM(ha:PE X e te)(hs:starEach [e] X.env=(false,eval e X.env)::starEach [] X.env:=by rfl):PA X [e] (rE te yA):=a9 ha dN hs
end
section
variable{s:Shared}{f:Str}{A:Around}{E:Value->Shared->Prop}
theorem Kb{Q:Value->Shared->Prop}(j:wcz e f env (eval e env)=eval e env)
 (h:wpAny (model prog w) A (eval e env) (λo g=>wpAny (model prog w) A (getAttr o f true) Q E g) E s):wpAny (model prog w) A (eval (.Attribute e f pos) env) Q E s:=
 Attribute_any_ h (by rw[arm_eval_Attribute,j])
theorem oV{X:Cx}:∀{g:List Expr} {is:List Int},tW g=some is->PA X g (LZ is)
 |[],is,h=>by
  obtain rfl:[]=is:=waf h;exact dN
 |e::g,is,h=>by
  unfold tW at h;split at h
  .rename_i heq;exact nomatch heq
  .rename_i i j p a heq;cases heq
   cases q:tW g with
   |none=>rw[q]at h;cases h
   |some b=>
    rw[q]at h;obtain rfl:=waf h;exact a9 ao (oV q)
  .cases h
theorem Kc{X:Cx}{ps:List (Int×Int)}(h:PA X g (uk ps)):PA X (.Tuple [.Constant (.int i) l p,.Constant (.int j) r t] C pt::g) (uk ((i,j)::ps)):=a9 (dP (a9 ao (a9 ao dN))) h
end
section
variable{X:Cx}{e:Expr}{es:List Expr}{te:TE}{t:TJ}{pos:Pos}
theorem BQ(h:PJ X es t):PJ X (.Constant (.str z) j pos::es) (Tz z t):={λa s σ H b Q I q=>
 joinParts_cons (whd {q.1,h a _ σ H _ Q (I.tok _) q.2})}
theorem Hd(he:PE X e te)(h:PJ X es t):PJ X (.FormattedValue e (-1) none pos::es) (TB te t):={λa s σ H j Q I q=>by
 refine joinParts_cons (FormattedValue_plain (bN (he a s σ H _ I q) λv n ⟨y,d,f,g,k⟩=>?_));rcases k with⟨i,rfl,hl,b,c⟩ |⟨z,rfl,hl,b,c⟩
 .obtain⟨l,rfl⟩:=g;exact formatField_int_small hl {b,h a _ σ d _ Q (f.tok _) c}
 .obtain⟨l,rfl⟩:=g
  exact formatField_str (λo m=>{b,h a _ σ d _ Q (f.tok _) c}) hl}
end
section
variable{X:Cx}{x:Str}{p pos:Pos}{e:Expr}{es:List Expr}{t:TA}{id:String}{r:List V->Hp->VK->Prop}
def RV(r:List V->Hp->VK->Prop)(t:TA):TE:=λσ H Q=>t σ H λvs H1=>r vs H1 Q
theorem aT(hc:dH X (.builtin id) r)(j:Gl X x)(l:X.mg x=none)(C:waV x=some (.builtin id))(ha:PA X (e::es) t)(hn:x≠"__name__":=by decide)(g:(x==("__debug__":Str))=false:=by decide)
 (he:starEach (e::es) X.env=(false,eval e X.env)::starEach es X.env:=by rfl) (hpl:(backTo pos (starEach es X.env)).any (·.1)=false:=by rfl):PE X (.Call (.Name x p) (e::es) [] pos) (RV r t):=by
 refine{?_};intro a s σ H Q I h;refine wbr (eR I j l C ?_ hn g);exact weQ (bN (ha pos a s σ H _ I h) λb c ⟨d,f,i,k,m⟩=>hc a c σ f d b Q i k m) he hpl
end
section
variable{X:Cx}{e:Expr}{te:TE}{lo hi:Option Expr}{tl th:TO}{pos p2:Pos}
def TQ(X:Cx)(r:V->Option Int->Option Int->Hp->VK->Prop):Prop:=
 ∀(pins:List (Addr×Obj)) (s:Shared) (σ:St) (H:Hp) (x:V) (v vl vu:Value) (lo hi:Option Int) (sl:Addr) (Q:VK),Inv X pins σ H s->RelV x v->s.heap.IsSliceOf sl vl vu .none->IsPart vl lo->IsPart vu hi->r x lo hi H Q ->
  ∃T id,wfy (.type T) "__getitem__"=pure (some (.builtin id))/\s.TypeIs v T/\wpAny (model X.prog X.w) X.A (getItem v (.ref sl)) (EP X pins σ Q) X.xe s
theorem b6{r:V->Option Int->Option Int->Hp->VK->Prop}(j:TQ X r)(he:PE X e te)(hl:PO X lo tl)(p:PO X hi th):PE X (.Subscript e (.Slice lo hi none p2) pos) (Yj r te tl th):=by
 refine{?_};intro a s σ H Q I h;refine Subscript_ (bN (he a s σ H _ I h) λv i ⟨x,k,m,n,o⟩=>?_);refine wpAny_Slice (bN (hl a i σ k _ m o) λd t ⟨l,y,z,pl,B⟩=>bN (p a t σ y _ z B) λf c ⟨u,g,C,D,E⟩=>?_);rw[evalPart_none];refine waz ?_;have G:Inv X a σ g {c with heap:=c.heap.push {cls:=.type "slice",data:=.fields #[d,f,.none]}}:=C.kept (t':=c.toks) λb ob q=>wa9 _ q;obtain⟨T,id,J,L,M⟩:=j a {c with heap:=c.heap.push {cls:=.type "slice",data:=.fields #[d,f,.none]}} σ g x v d f l u c.heap.objs.size Q G n (Heap.IsSliceOf.new ..) pl D E;show wpAny (model X.prog X.w) X.A (wgX e (.Slice lo hi none p2) v (.ref c.heap.objs.size)) (EP X a σ Q) X.xe {c with heap:=c.heap.push {cls:=.type "slice",data:=.fields #[d,f,.none]}};exact tail_any (ops:=[.ref c.heap.objs.size,v]) L J M (by with_unfolding_all rfl)
end
section
variable{X:Cx}{o e:Expr}{es:List Expr}{to:TE}{t:TA}{name:Str}{apos eP:Pos}{T id:String}{r:V->List V->Hp->VK->Prop}
theorem He(p:wgL T)(slot:Slot T name id)(l:typeOf (.builtin id)=pure (.type "method_descriptor"))(C:M7 X id r)(J:PE X o to)
 (g:wcz o name X.env (eval o X.env)=eval o X.env:=by rfl) (j:(apos.endLine==eP.line)=true:=by rfl):PE X (.Call (.Attribute o name apos) [] [] eP) (Q8 X.K T r to):=by
 refine{?_};intro a s σ H Q I h;refine wpAny_Call_method0_late g j (bN (J a s σ H _ I h) λv d ⟨x,e,b,c,ty,f⟩=>?_);obtain⟨i,k⟩:=GJ b c ty;exact{T,id,p,slot,l,i,k,wdv rfl (PySem.evalArgs_none (C a d σ e x [] v [] Q b c .nil f))}
theorem gB(J:wgL T)(slot:Slot T name id)(C:typeOf (.builtin id)=pure (.type "method_descriptor"))(U:M7 X id r)(ho:PE X o to)(ha:PA X (e::es) t)
 (j:wcz o name X.env (eval o X.env)=eval o X.env:=by rfl)
 (p:((backTo eP (starEach (e::es) X.env)).all (λx=>!x.1)&&(backToKw eP (wcI [] X.env)).all (λx=>x.1.isSome)
   && decide ((e::es).length+([]:List wez).length+(if ([]:List wez).isEmpty then 0 else 1)<30))=true:=by rfl)
 (l:(apos.endLine==eP.line)=true:=by rfl) (hs:starEach (e::es) X.env=(false,eval e X.env)::starEach es X.env:=by rfl) (g:(backTo eP (starEach es X.env)).any (·.1)=false:=by rfl) :
 PE X (.Call (.Attribute o name apos) (e::es) [] eP) (VL X.K T r to t):=by
 refine{?_};intro a s σ H Q I h;refine wpAny_Call_method_late j p l rfl (bN (ho a s σ H _ I h) λv f ⟨x,i,b,c,ty,k⟩=>?_);obtain⟨m,n⟩:=GJ b c ty;refine{T,id,J,slot,C,m,n,?_};have d:=ha eP a f σ i _ b k;rw[hs]at d ⊢;refine wdv (by show (false ||(backTo eP (starEach es X.env)).any (·.1))=false;rw[g]<;>rfl) (weR ?_);exact bN d λq u ⟨w,y,z,A,B⟩=>U a u σ y x w v q Q z c A B
theorem et:TQ X (λx lo hi H Q=>∃z,x=.str z/\z.length<=sizeLine/\Q (.str (waU z lo hi)) H):=by
 intro a s σ H x v p r lo hi sl Q I m n pl f h;obtain⟨z,rfl,b,q⟩:=h;obtain⟨t,rfl⟩:=m;refine{"str",_,slot_str_getitem.lookup,typeIs_str s z t,?_};have fin:∀d k,EP X a σ Q (.str (waU z lo hi) d) {s with toks:=k}:=λd k=>{.str _,H,I.tok k,⟨d,rfl⟩,q};obtain⟨o,c,hc,hd⟩:=n
 cases pl with
 |none=>cases f with
  |none=>exact wd7 (l:=none) (u:=none) (st:=none) ⟨o,c,hc,hd⟩ rfl (weS {wal (weT z _ _) b,fin})
  |int j e=>exact wd7 (l:=none) (u:=some (j,e)) (st:=none) ⟨o,c,hc,hd⟩ rfl (weS {wal (weT z _ _) b,fin})
 |int i g=>cases f with
  |none=>exact wd7 (l:=some (i,g)) (u:=none) (st:=none) ⟨o,c,hc,hd⟩ rfl (weS {wal (weT z _ _) b,fin})
  |int j e=>exact wd7 (l:=some (i,g)) (u:=some (j,e)) (st:=none) ⟨o,c,hc,hd⟩ rfl (weS {wal (weT z _ _) b,fin})
end
section
variable{prog:waC}{w:World}{A:Around}{R:wek->Shared->Prop}{s:Shared}
theorem EB(I:Nat->Shared->Prop)
 (J:∀n s,I n s->wpAny (model prog w) A (pyNext it) (λr g=>match r with
   |none=>R (.ok .next) g
   |some v=>wpAny (model prog w) A (weK target it v) (λ_ j=>wpAny (model prog w) A (assign target env v) (λ_ p=>
     wpAny (model prog w) A (forIn T true λc r=>if r=true then do let ok <-isTrue c env (eval c env);pure (wdi ok) else pure (wdi r)) (λok l=>
      if ok=true then wpAny (model prog w) A (eval U env) (λx t=>
       wpAny (model prog w) A (call (.builtin "list.append") [acc,x]) (λ_ C=>∃m,m<n/\I m C) (notedBy (model prog w) A env λe s'=>R (.error e) s') t) (notedBy (model prog w) A env λe s'=>R (.error e) s') l
      else ∃m,m<n/\I m l) (notedBy (model prog w) A env λe s'=>R (.error e) s') p) (notedBy (model prog w) A env λe s'=>R (.error e) s') j) (notedBy (model prog w) A env λe s'=>R (.error e) s') g) (notedBy (model prog w) A env λe s'=>R (.error e) s') s)
 (n:Nat) (h:I n s) :
 codeAny (model prog w) A (.compLoop (.ListComp U [⟨target,iter,T,0⟩] scope pos) 0 it acc env) R s:=by
 refine codeAny_loop rfl I (λn s q=>?_) n h;show wpAny _ A ((compTurn (.ListComp U [⟨target,iter,T,0⟩] scope pos) 0 it acc env).onRaise (λx=>do noteFrame x env;theTreesLotGoes x)) _ _ s;refine wpAny_noted ?_;rw[compTurn_list];refine wa7 (wdL (wa7 (wb8 (J n s q) (λr g b=>?_) λ_ _ a=>a)))
 cases r with
 |none=>exact waz b
 |some v=>
  refine wa7 (wb8 b (λ_ j f=>?_) λ_ _ a=>a);refine wa7 (wb8 f (λ_ p i=>wa7 (wb8 i (λok l d=>?_) λ_ _ a=>a)) λ_ _ a=>a)
  cases ok with
  |false=>exact waz ⟨rfl,d⟩
  |true=>
   exact wa7 (wa7 (wb8 d (λx t k=>wa7 (wb8 k (λ_ C o=>waz (waz ⟨rfl,o⟩)) λ_ _ a=>a)) λ_ _ a=>a))
theorem Dz{X:Cx}{K:wa2}{o:Expr}{t:TE}{name:Str}{apos g:Pos}{T id:String}{r:V->List V->Hp->VK->Prop}(C:X.K=K)(I:wgL T)(slot:Slot T name id)(p:typeOf (.builtin id)=pure (.type "method_descriptor"))(J:M7 X id r)(U:PE X o t)
 (j:wcz o name X.env (eval o X.env)=eval o X.env:=by rfl) (l:(apos.endLine==g.line)=true:=by rfl):PE X (.Call (.Attribute o name apos) [] [] g) (Q8 K T r t):=by
 subst C;exact He I slot p J U j l
end
section
variable{X:Cx}{scope:wd3}{x:Str}{ys:List Str}{ix:List Nat}
theorem Hf{X:Cx}{K:wa2}{o e:Expr}{l:List Expr}{to:TE}{t:TA}{name:Str}{apos g:Pos}{T id:String}{r:V->List V->Hp->VK->Prop}(hK:X.K=K)(pa:wgL T)(slot:Slot T name id)(U:typeOf (.builtin id)=pure (.type "method_descriptor"))(hm:M7 X id r)(ho:PE X o to)(ha:PA X (e::l) t)
 (p:wcz o name X.env (eval o X.env)=eval o X.env:=by rfl)
 (J:((backTo g (starEach (e::l) X.env)).all (λx=>!x.1)&&(backToKw g (wcI [] X.env)).all (λx=>x.1.isSome)
   && decide ((e::l).length+([]:List wez).length+(if ([]:List wez).isEmpty then 0 else 1)<30))=true:=by rfl)
 (I:(apos.endLine==g.line)=true:=by rfl) (hs:starEach (e::l) X.env=(false,eval e X.env)::starEach l X.env:=by rfl) (j:(backTo g (starEach l X.env)).any (·.1)=false:=by rfl) :
 PE X (.Call (.Attribute o name apos) (e::l) [] g) (VL K T r to t):=by
 subst hK;exact gB pa slot U hm ho ha p J I hs j
theorem wC{K:wa2}(g:X.K=K):dH X (.type "list") (λxs H Q=>∃p ys,xs=[.ref p]/\(aH K H p ys\/g8 K H p ys)/\∀l,H l=none->Q (.ref l) (upd H l (.lst ys))):=by
 subst g;exact dk
end
section
variable{prog:waC}{w:World}{A:Around}{E:Value->Shared->Prop}{s:Shared}{K:wa2}{x dx C:Addr}{mA:Str->Option Value}{name:Str}{v:Value}
theorem get_map{Q:Value->Shared->Prop}(X:K.In s.heap)(I:Bm s.heap x dx C mA)(j:wet K C name=true)(l:wfk K C=true)
 (ha:wbj K (.ref C) name=some none) (p:mA name=some v) (g:whK v=true) (h:Q v {s with toks:=s.toks+1}) :
 wpAny (model prog w) A (getAttr (.ref x) name expr) Q E s:=by
 obtain⟨a,J,hl⟩:=I.look;exact PySem.W.get_value X J (wf2 j).1 (PySem.W.findObj_own l ha rfl (by rw[hl,p])) g h
theorem Kd{Q:Unit->Shared->Prop}(X:K.In s.heap)(I:Bm s.heap x dx C mA)
 (hs:wbj K (.ref C) "__setattr__"=some (some (.builtin "object.__setattr__"))) (g:whq K C=true) (j:wg5 K C name=some none) (l:wfk K C=true)
 (hw:we0 mA ns) (hsz:ns.length<=sizeLine)
 (h:∀h',Bm h' x dx C (λy=>if y=name then some v else mA y)->wfH dx s.heap h'->Q .unit {s with heap:=h',toks:=s.toks+2}) :
 wpAny (model prog w) A (setAttr (.ref x) name v) Q E s:=by
 obtain⟨p,J,hl⟩:=I.look;refine wfs X J hs (PySem.W.osa_open (s:={s with toks:=s.toks+1}) (r:=none) X J g j λb=>?_);obtain⟨q,hc,e⟩:=PySem.W.any_some l;have i:s.heap.get? x=some {.ref C,some dx,.plain,#[]}:=I.obj;refine wa7 (waz (wa7 (wa7 (wgz i (wa7 (wfc (s:={s with toks:=s.toks+1}) (wei X hc) ?_))))));rw[e];refine waz (a:=some dx) (wa7 (waz (wa7 ?_)));refine whf (s:={s with toks:=s.toks+1}) I.ns λh' c d=>?_;obtain⟨t,k,m,f,n,o⟩:=c.count (wgb name v hw);refine wa7 (wfJ f (by grind [wfK,wal]) ?_);exact waz (h _ {(d.2 _ (wbx I.ne)).trans I.obj,c,I.ne} d)
end
section
variable{prog:waC}{w:World}{A:Around}{E:Value->Shared->Prop}{s:Shared}{K:wa2}{x dx C f:Addr}{mA:Str->Option Value}{name:Str}
theorem Hg{Q:Value×List Value->Shared->Prop}(X:K.In s.heap)(I:Bm s.heap x dx C mA)(g:wet K C name=true)
 (j:wbj K (.ref C) name=some (some (.ref f))) (l:wfG K (.ref f)=true) (p:mA name=none) (h:Q (.ref f,[.ref x]) s) :
 wpAny (model prog w) A (weC (.ref x) name pl) Q E s:=by
 obtain⟨a,J,hl⟩:=I.look;exact PySem.W.method_fn X J (wf2 g).1 (wf2 g).2 j (beq_iff_eq.mp l) (by show (wf6 name a).map (·.isSome)=some false;rw[hl,p];rfl) h
theorem A7{R:wek->Shared->Prop}(X:K.In s.heap)(l:wi0 K C=true)
 (hi:wbj K (.ref C) "__init__"=some (some (.ref f))) (p:PySem.W.typeIn K (.ref f)=some (.type "function"))
 (h:codeAny (model prog w) (A.under (.builtin "type.__call__" {.ref C::vs,j})) (.call (.ref f) {.ref (s.heap.objs.size+1)::vs,j}) (PySem.W.InitBack (s.heap.objs.size+1) R)
   {s with heap:=(s.heap.push wbY).push (wcs C s.heap.objs.size)}) :
 codeAny (model prog w) A (.call (.ref C) ⟨vs,j⟩) R s:=by
 obtain⟨a,g,d,t,os⟩:=s;exact PySem.W.make_core (PySem.W.makes_of X l) (wf8 X hi) (λself=>PySem.W.bind_fn X self p) (.inl rfl) h
end
section
variable{X:Cx}{st:Stmt}{tx:OG}
theorem Hh(g:VJ X st tx):Q6 X [st] tx:=by
 refine{?_};intro a s σ H D E I h;refine wd0 (wb8 (g a s σ H D E I h) (λf b q=>?_) λ_ _ z=>z)
 cases f with
 |next=>exact wcu q
 |ret v=>exact q
 |brk=>exact q
 |cont=>exact q
end
section
variable{X:Cx}{t u:TS}{pos:Pos}
theorem bA{c:Expr}{a b:List Stmt}{g:TT}(hc:PT X c g)(ha:wt X a t)(l:wt X b u):PS X (.If c a b pos) (Tw g t u):=by
 refine{?_};intro e s σ H D I h;refine wpAny_If (bN (hc e s σ H _ I h) λd f ⟨i,j,k⟩=>?_)
 cases d with
 |true=>exact ha e f σ i D j k
 |false=>exact l e f σ i D j k
end
section
variable{C:Addr}{sp:Sp}{x:Str}{t:TA}
noncomputable def Nk(C:Addr)(sp:Sp)(t:TA):Py:=λE σ H Q=>t σ H λvs H1=>∀x dx,H1 x=none->H1 dx=none->dx≠x ->
 sp (.ref x::vs) (upd (upd H1 dx (.own x)) x (.ins C dx [])) (λv H2=>v=.non/\Q (.ref x) H2) E
end
section
variable{X:Cx}{ta:TE}{a b:Expr}{pos:Pos}
theorem d4(g:lH X (wbo op) r)(ha:PE X a ta)(j:PE X b l)(h:op≠.In:=by decide)(I:op≠.NotIn:=by decide):PT X (.Compare a [op] [b] pos) (LV (Pj r ta l)):=fD g ha j (hX _ h I)
end
section
variable{X:Cx}{pins:List (Addr×Obj)}{σ:St}{H:Hp}{s:Shared}{C:Addr}
theorem Inv.made(I:Inv X pins σ H s):Inv X pins σ (upd (upd H s.heap.objs.size (.own (s.heap.objs.size+1))) (s.heap.objs.size+1) (.ins C s.heap.objs.size []))
 {s with heap:=(s.heap.push wbY).push (wcs C s.heap.objs.size)}:=by
 have c:(s.heap.push wbY).get? s.heap.objs.size=some wbY:=wap s.heap rfl
 have d:((s.heap.push wbY).push (wcs C s.heap.objs.size)).get? (s.heap.objs.size+1)=some (wcs C s.heap.objs.size):=by
  have:=wap (s.heap.push wbY) (o:=wcs C s.heap.objs.size) rfl;rwa[wbS]at this
 have f:(s.heap.push wbY).Ns s.heap.objs.size (λ_=>none):={wbY,#[],_,c,rfl,(λe g=>absurd g (by simp)),λ_=>rfl};have h:=I.laid (a:=s.heap.objs.size) (o:=.own (s.heap.objs.size+1)) (h':=s.heap.push wbY) (t':=s.toks) (λb u q=>wa9 _ q) (waa _) {_,c};refine h.laid (a:=s.heap.objs.size+1) (o:=.ins C s.heap.objs.size []) (t':=s.toks) (λb u q=>wa9 _ q) (we2 (wbS _ _)) ?_;have ne:s.heap.objs.size≠s.heap.objs.size+1:=wav (wbO _);refine{by rw[af ne,a7],waq _,ne,d,λ_=>none,(whr f).at λo q=>wa9 _ q,λ_=>wbz,λy i=>absurd rfl i}
end
section
variable{X:Cx}{pins:List (Addr×Obj)}{σ:St}{H:Hp}{s s':Shared}
theorem Inv.after(I:Inv X pins σ H s)(h:CE X.stack X.prog X.w H s Q u s'):EP X pins σ Q u s':=by
 obtain⟨v,c,os,bare,un,b9,r,q⟩:=h;obtain⟨e,g,d,t,a⟩:=s';obtain rfl:a=s.os:=os;exact{v,c,I.call (h':=e) (g':=g) (d':=d) (t':=t) (ch:=[]) un b9 bare (λb z=>absurd z (by simp)),r,q}
end
section
variable{X:Cx}{CX:G7}{k:Nat}{f C:Addr}{fd:wbw}{ps:List Str}{sp:Sp}{wq:List V}{ds:List Value}{E:XK}{x:Str}{p pos:Pos}{e:Expr}{es:List Expr}{t:TA}
theorem BR(F:aS X.prog X.w X.K X.mg X.base CX k f fd ps sp)(j:dF k X.A)(l:Binds X.K fd ps ds)(hd:Vals wq ds)(J:Passes CX X E)
 (I:Inv X g σ H s) (r:Vals vs us) (h:sp (vs++wq) H Q E):wpAny (model X.prog X.w) X.A (call (.ref f) us) (EP X g σ Q) X.xe s:=by
 have b:Vals (vs++wq) (us++ds):=r.append hd;have hl:(us++ds).length=ps.length:=by rw[<-b.length];exact F.len _ _ _ _ h
 refine wdn (wch (F.run X.A X.stack s H {us,[]} (us++ds) (vs++wq) Q E j I.K5 (l s us I.gT hl) b h) λr c a=>?_)
 cases r with
 |error e=>exact J g σ H s e c I a
 |ok fl=>
  cases fl with
  |ret u=>exact I.after a
  |next=>exact wb3 a
  |brk=>exact wb3 a
  |cont=>exact wb3 a
theorem jN(F:aS X.prog X.w X.K X.mg X.base CX k f fd ps sp)(j:dF k X.A)(l:Gl X x)(J:X.mg x=some (.ref f))(hk:wcX X.K (.ref f)=true)(T:Binds X.K fd ps ds)(hd:Vals wq ds)(U:Passes CX X E)
 (ha:PA X (e::es) t) (g:(x==("__debug__":Str))=false:=by decide) (he:starEach (e::es) X.env=(false,eval e X.env)::starEach es X.env:=by rfl) (hpl:(backTo pos (starEach es X.env)).any (·.1)=false:=by rfl) :
 PE X (.Call (.Name x p) (e::es) [] pos) (LW sp wq E t):=by
 refine{?_};intro a s σ H Q I h;refine wbr (gu I l J ?_ g);refine wcL (h₀:=X.base) I.ok.mod.LO hk (bN (ha pos a s σ H _ I h) λc d ⟨i,m,b,r,q⟩=>{b.gT,?_}) he hpl;exact BR F j T hd U b r q
theorem Hi(M:Mk X.K C f)(F:aS X.prog X.w X.K X.mg X.base CX k f fd ps sp)(l:dF (k+1) X.A)(J:Binds X.K fd ps ds)(hd:Vals wq ds)
 (T:Passes CX X E) (I:Inv X g σ H s) (r:Vals vs us)
 (h:∀x j,H x=none->H j=none->j≠x->sp (.ref x::(vs++wq)) (upd (upd H j (.own x)) x (.ins C j [])) (λv U=>v=.non/\Q (.ref x) U) E) :
 wpAny (model X.prog X.w) X.A (call (.ref C) us) (EP X g σ Q) X.xe s:=by
 have c:=h (s.heap.objs.size+1) s.heap.objs.size (I.b9.fresh (wbR _)) (I.b9.fresh (waa _)) (wav (wbO _));have b:=Inv.made (C:=C) I;have d:Vals (V.ref (s.heap.objs.size+1)::(vs++wq)) (wam (s.heap.objs.size+1)::(us++ds)):=.cons rfl (r.append hd)
 have hl:(wam (s.heap.objs.size+1)::us++ds).length=ps.length:=by
  have e:=d.length;rw[F.len _ _ _ _ c]at e;exact e.symm
 refine wdn (A7 (f:=f) I.gT M.makes M.init (beq_iff_eq.mp M.fn) (wch (F.run _ X.stack _ _ {wam (s.heap.objs.size+1)::us,[]} (wam (s.heap.objs.size+1)::(us++ds)) _ _ E (l.make C us [])
  (b.K5.make C us []) (J _ (wam (s.heap.objs.size+1)::us) b.gT hl) d c) λr i a=>?_))
 cases r with
 |error e=>exact T g σ _ _ e i b a
 |ok fl=>
  cases fl with
  |ret u=>
   obtain⟨v,m,n,o,p,q⟩:=b.after a;subst p;exact{o,{V.ref (s.heap.objs.size+1),m,n,rfl,q}}
  |next=>exact wb3 a
  |brk=>exact wb3 a
  |cont=>exact wb3 a
theorem mS(M:Mk X.K C f)(F:aS X.prog X.w X.K X.mg X.base CX k f fd ps sp)(j:dF (k+1) X.A)(l:Gl X x)(J:X.mg x=some (.ref C))(T:Binds X.K fd ps ds)(hd:Vals wq ds)(U:Passes CX X E)
 (ha:PA X (e::es) t) (g:(x==("__debug__":Str))=false:=by decide) (he:starEach (e::es) X.env=(false,eval e X.env)::starEach es X.env:=by rfl) (hpl:(backTo pos (starEach es X.env)).any (·.1)=false:=by rfl) :
 PE X (.Call (.Name x p) (e::es) [] pos) (Pp C sp wq E t):=by
 refine{?_};intro a s σ H Q I h;refine wbr (gu I l J ?_ g);refine wcL (h₀:=X.base) I.ok.mod.LO M.kp (bN (ha pos a s σ H _ I h) λc d ⟨i,m,b,r,q⟩=>{b.gT,?_}) he hpl;exact Hi M F j T hd U b r q
end
section
variable{X:Cx}
theorem au(F:aS X.prog X.w X.K X.mg X.base cO k f fd ps sp)(a:FnAt X.K X.mg x sm ps f fd)(ha:PA X (e::j) t)(r:dF k X.A:=by exact dF.mono (by assumption) ⋯)(C:Gl X x:=by rfl)(l:(x==("__debug__":Str))=false:=by decide)
 (he:starEach (e::j) X.env=(false,eval e X.env)::starEach j X.env:=by rfl) (hpl:(backTo pos (starEach j X.env)).any (·.1)=false:=by rfl):PE X (.Call (.Name x p) (e::j) [] pos) (LW sp [] E0 t):=
 jN F r C a.g a.F.kp a.b .nil oR ha l he hpl
end
section
variable{X:Cx}{o i:Expr}{pos:Pos}{td ty:TE}
theorem d7(j:X.A.units+1<wcJ)(l:PE X o td)(hi:PE X i ty)(hs:Pw i):PE X (.Subscript o i pos) (PQ td ty):=by
 refine{?_};intro b s σ H Q I h;refine JS PySem.F.slot_dict_getitem.lookup hs (bN (l b s σ H _ I h) λu e ⟨x,f,k,m,n⟩=>bN (hi b e σ f _ k n) λw z ⟨y,p,d,q,a,v,ex,g,r⟩=>?_);subst ex;obtain rfl:u=wam a:=m;exact{zW d g,EA j d g q λB C t c=>⟨v,p,t,c,r⟩}
end
section
variable{X:Cx}{a b:Expr}{ta tb:TE}{pos:Pos}{rest:List Expr}
theorem lP(ha:PE X a ta)(j:PE X (.BoolOp .And (b::rest) pos) tb):PE X (.BoolOp .And (a::b::rest) pos) (PY ta tb):=by
 refine{?_};intro d s σ H Q I h;refine BoolOp_and (bN (ha d s σ H _ I h) λv i ⟨x,f,g,k,e⟩=>?_);obtain⟨c,rfl,e⟩:=e;cases k;refine wbW ?_
 cases c with
 |true=>exact j d i σ f Q g e
 |false=>exact{.bl false,f,g,rfl,e}
end
section
variable{X:Cx}{pins:List (Addr×Obj)}{σ:St}{H:Hp}{s:Shared}{x:Addr}{φ:Heap->Prop}
theorem Inv.del(I:Inv X pins σ H s)(g:H x=some (.ext φ)):Inv X pins σ (L2.del H x) s:=by
 have ne:∀{b:Addr} {o:HO},H b=some o->(∀ψ,o≠.ext ψ)->b≠x:=λe n z=>by rw[z,g]at e;exact n φ (waf e).symm
 have nn:∀{b:Addr},H b=none->L2.del H x b=none:=λ{b} e=>by
  by_cases z:b=x
  .rw[z];exact gy
  .rw[hU z];exact e
 have u:=I.base;refine{I.ok,I.os,I.bare,{u.keep,u.slot,λb o q n d=>nn (u.free b o q n d),u.there,λb f q=>?_,λb o v q=>?_,λb ps q=>?_},I.loc,I.cell,nn I.free,λy c e=>nn (I.j5 y c e),λp h=>?_,λa o e=>?_,I.len}
 .have e:=u.uf b f q;rw[hU (ne e λψ z=>by cases z)];exact e
 .have e:=u.tF b o v q;rw[hU (ne e λψ z=>by cases z)];exact e
 .obtain⟨m,e⟩:=u.ug b ps q;exact{m,by rw[hU (ne e λψ z=>by cases z)];exact e}
 .obtain⟨a1,a2,a3⟩:=I.pin p h;exact{a1,nn a2,a3}
 .have i:H a=some o:=by
   by_cases z:a=x
   .rw[z,gy]at e;cases e
   .rw[hU z]at e;exact e
  refine(I.b9 a o i).uz (λb u _ q=>q) (λb q=>?_) λb f q=>?_
  .rw[hU (ne q λψ z=>by cases z)];exact q
  .rw[hU (ne q λψ z=>by cases z)];exact q
end
section
variable{P:waC}{w:World}{H:Hp}{h h':Heap}{x e:Addr}{o':HO}
theorem jC.write(ok:jC P w H h)(g:P8 (H x))(he:e=x\/H e=some (.own x))(k:∀b u,b≠e->h.get? b=some u->h'.get? b=some u)(l:∃u,h'.get? e=some u)
 (new:bU P w (upd H x o') h' x o'):jC P w (upd H x o') h':=λb u q=>by
 have d:∀c y,H c=some (.own y)->c≠x:=λc y r z=>by subst z;rw[r]at g;exact g
 have f:∀c i,H c=some (.tup i)->c≠x:=λc i r z=>by subst z;rw[r]at g;exact g
 by_cases j:b=x
 .subst j;rw[a7]at q;cases q;exact new
 .rw[af j]at q
  by_cases a:b=e
  .have m:H b=some (.own x):=by
    rcases he with z |z
    .exact absurd (a.trans z) j
    .rw[a];exact z
   rw[q]at m;cases m;obtain⟨v,n⟩:=l;exact{v,by rw[a];exact n}
  .refine(ok b u q).uz (λc v hc r=>k c v ?_ r) (λc r=>by rw[af (d c b r)];exact r) λc i r=>by rw[af (f c i r)];exact r
   rcases hc with rfl |hc
   .exact a
   .rintro rfl;rcases he with z |z
    .exact d c b hc z
    .rw[hc]at z;cases z;exact j rfl
end
section
variable{fs ex:List Addr}{H:Hp}{h h':Heap}{x e:Addr}{o:HO}
theorem Un.write(g:P8 (H x))(he:e=x\/H e=some (.own x))(k:∀b u,b≠e->h.get? b=some u->h'.get? b=some u)(j:∃u,h'.get? e=some u):Un fs ex H (upd H x o) h h':=by
 have f:∀b,H b=none->b≠x:=λb n z=>by subst z;rw[n]at g;exact g
 have d:∀b,H b=none->b≠e:=λb n z=>by
  subst z;rcases he with r |r
  .grind
  .grind
 have c:∀b u,H b=some u->¬P8 (some u)->b≠x:=λb u q i z=>by subst z;rw[q]at g;exact i g
 refine{λb u q n _ _=>k b u (d b n) q,λb u q n _ _=>{u.slots,k b u (d b n) q},λb u q n _=>by rw[af (f b n)];exact n,λb u q _=>?_,
  λb l q=>by rw[af (c b _ q λz=>z)];exact q,λb u l q=>by rw[af (c b _ q λz=>z)];exact q,λb ps q=>{#[],by rw[af (c b _ q λz=>z),q];simp}}
 by_cases a:b=e
 .subst a;exact j
 .exact{u,k b u a q}
end
section
variable{X:Cx}{pins:List (Addr×Obj)}{σ:List (Option V)}{H:Hp}{s:Shared}{h':Heap}
theorem Inv.write(I:Inv X pins σ H s)(j:P8 (H x))(he:e=x\/H e=some (.own x))(k:∀b u,b≠e->s.heap.get? b=some u->h'.get? b=some u)(g:∃u,h'.get? e=some u)
 (new:bU X.prog X.w (upd H x o) h' x o):Inv X pins σ (upd H x o) {s with heap:=h',toks:=t'}:=I.un (Un.write j he k g) (I.b9.write j he k g new)
end
section
variable{X:Cx}{pins:List (Addr×Obj)}{σ:St}{H:Hp}{s:Shared}{l:Addr}{xs ys:List V}
theorem Inv.Qo{g its':List Value}{n:Nat}{f:Array Value->Array Value}{t':Nat}(I:Inv X pins σ H s)(j:H l=some (.lst xs))
 (e:s.heap.get? l=some {cls:=.type "list",data:=.seq g.toArray n}) (p:f g.toArray=its'.toArray) (r:Vals ys its') (t:ys.length<=sizeLine) :
 Inv X pins σ (upd H l (.lst ys)) {s with heap:=s.heap.update l (wcT f),toks:=t'}:=by
 have q:=PySem.IsL.update e f;rw[p]at q;refine I.write (x:=l) (e:=l) (by rw[j];exact trivial) (.inl rfl) (λc u a b=>(waO s.heap (wcT f) (wbx a)).trans b) {_,q} ?_;exact{t,its',_,r,q}
theorem cm:VF X "list.append" K2:=by
 intro b s σ H x i v j Q I d f h;obtain⟨l,k,y,rfl,rfl,c,m,q⟩:=h;cases d;obtain⟨u,rfl,g⟩:=f.one;obtain⟨z,a,n,r,hl,e⟩:=I.GV c;refine weP waP {_,e,rfl} F.entry_list_append (F.args_list_append_2 _ _) (PySem.list_append l a.toArray n u (by grind)) {e,?_};refine{.non,_,I.Qo (its':=a++[u]) c e (by simp) (r.append (.cons g .nil)) ?_,rfl,q};rw[wa5,wco]
 lia
theorem Nm:VF X "list.pop" Tq:=by
 intro d s σ H x m v o Q I g i h;obtain⟨l,p,y,rfl,rfl,f,j,q⟩:=h;cases g;have b:=i.zero;subst b;obtain⟨z,a,n,r,hl,e⟩:=I.GV f;obtain⟨u,t,k⟩:=r.get j
 have c:a.toArray[a.toArray.size-1]?=some u:=by
  grind
 refine weP whg {_,e,rfl} F.entry_list_pop (F.args_list_pop_1 _) (MeetsSeq.list_pop_last l a.toArray n u c (by grind)) {e,?_};refine{y,_,I.Qo (its':=a.dropLast) f e ?_ r.dropLast ?_,k,q}
 .grind
 .grind
end
section
variable{X:Cx}{pins:List (Addr×Obj)}{σ:St}{H:Hp}{s₂:Shared}{scope:wd3}{x:Str}{xs ys:List Str}{ix:List Nat}{cl:List (Str×Addr)}{fp:List Addr}{L:Addr}
theorem xP{tn:Nat->Heap->Prop}{Qd:Addr->Hp->Prop}{RR:Value->Addr->wek->Shared->Prop}{E:Value->Shared->Prop}
 (hc:X.calm=true) (B:bS X scope x ys ix) (I:Inv X pins σ H s₂) (T:Turn X.prog X.w X.K tg J fp it tn) (VU:tn 0 s₂.heap) (U:∀b∈fp,tG X pins H b)
 (zL:∀y c,cl.lookup y=some c->X.env.cells.lookup y=some c) (Yp:∀y∈scope.names,y.2=.free->∃c,cl.lookup y.1=some c)
 (ht:∀L s H ex pn,Jz (bG X scope (xs++ys) cl L s H ex pn) ifs tt) (he:∀L s H ex pn,PE (bG X scope (xs++ys) cl L s H ex pn) elt te)
 (hg:∀L s H ex pn,PG (bG X scope (xs++ys) cl L s H ex pn) tg g) (hw:∀l,H l=none->xD g xs.length J l (pick σ ix) tt te H (Qd l))
 (Yq:∀D L H' s' m,Inv X pins σ H' s'->s'.heap.Ns L m->H' L=none->L≠X.env.locals->X.s₀.heap.objs.size<=L->(∀y c,X.env.cells.lookup y=some c->c≠L)->(∀p∈X.pn++pins,p.1≠L)->Qd D H'->RR (.ref D) L (.ok .next) s') :
 wpAny (model X.prog X.w) X.A (newList []) (λacc t=>wpAny (model X.prog X.w) X.A (newFunctionEnv scope X.env.globals cl [] X.env.qual none .none (some X.env)) (λQp s₄=>
  codeAny (model X.prog X.w) X.A (.compStart (.ListComp elt [⟨tg,iter,ifs,0⟩] scope pos) 0 (.ref it) acc {Qp with scope:=relabel scope X.env}) (RR acc Qp.locals) s₄) E t) E s₂:=by
 refine wfq (wpAny_newFunctionEnv B.Gx (by intro y hy;simp at hy) (λk j a=>?_) B.kind);dsimp only at j a ⊢;generalize O:s₂.heap.push {cls:=.type "list",dict:=none,data:=.seq ([]:List Value).toArray}=C at j a ⊢;have hC:C.objs.size=s₂.heap.objs.size+1:=by rw[<-O,wbS]
 have VW:s₂.heap.objs.size≠C.objs.size:=by rw[hC];exact wav (wbO _)
 have f:s₂.heap.objs.size<=C.objs.size:=by rw[hC];exact wbR _
 have old:∀b o,s₂.heap.get? b=some o->k.get? b=some o:=λb o e=>a.extBut b o (wav (waw (wae e) f)) (wa9 _ (O ▸ wa9 _ e));have TR:k.get? s₂.heap.objs.size=some {cls:=.type "list",data:=.seq ([]:List Value).toArray}:=a.extBut _ _ VW (wa9 _ (O ▸ wap _ rfl));have Q:∀b∈fp,b<s₂.heap.objs.size:=λb h=>let ⟨o,e,_⟩:=T.obj 0 _ VU b h;wae e
 have Yr:∀b∈fp,∀o,s₂.heap.get? b=some o->k.get? b=some o:=λb _ o e=>old b o e;have VX:tn 0 k:=T.keep 0 _ _ VU Yr;obtain⟨W,⟨m0,w0⟩,turn⟩:=hw s₂.heap.objs.size (I.b9.fresh (waa _))
 have N:∀t:Shared,t={s₂ with heap:=k,toks:=s₂.toks+([]:List (Str×Value)).length} ->
  codeAny (model X.prog X.w) X.A (.compLoop (.ListComp elt [⟨tg,iter,ifs,0⟩] scope pos) 0 (.ref it) (.ref s₂.heap.objs.size) (compEnvC scope cl C.objs.size X.env))
   (RR (.ref s₂.heap.objs.size) C.objs.size) t:=by
  rintro t rfl;have I0:=Hc (xs:=xs) (tk:=s₂.toks+([]:List (Str×Value)).length) (n₀:=0) (m₁:=_) (L:=C.objs.size) B I U Q f zL Yp old j rfl VW TR
  refine EB (env:=compEnvC scope cl C.objs.size X.env)
   (λn s'=>∃i G vs H',vs.length=xs.length/\Inv (bG X scope (xs++ys) cl C.objs.size s₂ H fp (X.pn++pins)) [] (vs++pick σ ix) H' s'/\tn i s'.heap/\(∀b∈fp,H' b=none)/\W i n G H') ?_ m0
   {0,[],_,_,waN,I0,VX,λb h=>by rw[af (wav (Q b h))];exact(U b h).1,w0}
  rintro n s3 ⟨i,G,vs,H3,hv,I3,VY,VZ,w3⟩;obtain⟨G8,alt⟩:=turn i n G H3 w3
  have M:∀{H':Hp},(∀b∈fp,H' b=none)->∀b∈fp,tG (bG X scope (xs++ys) cl C.objs.size s₂ H fp (X.pn++pins)) [] H' b:=λhn b h=>
   {hn b h,wav (waw (Q b h) f),λhm=>by
     rcases waG.mp (I.uv b hm) with z |z
     .exact(U b h).2.1 z
     .exact(U b h).2.2.1 z,.inl h,λy c e=>(U b h).2.2.2.2.1 y c (zL y c e),λp hp=>(U b h).2.2.2.2.2 p (by simpa [bG] using hp)}
  rcases alt with⟨stop,qd⟩ |⟨go,hsz,step⟩
  .refine bN (T.done (bG X scope (xs++ys) cl C.objs.size s₂ H fp (X.pn++pins)) rfl rfl rfl hc i [] s3 _ H3 _ I3 (M VZ) VY stop) λr s4 ⟨hr,Y⟩=>?_;subst hr;obtain⟨m,hn,_⟩:=Y.loc;refine Yq s₂.heap.objs.size C.objs.size H3 s4 m ?_ hn Y.free (wc4 (waw I.lt f)) (wal I.sz f) (λy c e=>?_) (λp hp=>?_) qd
   .exact I.xC Y.os Y.base Y.b9 Y.bare λb h=>{(U b h).2.2.2.1,(U b h).2.1,(U b h).2.2.2.2.1,(U b h).2.2.2.2.2}
   .obtain⟨v,o,q,d⟩:=I.cell y c e;exact wav (waw (wae q) f)
   .exact wav (waw (wae (I.pin p hp).1) f)
  .refine bN (T.item (bG X scope (xs++ys) cl C.objs.size s₂ H fp (X.pn++pins)) rfl rfl rfl hc i [] s3 _ H3 _ I3 (M VZ) VY go) λr s4 ⟨u,hr,h4⟩=>?_;subst hr;refine bN h4 λ_ s5 ⟨xv,H5,I5,r5,y5,R,Ys⟩=>?_;have Yt:=I5.pinned (M Ys) (T.obj _ _ R);refine wb8 (hg _ _ _ _ _ _ s5 _ H5 xv u _ Yt r5 (step xv _ vs hv y5)) (λ_ s6 {σ6,H6,I6,⟨Q9,W2,e6⟩,q6}=>?_) λ_ _ z=>wb3 z;subst e6;refine wb8 (ht _ _ _ _ _ _ s6 _ _ _ I6 q6) (λb s7 ⟨H7,I7,q7⟩=>?_) λ_ _ z=>wb3 z
   have again:∀{S:St} {V:Hp} {Z:Shared},Inv (bG X scope (xs++ys) cl C.objs.size s₂ H fp (X.pn++pins)) ([]++uh fp s5.heap) S V Z ->
    Inv (bG X scope (xs++ys) cl C.objs.size s₂ H fp (X.pn++pins)) [] S V Z/\tn (i+1) Z.heap/\∀b∈fp,V b=none:=λ{S V Z} I8=>by
    refine{I8.oQ,T.keep _ _ _ R λb h o e=>(I8.pin (b,o) (waI _ (waI _ (jA h e)))).1,λb h=>?_};obtain⟨o,e,d⟩:=T.obj _ _ R b h;exact(I8.pin (b,o) (waI _ (waI _ (jA h e)))).2.1
   cases b with
   |false=>
    rw[if_neg wan]at q7 ⊢;obtain⟨m',hm,w7⟩:=q7;obtain⟨a1,a2,a3⟩:=again I7;exact{m',hm,i+1,G,Q9,H7,W2,a1,a2,a3,w7}
   |true=>
    rw[if_pos rfl]at q7 ⊢;refine wb8 (he _ _ _ _ _ _ s7 _ _ _ I7 q7) (λuy Z ⟨y,V,I8,r8,RW,m',hm,w8⟩=>?_) λ_ _ z=>wb3 z
    refine wb8 (cm (X:=bG X scope (xs++ys) cl C.objs.size s₂ H fp (X.pn++pins)) _ Z _ V (.ref s₂.heap.objs.size) [y] (.ref s₂.heap.objs.size) [uy] (λ_ H9=>H9=upd V s₂.heap.objs.size (.lst (G++[y]))) I8 rfl (.cons r8 .nil) {_,G,y,rfl,rfl,RW,hsz,rfl})
     (λ_ s9 {v9,H9,I9,_,e9}=>?_) λ_ _ z=>wb3 z
    subst e9;obtain⟨a1,a2,a3⟩:=again I9;exact{m',hm,i+1,G++[y],Q9,_,W2,a1,a2,a3,w8}
 exact codeAny_compStart_list (N _ rfl) (T.self X.A 0 _ _ _ VX (N _ rfl))
theorem uN{C:It->Addr->St->Hp->(Hp->Prop)->Prop}(hc:X.calm=true)(B:bS X scope x ys ix)(hg:∀cl L s H ex pn,PG (bG X scope (xs++ys) cl L s H ex pn) U g)(hC:∀J l j H Q,C J l j H Q->xD g xs.length J l j tt te H Q)(hi:PI X U iter wi)
 (ht:∀cl L s H ex pn,Jz (bG X scope (xs++ys) cl L s H ex pn) p tt) (he:∀cl L s H ex pn,PE (bG X scope (xs++ys) cl L s H ex pn) r te)
 (hs:∀v,wbX iter X.env v=pure v:=by intro _;rfl):PE X (.ListComp r [⟨U,iter,p,0⟩] scope pos) (λσ H Q=>wi σ H λJ H1=>∀l,H1 l=none->C J l (pick σ ix) H1 (λH2=>Q (.ref l) H2)):=by
 refine{?_};intro pins s σ H Q I h;obtain⟨cl,a,d,f⟩:=nk (scope:=scope) (env:=X.env) (λy G i=>I.ok.has y.1 (B.free y G i));rw[eval_ListComp];refine wfL (use:=none) rfl hs a B.kind B.names (bN (hi pins s σ H _ I h) λZ s1 k=>bN k λM s2 n=>?_);obtain⟨it,fp,tn,J,H2,e,N,T,t,f2,hw⟩:=n;subst e;refine xP (RR:=λu C=>compPost (model X.prog X.w) X.A X.xe none (EP X pins σ Q) u C) (Qd:=λl z=>Q (.ref l) z) hc B N T t f2 d f (ht cl) (he cl) (hg cl) (λl h=>hC _ _ _ _ _ (hw l h)) ?_;intro D L z O m R hn c k n S V q;exact{m,hn,λh' E=>{.ref D,z,R.turned (it:=L) (t':=O.toks) (λb o Y e=>(E.2 b Y).trans e) c k (.inr n) S V,rfl,q}}
theorem cn(hc:X.calm=true)(B:bS X scope x ys ix)(hi:PI X (.Name x t) iter I)
 (T:∀cl L s H ex pn,Jz (bG X scope (x::ys) cl L s H ex pn) g p) (he:∀cl L s H ex pn,PE (bG X scope (x::ys) cl L s H ex pn) j r)
 (hs:∀v,wbX iter X.env v=pure v:=by intro _;rfl):PE X (.ListComp j [{.Name x t,iter,g,0}] scope pos) (Qa I ix p r):=
 uN (C:=λJ l a H Q=>nj J l a p r H Q) (xs:=[x]) hc B (Dy B) (λ_ _ _ _ _=>Dv) hi T he hs
end
section
variable{X:Cx}
theorem Inv.Nn{g:List (Addr×Obj)}{σ:St}{H:Hp}{s:Shared}{p:Addr}{xs ys:List V}{j its':List Value}{n l:Nat}{f:Obj->Obj}(I:Inv X g σ H s)(h:H p=some (.lst xs))
 (J:s.heap.get? p=some {cls:=.type "list",data:=.seq j.toArray n}) (C:f {cls:=.type "list",data:=.seq j.toArray n}={cls:=.type "list",data:=.seq its'.toArray l}) (r:Vals ys its') (T:ys.length<=sizeLine) (t:Nat) :
 Inv X g σ (upd H p (.lst ys)) {s with heap:=s.heap.update p f,toks:=t}:=by
 have e:(s.heap.update p f).get? p=some {cls:=.type "list",data:=.seq its'.toArray l}:=by
  rw[wbG f J (by rw[C]<;>rfl),C]
 refine I.write (x:=p) (e:=p) (by rw[h];trivial) (.inl rfl) (λb u a q=>(waO _ _ (wbx a)).trans q) {_,e} ?_;exact⟨T,its',l,r,e⟩
theorem set_list:Q0 X Q7:=by
 intro a s σ H o i v B C u Q I m w x h;obtain⟨p,y,k,j,rfl,rfl,e,z,q⟩:=h;cases m;obtain⟨t,rfl⟩:=w;obtain⟨b,n,r,d,A⟩:=I.lst e;obtain⟨c,D,f,g⟩:=Dn z;have hl:=r.length;have hn:=o6
 have l:Inv X a σ (upd H p (.lst (y.set j v))) {s with heap:=s.heap.update p (wcT (·.setIfInBounds j u))}:=
  I.Nn e d (BA b n j u) (r.set x j) (by rw[wcx];exact A) s.toks
 by_cases h0:0<=k
 .have hk:k.toNat=j:=by
   rw[whE h0 g]at c;exact waf c
  exact PySem.W.ki_setAt d h0 (by lia) (by rw[waF,<-hl];exact g) (by rw[hk];exact{_,l,q})
 .have hk:(k+(b.toArray.size:Int)).toNat=j:=by
   rw[whc (by lia) f]at c;rw[waF,<-hl];exact waf c
  exact PySem.W.ki_setBack d (by lia) (by rw[waF,<-hl];exact f) (by lia) (by rw[hk];exact{_,l,q})
end
section
variable{X:Cx}{scope:wd3}{x:Str}{xs ys:List Str}{ix:List Nat}
theorem rM{C:It->Addr->St->Hp->(Hp->Prop)->Prop}(hc:X.calm=true)(B:bS X scope x ys ix)(hN:X.N.Nodup)(hy:X.N[i]?=some y)(r:X.env.scope.names.lookup y=some .local)(hg:∀cl L s H ex pn,PG (bG X scope (xs++ys) cl L s H ex pn) tg g)(hC:∀J l t H Q,C J l t H Q->xD g xs.length J l t tt te H Q)(hi:PI X tg iter wi)
 (ht:∀cl L s H ex pn,Jz (bG X scope (xs++ys) cl L s H ex pn) j tt) (he:∀cl L s H ex pn,PE (bG X scope (xs++ys) cl L s H ex pn) p te)
 (TU:wcc (.ListComp p [⟨tg,iter,j,0⟩] scope pos) (some (.Name y py)) U.line X.env=pure true:=by rfl)
 (hs:∀v,wbX iter X.env v=pure v:=by intro _;rfl):PS X (.Assign [.Name y py] (.ListComp p [⟨tg,iter,j,0⟩] scope pos) U) (λD σ H=>wi σ H λJ H1=>∀l,H1 l=none->C J l (pick σ ix) H1 (λH2=>D.nx (σ.set i (some (.ref l))) H2)):=by
 refine{?_};intro c s σ H D I h;obtain⟨cl,d,u,E⟩:=nk (scope:=scope) (env:=X.env) (λy hy G=>I.ok.has y.1 (B.free y hy G));rw[exec_Assign_Name_used _ _ _ _ TU];refine wa7 (wdL (wa7 ?_));show wpAny _ X.A (do let _ <-comprehension (.ListComp p [⟨tg,iter,j,0⟩] scope pos) scope X.env _ (newList []) false (eval iter X.env) (some (assign (.Name y py) X.env))) _ _ s
 refine wa7 (wb8 (wfL (use:=some (assign (.Name y py) X.env)) (Q:=λ_ k=>SP X c D .next k) rfl hs d B.kind B.names
  (bN (hi c s σ H _ I h) λxv s1 n=>bN n λTf s2 M=>?_)) (λ_ k hq=>waz (waz hq)) λ_ _ e=>e)
 obtain⟨it,fp,tn,J,H2,e,I2,T,O,f2,hw⟩:=M;subst e;refine xP (RR:=λR C=>compPost (model X.prog X.w) X.A X.xe (some (assign (.Name y py) X.env)) (λ_ k=>SP X c D .next k) R C) (Qd:=λl S=>D.nx (σ.set i (some (.ref l))) S) hc B I2 T O f2 u E (ht cl) (he cl) (hg cl) (λl h=>hC _ _ _ _ _ (hw l h)) ?_;intro D' L S k m I' hn f n M h3 h4 q;show wpAny _ X.A (assign (.Name y py) X.env (.ref D')) _ _ _;refine wpAny_assign_Name (xE I' hN hy (.inl r) (v:=.ref D') rfl (λV Y sb=>?_) (.inr r));obtain⟨a,Z,ha⟩:=sb
 have hL:L≠a:=by
  rcases ha with z |z
  .rw[z];exact n
  .exact(h3 y a z).symm
 refine{m,hn.sameBut Z hL,λh' Mf=>{_,S,Y.turned (it:=L) (t':=V.toks) (λb o hb e=>(Mf.2 b hb).trans e) f n (.inr M) h3 h4,q}}
theorem cZ(hc:X.calm=true)(B:bS X scope x ys ix)(hN:X.N.Nodup)(hy:X.N[i]?=some y)(r:X.env.scope.names.lookup y=some .local)(hi:PI X (.Name x I) iter wi)
 (ht:∀cl L s H ex pn,Jz (bG X scope (x::ys) cl L s H ex pn) g T) (he:∀cl L s H ex pn,PE (bG X scope (x::ys) cl L s H ex pn) j U)
 (t:wcc (.ListComp j [{.Name x I,iter,g,0}] scope pos) (some (.Name y py)) p.line X.env=pure true:=by rfl)
 (hs:∀v,wbX iter X.env v=pure v:=by intro _;rfl):PS X (.Assign [.Name y py] (.ListComp j [{.Name x I,iter,g,0}] scope pos) p) (N6 wi ix T U i):=
 rM (C:=λJ l a H Q=>nj J l a T U H Q) (xs:=[x]) hc B hN hy r (Dy B) (λ_ _ _ _ _=>Dv) hi ht he t hs
end
section
variable{X:Cx}{pins:List (Addr×Obj)}{σ:St}{H:Hp}{s:Shared}{a:Addr}{y v:V}{u r:Value}{A:Around}{E:Value->Shared->Prop}
theorem tZ(I:Inv X pins σ H s)(g:P8 (H a))(hs:wfH a s.heap h')(he:∃q,h'.get? a=some q)(new:bU X.prog X.w (upd H a ob) h' a ob) :
 Inv X pins σ (upd H a ob) {s with heap:=h',toks:=t'}:=
 I.write (x:=a) (e:=a) g (.inl rfl) (λb q c z=>(hs.2 b c).trans z) he new
theorem EC{Q:Unit->Shared->Prop}(J:A.units+1<wcJ)(I:Inv X pins σ H s)(g:jG H a y v T)(t:RelV y u)(C:RelV v r)(h:∀s',Inv X pins σ T s'->Q .unit s') :
 wpAny (model X.prog X.w) A (setItem (.ref a) u r) Q E s:=by
 rcases g with⟨d,k,e,j,l,m⟩ |⟨d,k,b,e,j,x,l,m⟩
 .subst j m;obtain⟨z,hd,G,rel,n⟩:=rJ I.b9 e;have o:G.length<=sizeLine:=by rw[<-rel.length];exact z
  have hl:(putK d k v).length<=sizeLine:=by have:=gA d k v;lia
  refine wpAny_setItem_pairs (hsz:=o) (rF t) n λB f p=>h _ ?_;have L:∃q,B.get? a=some q:=let ⟨q,_,_,i,_⟩:=f;⟨q,i⟩
  exact tZ I (by rw[e];exact wbz) p L (BC hl hd (rel.put k C) f)
 .subst j m;cases(show u=wam b from t);obtain⟨z,hd,M,rel,n⟩:=Qc I.b9 e;have o:M.length<=sizeLine:=by rw[<-wgW rel];exact z
  have hl:(putK d k v).length<=sizeLine:=by have:=gA d k v;lia
  refine wpAny_setItem_heap (hsz:=o) (wdl J) (qJ I.b9 x) n λB f p=>h _ ?_;obtain⟨q,N,O,i,R,S,U,_,V⟩:=f;refine tZ I (by rw[e];exact wbz) p ⟨q,i⟩ {hl,hd,_,(rel.put k x C).keeps λc Y D=>?_,q,N,O,i,R,S,U,V};rw[af (P7 D e (λz=>nomatch z))];exact D
end
theorem DA{X:Cx}(h:RP X pos keys values j)(g:keys.all (·.isSome)=true)(hl:keys.length=values.length)(h0:keys≠[])
 (l:keys.length<=15):PE X (.Dict keys values pos) (Qe j):=by
 refine{?_};intro b s σ H Q I q;have hn:=I.b9.fresh (waa s.heap.objs.size);have k:=I.laid (a:=s.heap.objs.size) (o:=.dK []) (h':=s.heap.push {cls:=.type "dict",data:=.dict #[]}) (t':=s.toks) (λ_ _ q=>wa9 _ q) (waa _) (ur s.heap I.big);refine wpAny_Dict_walk (knd:=bx X.prog X.w) g hl h0 l (bN (h b _ σ _ _ k (q _ hn)) λD E ⟨ps,G,i,rel,e,d,m,lk,n⟩=>?_);subst m;obtain⟨p,c,r⟩:=uw (P:=X.prog) (w:=X.w) rel;obtain⟨z,hd,t,u,v⟩:=rJ i.b9 e;cases u;refine{p,c,v,λh' f x=>{.ref s.heap.objs.size,_,?_,rfl,n}}
 have y:(jH [] d).length<=sizeLine:=by
  have A:=wA d [];rw[wg9]at A;rw[wcg];lia
 have B:∃q,h'.get? s.heap.objs.size=some q:=let ⟨q,_,_,C,_⟩:=f;⟨q,C⟩
 exact tZ i (by rw[e];exact wbz) x B (BC y hd (r.merge .nil) f)
theorem Inv.freeze{X:Cx}(I:Inv X g σ H s)(e:H d=some (.dK kvs)):∃o,s.heap.get? d=some o/\Inv X g σ (upd H d (.frz o (.dK kvs))) s:=by
 have ok:=I.b9 d _ e;obtain⟨z,y,f,rel,o,h,i,a,j⟩:=id ok;refine{o,a,?_};exact I.write (x:=d) (e:=d) (h':=s.heap) (t':=s.toks) (by rw[e];exact trivial) (.inl rfl) (λb u _ c=>c) {_,a} ⟨a,ok⟩
section
variable{X:Cx}{tg:Expr}
theorem u0{l:Expr}{p:TE}(hl:PE X l p):PI X tg l (PU p):=by
 refine{?_};intro a s σ H R I h;refine bN (hl a s σ H _ I h) λv g ⟨x,D,m,t,j⟩=>?_;obtain⟨d,f,e,q⟩:=j;subst e;cases t
 have key:∀{i:Hp} {o:Obj},Inv X a σ i g->i d=some (.frz o (.dK f))->R (JX d o f) i->wpAny (model X.prog X.w) X.A (pyIter (.ref d)) (MZ X a σ tg R) X.xe g:=λ{i o} c hd u=>by
  obtain⟨E,lo,y,n,G,z,B,j,J,r,L⟩:=ku c.b9 (.inr ⟨o,hd⟩);obtain⟨C,_⟩:=c.b9 d _ hd;rw[C]at j;cases j;obtain⟨M,rel,k⟩:=BI c hd r;refine wpAny_pyIter_dict lo k ?_;refine{g.heap.objs.size,[g.heap.objs.size],_,_,i,rfl,c.kept (t':=g.toks) λb o e=>wa9 _ e,Ey d _ o f z B r,{_,wap _ rfl,rfl,by rw[rel.length];rfl},λb N=>?_,u};have e:b=g.heap.objs.size:=by grind
  subst e;exact c.tH (waa _) (c.b9.fresh (waa _))
 rcases q with⟨hd,q⟩ |⟨o,hd,q⟩
 .obtain⟨o,O,c⟩:=m.freeze hd;exact key c a7 (q o)
 .exact key m hd q
end
section
variable{prog:waC}{w:World}{A:Around}{R:wek->Shared->Prop}{I:Addr}{fp wr:List Addr}{G:Array wdD->Array wdD->Prop}{n:Nat}{P:Nat->Value->Prop}{St:Nat->Shared->Prop}
theorem A8(l:WalksS prog w A.in1 I fp wr G n P St)(S:Addr)(p:S∉fp)
 (val:Nat->Str) (r:∀i v,P i v->∃t,v=.str (val i) t) (j:n+1<wdk) :
 ∀(k i:Nat) (s:Shared),n-i=k->i<=n->St i s ->
  s.heap.SetOf (wbQ prog w) S (λg=>(cY val i).any (· == g)) (cY val i).length ->
  (∀s',Moved (S::wr) G s s'->s'.heap.SetOf (wbQ prog w) S (λg=>(cY val n).any (· == g)) (cY val n).length->R (.ok (.ret .none)) s') ->
  codeAny (model prog w) A (.builtin "set.update.loop" {[.ref S,.ref I],[]}) R s:=by
 have f:S∉wr:=λh=>p (l.sub _ h);have a:∀b∈wr,b∈S::wr:=λb j=>wac _ j;intro k
 induction k with
 |zero=>
  intro i s hk hi c B C;have D:i=n:=by lia
  subst D;refine wbJ we5 ?_;rw[wbC wcM _];show wpAny _ A.in1 (pyNext (.ref I) >>= _) _ _ s;refine wa7 (l.done s _ _ c λs' m=>?_);show wpAny _ A.in1 (ret wbF) _ _ s'
  exact waz (C s' (m.mono a) (by
   obtain⟨o,E,H,t,J,rest⟩:=B
   exact{o,E,H,t,m.heap S _ f J,rest}))
 |succ k Q=>
  intro i s hk hi c B C;have q:i<n:=by lia
  refine wbJ we5 ?_;rw[wbC wcM _];show wpAny _ A.in1 (pyNext (.ref I) >>= _) _ _ s;refine wa7 (l.item i s _ _ q c λv s' T u m=>?_);obtain⟨t,rfl⟩:=r i v T
  have L:s'.heap.SetOf (wbQ prog w) S (λg=>(cY val i).any (· == g)) (cY val i).length:=by
   obtain⟨o,E,H,U,J,rest⟩:=B;exact{o,E,H,U,m.heap S _ f J,rest}
  show wpAny _ A.in1 (holding [wg4 (val i) t] (setAdd S (.str (val i) t)) >>= _) _ _ s';refine wa7 (wbt ?_);unfold setAdd;refine wbt ?_;refine wa7 ((wbQ prog w).pyHash (k:=val i) (LY _ _ _ _) ?_);have d:(cY val i).length+1<wdk:=by have:=xG val i;lia
  refine wpAny_setAddHashed_of (knd:=wbQ prog w) (s:={s' with toks:=s'.toks+1}) (LY _ _ _ _) rfl L d λV x M=>?_
  have N:V.SetOf (wbQ prog w) S (λg=>(cY val (i+1)).any (· == g)) (cY val (i+1)).length:=
   SetOf_congr M (λg=>by rw[iF,Eo]) (by rw[iF,yM])
  refine waz {wck wcM _,Q (i+1) _ (by lia) q (l.frame _ s' _ _ u (wbR _) λb j o e=>?_) N λO y z=>?_}
  .rw[x.2 b (λh:b=S=>p (by rw[<-h];exact j))];exact e
  .refine C O (Moved.trans l.gtrans ((m.mono a).then_heap (wbR _) λb o j e=>?_) y) z;rw[x.2 b (λh:b=S=>j (by rw[h];exact wag))];exact e
theorem A9{X:Cx}(hl:PE X l g)(r:∀{σ H} {Q p:VK},(∀x j,Q x j->p x j)->g σ H Q->g σ H p:=by intro _ _ _ _ h q;obtain⟨v,e,q⟩:=q;exact{v,e,h _ _ q}):PI X t l (MX g):=by
 refine{?_};intro c s σ H R I h;refine u0 hl c s σ H R I (r (λx j q=>?_) h);obtain⟨d,f,e,a,b⟩:=q;exact{d,f,e,zZ a b}
end
section
variable{prog:waC}{w:World}{A:Around}{E:Value->Shared->Prop}{s:Shared}
set_option maxRecDepth 100000 in
set_option maxHeartbeats 3200000 in
theorem yV{Q:Value->Shared->Prop}
 (hh:A.handled=none) (p:x.cps.size+1<wdk)
 (h:∀(h':Heap) (tk:Nat),h'.SetOf (wbQ prog w) s.heap.objs.size (λC=>(cY (eZ x) x.cps.size).any (· == C)) (cY (eZ x) x.cps.size).length ->
   (∀b o,b<s.heap.objs.size->s.heap.get? b=some o->h'.get? b=some o)->Q (.ref s.heap.objs.size) {s with heap:=h',toks:=tk}) :
 wpAny (model prog w) A (call (.type "set") [.str x I]) Q E s:=by
 obtain⟨c,tl,T⟩:=wc6.mro;have y:=wc6.made;have U:=wc6.sub;refine wdn (wgc ?_);show wpAny _ _ (callAny (.type "set") _) _ _ _;refine waz {we6 _ ∅,wbJ wgM ?_};rw[whh (wgA "set" [.str x I] []) rfl];have h1:=wc6.notType;have h2:=wc6.canCreate;have Z:=PySem.F.typeCall_set_1 (.str x I)
 repeat (any_goals (first |assumption |wp_step))
 refine wch (code_set_new_1 (.str x I) (E:=E) (Q₁:=λobj f=>∃a:Bool,obj=.ref s.heap.objs.size/\f={s with heap:=s.heap.push {cls:=.type "set",dict:=none,data:=.set #[] 0 (.fresh 0 0 a)}}) λa=>⟨a,rfl,rfl⟩) λr f z=>?_
 cases r with
 |error e=>exact z
 |ok fl=>
  cases fl with
  |ret obj=>
   obtain⟨a,rfl,rfl⟩:=z;have V:(s.heap.push {cls:=.type "set",dict:=none,data:=.set #[] 0 (.fresh 0 0 a)}).get? s.heap.objs.size=some {cls:=.type "set",dict:=none,data:=.set #[] 0 (.fresh 0 0 a)}:=wap _ rfl;have hT:wib {s with heap:=s.heap.push {cls:=.type "set",dict:=none,data:=.set #[] 0 (.fresh 0 0 a)}} (.ref s.heap.objs.size) "set":={_,V,rfl};have hli:=wc6.init.lookup;have hbi:=wc6.init.bind (.ref s.heap.objs.size)
   repeat (any_goals (first |assumption |wp_step))
   refine wch (wcV (R:=wants (λr g=>r=.none/\∃h' tk,g={s with heap:=h',toks:=tk} /\
    h'.SetOf (wbQ prog w) s.heap.objs.size (λC=>(cY (eZ x) x.cps.size).any (· == C)) (cY (eZ x) x.cps.size).length /\
    (∀b o,b<s.heap.objs.size->s.heap.get? b=some o->h'.get? b=some o)) E) wc6.init.plain PySem.F.entry_set_init (check_set_init_1 hT ?_)) λl g d=>?_
   .have X:=sub_str_set;have Y:=sub_str_frozenset;have BU:(weJ "str" == weJ "dict")=false:=⋯;unfold wey.«set.__init__» noKeywords wi9;generalize B:pyIter=PI
    wp_walk
    subst B;refine wpAny_pyIter_str λo St hW D=>?_;refine wa7 (wpAny_runValue ?_);have G:A.in1.in1.in1.handled=none:=by simp[hh]
    have H:s.heap.objs.size∉[(s.heap.push {cls:=.type "set",dict:=none,data:=.set #[] 0 (.fresh 0 0 a)}).objs.size]:=by
     rw[wbS];simp only[waG,wao,wbn,or_false,not_or];exact wav (wbO _)
    have m:∀(i:Nat) (v:Value),SignAt x i v->∃t,v=.str (eZ x i) t:=λi v hv=>by
     obtain⟨c,u,hc,e⟩:=hv;refine{u,?_};rw[e];unfold eZ;rw[wcK,hc];rfl
    refine A8 ((hW _ G).toS) s.heap.objs.size H (eZ x) m p (x.cps.size-0) 0 _ (by lia) (waq _) D ?J ?hR
    case J=>
     have n:((s.heap.push {cls:=.type "set",dict:=none,data:=.set #[] 0 (.fresh 0 0 a)}).push o).get? s.heap.objs.size
      =some {cls:=.type "set",dict:=none,data:=.set #[] 0 (.fresh 0 0 a)}:=wa9 _ V
     exact SetOf_congr ((setObjOf_fresh (knd:=wbQ prog w) a).setOf n (by unfold wdk;lia)) (λ_=>rfl) rfl
    case hR=>
     intro s' q j;obtain⟨h',g',d',L,M⟩:=s';have eg:g'=s.gens:=q.gens;have ed:d'=s.drawn:=q.drawn;have eo:M=s.os:=q.os;subst eg;subst ed;subst eo;show wpAny _ _ _ _ _ _;refine waz ?_;show wpAny _ _ (ret wbF) _ _ _;refine waz {rfl,h',L,rfl,j,λb o' p e=>?_};have N:b≠s.heap.objs.size:=wav p
     have O:b≠(s.heap.push {cls:=.type "set",dict:=none,data:=.set #[] 0 (.fresh 0 0 a)}).objs.size:=by
      rw[wbS];exact wav (weh p)
     exact q.heap b o' (by simp only[waG,wao,wbn,or_false,not_or];exact⟨N,O⟩) (wa9 _ (wa9 _ e))
   .cases l with
    |error e=>exact d
    |ok k=>
     cases k with
     |ret r=>
      obtain⟨rfl,h',tk,rfl,j,S⟩:=d
      repeat (any_goals (first |assumption |wp_step))
      exact h _ _ j S
     |_=>exact d.elim
  |_=>exact z.elim
end
section
variable{X:Cx}{o i value:Expr}{pos pos':Pos}{td ty tv:TE}
theorem dU(j:X.A.units+1<wcJ)(l:PE X o td)(hi:PE X i ty)(p:PE X value tv)(hs:wcc value (some (.Subscript o i pos')) pos.line X.env=pure false) :
 PS X (.Assign [.Subscript o i pos'] value pos) (Ma td ty tv):=by
 refine{?_};intro b s σ H D I h;refine wpAny_Assign_Subscript (bN (p b s σ H _ I h) λr c ⟨v,d,e,f,k⟩=>bN (l b c σ d _ e k) λu m ⟨x,n,q,t,w⟩=>bN (hi b m σ n _ q w) λJ L ⟨y,M,z,B,a,C,ex,g,E⟩=>?_) hs;subst ex;obtain rfl:u=wam a:=t;exact EC j z g B f λN G=>⟨σ,C,G,E⟩
theorem Aa(hc:X.calm=true):dH X (.type "set") (λxs H Q=>∃z,xs=[.str z]/\z.cps.size+1<wdk/\∀p,H p=none->Q (.ref p) (upd H p (JT X.prog X.w p (cY (eZ z) z.cps.size).length))):=by
 intro c s σ H xs n Q I r h;obtain⟨z,rfl,f,q⟩:=h;obtain⟨u,rfl,t,rfl⟩:=vals1 r;refine yV (I.ok.hd hc) f λg i d kp=>?_;have a:∀b o,s.heap.get? b=some o->g.get? b=some o:=λb o e=>kp b o (wae e) e;refine{.ref s.heap.objs.size,_,I.laid (t':=i) (o:=JT X.prog X.w s.heap.objs.size (cY (eZ z) z.cps.size).length) a (waa _) {{_,d},?_,?_},rfl,q _ (I.b9.fresh (waa _))}
 .obtain⟨o,_,_,_,e,_⟩:=d;exact⟨o,e⟩
 .rintro v x ⟨S,o,j,l,m,e,rest⟩ k;exact{S,o,j,l,m,k o e,rest}
end
section
variable{P:waC}{w:World}{H:Hp}{h:Heap}{a C dx:Addr}{fs:List (Str×V)}
theorem u3(b9:jC P w H h)(e:H a=some (.ins C dx fs)):∃g,Bm h a dx C g/\(∀f,iS (fs.lookup f) (g f))/\we0 g (fs.map (·.1))/\fs.length<=1000/\H dx=some (.own a):=by
 obtain⟨d,z,ne,ob,g,n,r,q⟩:=(show bU P w H h a (.ins C dx fs) from b9 a _ e);exact{g,⟨ob,n,ne⟩,r,q,z,d}
end
section
variable{X:Cx}{pins:List (Addr×Obj)}{σ:St}{H:Hp}{s:Shared}{a C dx:Addr}{fs:List (Str×V)}{f:Str}{v:V}{A:Around}{E:Value->Shared->Prop}
theorem BV{Q:Value->Shared->Prop}(I:Inv X pins σ H s)(e:H a=some (.ins C dx fs))(c:zQ X.K C)(n:bQ X.K C f)(l:fs.lookup f=some v)
 (h:∀u s',Inv X pins σ H s'->RelV v u->Q u s'):wpAny (model X.prog X.w) A (getAttr (.ref a) f b) Q E s:=by
 obtain⟨g,O,r,_,_,_⟩:=u3 I.b9 e;obtain⟨u,i,d⟩:=iS.yz (v:=v) (o:=g f) (by grind);exact get_map I.gT O (c.get f) c.hd n i (Ej d) (h u _ (I.tok _) d)
theorem uO{Q:Value×List Value->Shared->Prop}(I:Inv X pins σ H s)(e:H a=some (.ins C dx fs))(c:zQ X.K C)(k:K0 X.K C m g)(l:fs.lookup m=none)
 (h:Q (.ref g,[.ref a]) s):wpAny (model X.prog X.w) A (weC (.ref a) m pl) Q E s:=by
 obtain⟨b,O,r,_,_,_⟩:=u3 I.b9 e;have hn:b m=none:=iS.none_of (by grind);exact Hg I.gT O (c.get m) k.at_ k.fn hn h
theorem BW{Q:Unit->Shared->Prop}(I:Inv X pins σ H s)(e:H a=some (.ins C dx fs))(c:zQ X.K C)(n:bQ X.K C f)(hl:fs.length<1000)(l:RelV y u)
 (h:∀s',Inv X pins σ (upd H a (.ins C dx (cL f y fs))) s'->Q .unit s'):wpAny (model X.prog X.w) A (setAttr (.ref a) f u) Q E s:=by
 obtain⟨i,O,r,j,_,k⟩:=u3 I.b9 e;have m:(fs.map (·.1)).length<=sizeLine:=by rw[wa0,wcg];lia
 refine Kd I.gT O c.sa c.po n.Pm c.hd j m λp d sb=>h _ ?_;have hd:∃o,p.get? dx=some o:=let ⟨o,_,_,t,_⟩:=d.ns;⟨o,t⟩
 refine I.write (x:=a) (e:=dx) (by rw[e];exact wbz) (.inr k) (λb q v z=>(sb.2 b v).trans z) hd ?_;refine{by rw[af O.ne];exact k,?_,O.ne,d.obj,_,d.ns,λg=>?_,λg B=>?_}
 .have:=rD f y fs;lia
 .show iS ((cL f y fs).lookup g) (if g=f then some u else i g);rw[aF]
  by_cases q:g=f
  .rw[if_pos q,if_pos q];exact l
  .rw[if_neg q,if_neg q];exact r g
 .by_cases q:g=f
  .rw[q];exact(qE f y fs).1
  .refine(qE f y fs).2 g (j g λz=>B ?_);show (if g=f then some u else i g)=none;rw[if_neg q];exact z
end
section
variable{X:Cx}{CX:G7}{k:Nat}{f C:Addr}{fd:wbw}{ps:List Str}{sp:Sp}{wq:List V}{ds:List Value}{E:XK}{m:Str}{pos apos:Pos}{e o:Expr}{es:List Expr}{ta:TE}{t:TA}
theorem Ke(he:PE X o ta)(c:zQ X.K C)(j:K0 X.K C m f)(F:aS X.prog X.w X.K X.mg X.base CX k f fd ps sp)(T:dF k X.A)(U:Binds X.K fd ps ds)(hd:Vals wq ds)(hx:Passes CX X E)(ha:PA X (e::es) t)
 (g:starEach (e::es) X.env=(false,eval e X.env)::starEach es X.env:=by rfl) (hpl:(backTo pos (starEach es X.env)).any (·.1)=false:=by rfl)
 (ht:eval (.Call (.Attribute o m apos) (e::es) [] pos) X.env=(do
   let J <-eval o X.env
   standAt apos.atName
   let (f,first) <-holding [J] (weC J m pl)
   callWith pos f first (backTo pos (starEach (e::es) X.env)) (backToKw pos (wcI [] X.env))):=by rfl) :
 PE X (.Call (.Attribute o m apos) (e::es) [] pos) (Dm C m sp wq E ta t):=by
 refine{?_};intro b s σ H Q I h;refine weD (pl:=pl) (bN (he b s σ H _ I h) λu n ⟨x,p,d,v,a,B,fs,ex,y,l,q⟩=>?_) ht;subst ex;obtain rfl:u=wam a:=v;refine uO d y c j l ?_;refine wcL (first:=[.ref a]) (h₀:=X.base) I.ok.mod.LO j.kp (bN (ha pos b n σ p _ d q) λus D ⟨vs,G,i,r,z⟩=>{i.gT,?_}) g hpl;exact BR (us:=.ref a::us) (vs:=.ref a::vs) F T U hd hx i (.cons rfl r) z
theorem Hj(he:PE X o ta)(c:zQ X.K C)(g:K0 X.K C m f)(F:aS X.prog X.w X.K X.mg X.base CX k f fd ps sp)(r:dF k X.A)(J:Binds X.K fd ps ds)(hd:Vals wq ds)(T:Passes CX X E)
 (U:eval (.Call (.Attribute o m apos) [] [] pos) X.env=(do
   let j <-eval o X.env
   standAt apos.atName
   let (f,first) <-holding [j] (weC j m pl)
   callWith pos f first (backTo pos (starEach [] X.env)) (backToKw pos (wcI [] X.env))):=by rfl) :
 PE X (.Call (.Attribute o m apos) [] [] pos) (Dm C m sp wq E ta yA):=by
 refine{?_};intro b s σ H Q I h;refine weD (pl:=pl) (bN (he b s σ H _ I h) λu n ⟨x,p,d,e,a,t,fs,ex,i,l,q⟩=>?_) U;subst ex;obtain rfl:u=wam a:=e;refine uO d i c g l ?_;exact PySem.W.callWith_K0 (first:=[.ref a]) d.gT g.kp (BR (us:=[.ref a]) (vs:=[.ref a]) F r J hd T d (.cons rfl .nil) q)
end
section
variable{X:Cx}{e:Expr}{f:Str}{pos:Pos}{ta:TE}
theorem aC(he:PE X e ta)(g:wcz e f X.env (eval e X.env)=eval e X.env):PE X (.Attribute e f pos) (Pn X.K ta f):=by
 refine{?_};intro b s σ H Q I h;refine Kb g (bN (he b s σ H _ I h) λu p ⟨x,d,i,j,a,C,r,fs,v,ex,k,c,n,l,q⟩=>?_);subst ex;obtain rfl:u=wam a:=j;exact BV i k c n l λt w m o=>⟨v,d,m,o,q⟩
end
section
variable{P:waC}{w:World}{H:Hp}{h:Heap}{x C d t:Addr}
theorem mU{X:Cx}{K:wa2}{e:Expr}{f:Str}{pos:Pos}{g:TE}(j:X.K=K)(he:PE X e g)(l:wcz e f X.env (eval e X.env)=eval e X.env):PE X (.Attribute e f pos) (Pn K g f):=by
 subst j;exact aC he l
theorem TV(e:h.get? x=some (tV C d t)):bU P w H h x (XD x C d):={⟨t,e⟩,{_,e},λc f ⟨a,b⟩ k=>{a,k _ b}}
end
section
variable{X:Cx}{o value:Expr}{f:Str}{pos pos':Pos}{ta tv:TE}
theorem d1(ha:PE X o ta)(g:PE X value tv)(hs:wcc value (some (.Attribute o f pos')) pos.line X.env=pure false):PS X (.Assign [.Attribute o f pos'] value pos) (To X.K ta tv f):=by
 refine{?_};intro b s σ H D I h;refine wd5 (bN (g b s σ H _ I h) λu d ⟨y,e,i,j,q⟩=>bN (ha b d σ e _ i q) λk z m=>?_) hs;obtain⟨x,A,p,r,a,C,B,fs,ex,t,c,n,l,v⟩:=m;subst ex;obtain rfl:k=wam a:=r;exact BW p t c n l j λE w=>{σ,_,w,v}
end
section
variable{X:Cx}{o e f:Expr}{apos eP:Pos}{td ty tx:TE}
theorem Hk(j:X.A.units+1<wcJ)(l:PE X o td)(he:PE X e ty)(p:PE X f tx)(m:M2 X o "get" apos e f eP):PE X (.Call (.Attribute o "get" apos) [e,f] [] eP) (MT td ty tx):=by
 refine{?_};intro b s σ H Q I h;refine wpAny_Call_method m.base m.few m.line wd8 weB PySem.F.type_dict_get (bN (l b s σ H _ I h) λu k ⟨x,n,i,q,a,ex,d,r⟩=>?_);subst ex;obtain rfl:u=wam a:=q;obtain⟨t,v,_⟩:=GK i d;refine{t,v,?_};rw[m.trees]
 refine wdv rfl (weR (wdm (bN (he b k σ n _ i r) λO w ⟨y,B,C,D,E⟩=>
  wdm (bN (p b w σ B _ C E) λR S ⟨z,G,J,L,T,g,M⟩=>wfn ?_))))
 exact Nf j J g D L λU V N c=>{_,G,N,c,M}
end
section
variable{X:Cx}{x:Str}{p pos:Pos}{e:Expr}{es:List Expr}{t:TA}{T:String}{r:List V->Hp->VK->Prop}
theorem bB(hc:dH X (.type T) r)(j:Gl X x)(l:X.mg x=none)(C:waV x=some (.type T))(ha:PA X (e::es) t)(hn:x≠"__name__":=by decide)(g:(x==("__debug__":Str))=false:=by decide)
 (he:starEach (e::es) X.env=(false,eval e X.env)::starEach es X.env:=by rfl) (hpl:(backTo pos (starEach es X.env)).any (·.1)=false:=by rfl):PE X (.Call (.Name x p) (e::es) [] pos) (RV r t):=by
 refine{?_};intro a s σ H Q I h;refine wbr (eR I j l C ?_ hn g);exact waZ (bN (ha pos a s σ H _ I h) λb c ⟨d,f,i,k,m⟩=>hc a c σ f d b Q i k m) he hpl
end
section
variable{X:Cx}{pins:List (Addr×Obj)}{σ:St}{H:Hp}{s:Shared}{A:Around}{E Q:Value->Shared->Prop}{c:Value}{b:Bool}
theorem ED(I:Inv X pins σ H s)(g:RelV x u)(ty:iD X.K H x t)(e:wia X.K t c=some b)(h:∀tk,Q (.bool b) {s with toks:=tk}) :
 wpAny (model X.prog X.w) A (call (.builtin "isinstance") [u,c]) Q E s:=by
 cases ty with
 |non=>cases(show u=wbF from g);exact wbK PySem.W.kitx_none I.gT wbz e (λz=>nomatch z) h
 |bl y=>cases(show u=wfx y from g);exact wbK PySem.W.kitx_bool I.gT wbz e (λz=>nomatch z) h
 |int i=>obtain⟨t,q⟩:=(show ∃t,u=wg3 i t from g);cases q;exact wbK PySem.W.kitx_int I.gT wbz e (λz=>nomatch z) h
 |str y=>obtain⟨t,q⟩:=(show ∃t,u=wg4 y t from g);cases q;exact wbK PySem.W.kitx_str I.gT wbz e (λz=>nomatch z) h
 |flt y=>obtain⟨t,q⟩:=(show ∃t,u=whD y t from g);cases q;exact wbK PySem.W.kitx_float I.gT wbz e (λz=>nomatch z) h
 |@lst a k d=>
  cases(show u=wam a from g);obtain⟨_,_,n,_,f⟩:=(show bU X.prog X.w H s.heap a (.lst k) from I.b9 a _ d);exact wbK whs I.gT {_,f,rfl} e (λz=>nomatch z) h
 |@frz a ob k d=>
  cases(show u=wam a from g);obtain⟨_,_,_,n,_,f⟩:=(show bU X.prog X.w H s.heap a (.frz ob (.lst k)) from I.b9 a _ d);exact wbK whs I.gT {_,f,rfl} e (λz=>nomatch z) h
 |@tup a k d=>
  cases(show u=wam a from g);obtain⟨_,_,_,p⟩:=(show bU X.prog X.w H s.heap a (.tup k) from I.b9 a _ d);obtain⟨o,f,l,_⟩:=p;exact wbK PySem.W.kitx_tuple I.gT ⟨o,f,l⟩ e (λz=>nomatch z) h
 |@dK a j d=>
  cases(show u=wam a from g);obtain⟨_,_,B,_,p⟩:=(show bU X.prog X.w H s.heap a (.dK j) from I.b9 a _ d);obtain⟨o,m,r,f,l,_⟩:=p;exact wbK wht I.gT ⟨o,f,l.1⟩ e (λz=>nomatch z) h
 |@dT a j d=>
  cases(show u=wam a from g);obtain⟨_,_,k,_,o,m,r,f,l,_⟩:=(show bU X.prog X.w H s.heap a (.dT j) from I.b9 a _ d);exact wbK wht I.gT ⟨o,f,l.1⟩ e (λz=>nomatch z) h
 |@ins a C D fs d cl ha hn qA v=>
  cases(show u=wam a from g);obtain⟨G,O,_⟩:=u3 I.b9 d;obtain⟨L,J,_⟩:=O.look;exact wbK (PySem.W.kitx_own (cl.get _) cl.hd ha hn qA v) I.gT J e (λz=>nomatch z) h
end
section
variable{X:Cx}
theorem cV:dH X (.builtin "isinstance") (λxs H Q=>∃x T t b,xs=[x,.ty T]/\iD X.K H x t/\wia X.K t (.type T)=some b/\Q (.bl b) H):=by
 intro a s σ H xs g Q I r h;obtain⟨x,T,t,b,rfl,ty,e,q⟩:=h;obtain⟨u,i,rfl,c,d⟩:=vals2 r;cases d;exact ED I c ty e λf=>{.bl b,H,I.tok f,rfl,q}
end
end L2
open L2
namespace Bs
noncomputable def bq(r:Str)(n:Nat):Str:=waU r (some (n:Int)) none
noncomputable def Hl(ps:List Str)(r:Str):Nat:=((waD (r.length+1)).find? λn=>decide (bq r n∈ps)).getD 0
noncomputable def lend(ps:List Str)(r:Str):Str:=bq r (Hl ps r)
theorem oW(g:bq r n∈ps)(j:∀m,m<n->bq r m∉ps)(l:n<=r.length):Hl ps r=n:=by
 unfold Hl
 have e:(waD (r.length+1)).find? (λn=>decide (bq r n∈ps))=some n:=by
  grind [List.find?_range_eq_some]
 rw[e];rfl
theorem Ab{P:Nat->Prop}:∀{ts:List Str},(∀t∈ts,∃c,t={#[c]}/\P c)->(ts.map (·.length)).sum=ts.length
 |[],_=>rfl
 |t::ts,h=>by
  obtain⟨c,rfl,_⟩:=h t (wag ..);rw[wat,wbu,Ab λt a=>h t (wac _ a),waE];show 1+ts.length=_
  lia
theorem uP{α β:Type}(f:α->List β)(b:Nat):∀(g:List α),(∀c∈g,(f c).length<=b)->(g.flatMap f).length<=g.length*b
 |[],_=>waq _
 |c::g,h=>by
  rw[wej,wa5,waE,Nat.succ_mul];have:=uP f b g λd hd=>h d (wac _ hd);have:=h c (wag ..)
  lia
noncomputable def bH(m:List (Str×Int)):List (Key×V):=m.map λp=>((wak p.1:Key),V.int p.2)
theorem ja(m:List (Str×Int)):(bH m).length=m.length:=wa0 ..
noncomputable def rN:List (Str×Int)->Str->Option Int
 |[],_=>none
 |(j,u)::m,k=>if j=k then some u else rN m k
theorem eC(k:Str):∀m:List (Str×Int),bC (bH m) (wak k:Key)=(rN m k).map V.int
 |[]=>rfl
 |(j,u)::m=>by
  unfold rN
  by_cases h:j=k
  .rw[if_pos h,h];exact cg rfl
  .rw[if_neg h,<-eC k m];exact cj (λz=>h (wcf z))
theorem uQ:∀{m:List (Str×Int)},k∉m.map (·.1)->rN m k=none
 |[],_=>rfl
 |(j,u)::m,h=>by
  unfold rN;rw[if_neg (λz=>h (by rw[z];exact wag ..))];exact uQ λz=>h (wac _ z)
noncomputable def lQ(q:Str×Str):List V:=[.str q.1,.str q.2]
noncomputable def oX(q:Str×Str):V×V:=(.str q.1,.str q.2)
theorem DB(g:List (Str×Str)):(g.map oX).map iE=g.map lQ:=by
 rw[wah];rfl
structure eu(H:Hp)(l:Addr)(rs:List Addr)(qs:List (Str×Str)):Prop where
 l:H l=some (.lst (rs.map V.ref))
 t:bc H rs (qs.map lQ)
theorem eu.len{H:Hp}{l:Addr}{rs:List Addr}{g:List (Str×Str)}(r:eu H l rs g):rs.length=g.length:=by rw[r.t.1,wa0]
theorem Ac(ls:List Str)(g:List (Str×Str)):((g.map oX).filter λq=>oP q.2 (ls.map V.str)).map iE=(g.filter λq=>decide (q.2∈ls)).map lQ:=by
 induction g with
 |nil=>rfl
 |cons q g a=>
  have e:oP (oX q).2 (ls.map V.str)=decide (q.2∈ls):=j4 q.2 ls;rw[wat]
  by_cases h:q.2∈ls
  .rw[wb5 (by rw[e];exact decide_eq_true h),wb5 (by exact decide_eq_true h),wat,wat,a];rfl
  .rw[wba (by rw[e];simpa using h),wba (by simpa using h),a]
def Np(m:List (Str×Int))(ls:List Str)(f:Str->Int):Prop:=∀p∈ls,rN m p=some (f p)
theorem uR(m:List (Str×Int)):uj (bH m)=true:=waR.mpr λa h=>by
 obtain⟨p,_,rfl⟩:=wab.mp h;rfl
theorem qP(h:k∉m.map (·.1))(v:Int):putK (bH m) (wak k:Key) (.int v)=bH (m++[(k,v)]):=by
 rw[fF _ (by rw[eC,uQ h];rfl)];unfold bH;rw[wai];rfl
theorem xQ{f:Str->Int}:∀{os:List Str},k∈os->rN (os.map λp=>(p,f p)) k=some (f k)
 |[],h=>nomatch h
 |j::os,h=>by
  show (if j=k then some (f j) else rN (os.map λp=>(p,f p)) k)=_
  by_cases e:j=k
  .rw[if_pos e,e]
  .rw[if_neg e];rcases waG.mp h with z |z
   .grind
   .exact xQ z
theorem BX{α:Type}{a b:α->Int}:∀{l:List α},(∀x∈l,a x<=b x)->(l.map a).sum<=(l.map b).sum
 |[],_=>wfa _
 |x::l,h=>by
  rw[wat,wat,wbu,wbu];exact Int.add_le_add (h x (wag ..)) (BX λy c=>h y (wac _ c))
theorem uS{α:Type}{a:α->Int}{l:List α}(h:∀x∈l,0<=a x):0<=(l.map a).sum:=by
 have:=BX (a:=λ_=>(0:Int)) (b:=a) h
 have e:∀l:List α,(l.map λ_=>(0:Int)).sum=0:=by
  intro l
  induction l with
  |nil=>rfl
  |cons x l c=>grind
 rw[e]at this;exact this
noncomputable def TX:V->Bool
 |.int _=>true
 |_=>false
theorem uT{α β:Type}{f:α->Option β}:∀{l:List α},(∀a∈l,f a=none)->l.filterMap f=[]:=by intro l;induction l<;>grind [wag,wac]
noncomputable def dh(q:Str×Nat):V×V:=(.str q.1,.int (q.2:Int))
noncomputable def rP(a:Addr):List (Str×V):=[("homes",.ref a)]
noncomputable def oY(a b:Addr):List (Str×V):=[("homes",.ref a),("weights",.ref b)]
noncomputable def BZ(a b c:Addr):List (Str×V):=[("homes",.ref a),("weights",.ref b),("lines",.ref c)]
theorem Mg(a:Addr):cL "homes" (.ref a) []=rP a:=rfl
theorem Hm(a b:Addr):cL "weights" (.ref b) (rP a)=oY a b:=by
 show (if ("homes":Str)="weights" then(("homes":Str),V.ref b)::[] else(("homes":Str),V.ref a)::cL "weights" (.ref b) [])=_;rw[if_neg ∅];rfl
theorem DC(a b c:Addr):cL "lines" (.ref c) (oY a b)=BZ a b c:=by
 show (if ("homes":Str)="lines" then(("homes":Str),V.ref c)::[(("weights":Str),V.ref b)] else(("homes":Str),V.ref a)::(if ("weights":Str)="lines" then(("weights":Str),V.ref c)::[] else(("weights":Str),V.ref b)::cL "lines" (.ref c) []))=_;rw[if_neg ∅,if_neg ∅];rfl
theorem fj(a b c:Addr):(BZ a b c).lookup ("homes":Str)=some (.ref a):=by
 rw[<-DC,aF,if_neg ∅,<-Hm,aF,if_neg ∅,<-Mg,aF,if_pos rfl]
theorem cG(a b c:Addr):(BZ a b c).lookup ("weights":Str)=some (.ref b):=by
 rw[<-DC,aF,if_neg ∅,<-Hm,aF,if_pos rfl]
theorem bO(a b c:Addr):(BZ a b c).lookup ("lines":Str)=some (.ref c):=by
 rw[<-DC,aF,if_pos rfl]
noncomputable def av(ls:List Str)(f:Str->Int):List Str:=ls.filter λp=>decide (0<f p)
theorem rQ:∀{hs:List Str} {j:Nat} (h:j<hs.length),hs.idxOf hs[j]<=j
 |[],j,h=>absurd h (wcP _)
 |a::hs,0,h=>by
  show (a::hs).idxOf a<=0;rw[wgN];exact waa 0
 |a::hs,j+1,h=>by
  have b:j<hs.length:=by simpa using h
  show (a::hs).idxOf hs[j]<=j+1;rw[wi2];have:=rQ b
  cases(a==hs[j]) with
  |true=>grind
  |false=>grind
theorem qQ{hs:List Str}{k:Str}(h:k∈hs):hs[hs.idxOf k]?=some k/\∀j:Nat,j<hs.idxOf k->hs[j]?≠some k:=by grind [wa1,waf,rQ]
noncomputable def eU(i:Int)(n:Nat):Bool:=decide (0<=i)&&decide (i<(n:Int))
noncomputable def bf(ws:List Int)(qs:List (Str×Nat)):Int:=(qs.map λq=>ws.getD q.2 0).sum
noncomputable def eS(ws:List Int)(many:Int)(qs:List (Str×Nat))(w:Int):Bool:=!qs.isEmpty&&(decide (1<=w)&&decide (many*w<=bf ws qs))
noncomputable def b7{α:Type}(ns:List Int)(l:List α):List α:=bp (λi=>decide ((i:Int)∈ns)) 0 l
noncomputable def aY{α:Type}(ns:List Int)(l:List α):List α:=bp (λi=>!decide ((i:Int)∈ns)) 0 l
noncomputable def eJ(d t:Nat)(l:List (Str×Nat)):List (Str×Nat):=l.flatMap λq=>if q.2=d then[q,(q.1,t)] else[q]
noncomputable def dW(ws:List Int)(lns:List (List (Str×Nat)))(many tI:Int)(ns:List Int)(w:Int):Bool:=
 eU tI lns.length&&(ns.all (λi=>eU i (lns.getD tI.toNat []).length)&&(eS ws many (b7 ns (lns.getD tI.toNat [])) w&&eS ws many (aY ns (lns.getD tI.toNat [])) (ws.getD tI.toNat 0-w)))
noncomputable def cQ(hs:List Str)(d:Nat):List Str:=hs++[hs.getD d ""]
noncomputable def cw(ws:List Int)(d:Nat)(w:Int):List Int:=(ws++[ws.getD d 0-w]).set d w
noncomputable def dn(lns:List (List (Str×Nat)))(d:Nat)(ns:List Int):List (List (Str×Nat)):=((lns++[aY ns (lns.getD d [])]).set d (b7 ns (lns.getD d []))).map (eJ d lns.length)
theorem qR(d t:Nat):∀l:List (Str×Nat),(eJ d t l).length<=2*l.length
 |[]=>waa _
 |q::l=>by
  have:=qR d t l;show ((if q.2=d then[q,(q.1,t)] else[q])++eJ d t l).length<=2*(l.length+1);rw[wa5];split
  .grind
  .grind
theorem uU(d t:Nat)(l:List (Str×Nat))(q:Str×Nat):eJ d t (l++[q])=eJ d t l++(if q.2=d then[q,(q.1,t)] else[q]):=by simp_all [eJ,wf3,congr,waY]
structure Mh(hs:List Str)(ws:List Int)(lns:List (List (Str×Nat))):Prop where
 w:ws.length=hs.length
 l:lns.length=hs.length
 e:∀l∈lns,∀q∈l,q.2<hs.length
 n:hs.length<=1000
 m:∀l∈lns,l.length<=5000
theorem oZ(hi:i<ws.length)(g:i≠d):(cw ws d w).getD i 0=ws.getD i 0:=by grind [cw,wcU,waA]
theorem rR(hd:d<ws.length):(cw ws d w).getD d 0=w:=by
 unfold cw;rw[wa4,wdr (by rw[wa5];lia)];rfl
theorem rS(hd:d<ws.length):(cw ws d w).getD ws.length 0=ws.getD d 0-w:=by
 unfold cw;rw[wa4,wcU (by lia),waB (waa _),wbA];rfl
theorem C0(ws:List Int)(d:Nat)(w:Int):(cw ws d w).length=ws.length+1:=by
 unfold cw;rw[wcx,wa5];rfl
theorem cE(ws:List Int)(q:Str×Nat)(g:List (Str×Nat)):bf ws (q::g)=ws.getD q.2 0+bf ws g:=rfl
theorem uV(ws:List Int)(ps g:List (Str×Nat)):bf ws (ps++g)=bf ws ps+bf ws g:=by
 unfold bf;rw[wai,wi3]
theorem nq(hd:d<ws.length):∀g:List (Str×Nat),(∀q∈g,q.2<ws.length)->bf (cw ws d w) (eJ d ws.length g)=bf ws g
 |[],_=>rfl
 |q::g,h=>by
  have c:=nq (w:=w) hd g λq b=>h q (wac _ b);have b:=h q (wag ..);have e:eJ d ws.length (q::g)=(if q.2=d then[q,(q.1,ws.length)] else[q])++eJ d ws.length g:=rfl;rw[e,uV,c,cE]
  by_cases a:q.2=d
  .rw[if_pos a,cE,cE,a,rR hd];have f:(cw ws d w).getD ((q.1,ws.length):Str×Nat).2 0=ws.getD d 0-w:=rS hd;rw[f];show w+(ws.getD d 0-w+0)+_=_
   lia
  .rw[if_neg a,cE,oZ b a];show ws.getD q.2 0+0+_=_
   lia
theorem DE:∀(ws:List Int) (d:Nat) (w:Int),d<ws.length->(ws.set d w).sum=ws.sum-ws.getD d 0+w
 |[],_,_,h=>absurd h (wcP _)
 |x::ws,0,w,_=>by
  show w+ws.sum=x+ws.sum-x+w
  lia
 |x::ws,d+1,w,h=>by
  have a:=DE ws d w (by simpa using h);show x+(ws.set d w).sum=x+ws.sum-ws.getD d 0+w;rw[a]
  lia
theorem C3(hd:d<ws.length):(cw ws d w).sum=ws.sum:=by grind [cw,DE,wa5,waA]
structure iG(many:Int)(hs:List Str)(ws:List Int)(lns:List (List (Str×Nat))):Prop where
 w:ws.length=hs.length
 l:lns.length=hs.length
 p:∀w∈ws,1<=w
 e:∀l∈lns,∀q∈l,q.2<hs.length
 b:∀(i:Nat) (l:List (Str×Nat)),lns[i]?=some l->many*ws.getD i 0<=bf ws l
theorem C4(h:q∈eJ d t l):q.2=t\/q∈l:=by grind [eJ]
theorem uW(h:eS ws many g w=true):g≠[]/\1<=w/\many*w<=bf ws g:=by simp_all [eS,wbc,of_decide_eq_true]
noncomputable def pre(ls:List Int)(k:Nat):Int:=(ls.take k).sum
theorem RX{a b:Prop}[Decidable a][Decidable b]{α:Type}{x y:α}(h:a↔b):(if a then x else y)=if b then x else y:=by simp_all [if_pos,if_neg]
noncomputable def gC(p:Str)(z:Str×Nat):List Str->List (List (Str×Nat))->Nat
 |h::hs,l::lns=>(if h=p then l.count z else 0)+gC p z hs lns
 |_,_=>0
theorem xR(p:Str)(z:Str×Nat)(h:Str)(l:List (Str×Nat)):∀(hs:List Str) (lns:List (List (Str×Nat))),hs.length=lns.length->gC p z (hs++[h]) (lns++[l])=gC p z hs lns+(if h=p then l.count z else 0)
 |[],[],_=>by
  show (if h=p then l.count z else 0)+0=0+_
  lia
 |[],_::_,e=>by cases e
 |_::_,[],e=>by cases e
 |x::hs,y::lns,e=>by
  show (if x=p then y.count z else 0)+gC p z (hs++[h]) (lns++[l])=_;rw[xR p z h l hs lns (by simpa using e)];show _=(if x=p then y.count z else 0)+gC p z hs lns+_
  lia
theorem Ad(p:Str)(z:Str×Nat)(g:List (Str×Nat)):∀(hs:List Str) (lns:List (List (Str×Nat))) (d:Nat),hs.length=lns.length->d<lns.length ->
 gC p z hs (lns.set d g)+(if hs.getD d ""=p then(lns.getD d []).count z else 0)=gC p z hs lns+(if hs.getD d ""=p then g.count z else 0)
 |_,[],d,_,h=>absurd h (wcP _)
 |[],_::_,_,e,_=>by cases e
 |x::hs,y::lns,0,_,_=>by
  show (if x=p then g.count z else 0)+gC p z hs lns+(if x=p then y.count z else 0)=(if x=p then y.count z else 0)+gC p z hs lns+(if x=p then g.count z else 0)
  lia
 |x::hs,y::lns,d+1,e,h=>by
  have a:=Ad p z g hs lns d (by simpa using e) (by simpa using h);show (if x=p then y.count z else 0)+gC p z hs (lns.set d g)+(if hs.getD d ""=p then(lns.getD d []).count z else 0)=(if x=p then y.count z else 0)+gC p z hs lns+(if hs.getD d ""=p then g.count z else 0)
  lia
theorem Ae(p:Str){f:List (Str×Nat)->List (Str×Nat)}:∀(hs:List Str) (lns:List (List (Str×Nat))),(∀l∈lns,(f l).count z=l.count z')->gC p z hs (lns.map f)=gC p z' hs lns
 |_,[],_=>by cases ‹List Str›<;>rfl
 |[],_::_,_=>rfl
 |x::hs,y::lns,h=>by
  show (if x=p then(f y).count z else 0)+gC p z hs (lns.map f)=(if x=p then y.count z' else 0)+gC p z' hs lns;rw[Ae p hs lns λl hl=>h l (wac _ hl),h y (wag ..)]
theorem cnt_cons(q z:Str×Nat)(l:List (Str×Nat)):(q::l).count z=l.count z+if q=z then 1 else 0:=by simp_all [List.count_cons,if_pos,beq_self_eq_true,if_neg]
theorem om(f:Nat->Bool)(z:Str×Nat):∀(k:Nat) (l:List (Str×Nat)),(bp f k l).count z+(bp (λi=>!f i) k l).count z=l.count z
 |_,[]=>rfl
 |k,q::l=>by
  have a:=om f z (k+1) l;show (if f k then q::bp f (k+1) l else bp f (k+1) l).count z+(if !f k then q::bp (λi=>!f i) (k+1) l else bp (λi=>!f i) (k+1) l).count z=_;rw[cnt_cons]
  cases f k with
  |true=>
   grind
  |false=>
   grind
theorem rT(hd:d<t)(w:Str)(e:Nat):∀l:List (Str×Nat),(∀q∈l,q.2<t)->(eJ d t l).count (w,e)=l.count (w,if e=t then d else e)
 |[],_=>rfl
 |q::l,h=>by
  have f:=rT hd w e l λq c=>h q (wac _ c);have c:=h q (wag ..);have g:eJ d t (q::l)=(if q.2=d then[q,(q.1,t)] else[q])++eJ d t l:=rfl;rw[g,List.count_append,f,cnt_cons];obtain⟨a,b⟩:=q;have c:b<t:=c;show (if b=d then[(a,b),(a,t)] else[(a,b)]).count (w,e)+_=_
  by_cases i:b=d
  .grind
  .grind
def wD(B:Str->List (Str×Str))(hs:List Str)(lns:List (List (Str×Nat))):Prop:=
 ∀(p w:Str) (e:Nat),gC p (w,e) hs lns=if e<hs.length/\p∈hs/\(w,hs.getD e "")∈B p then 1 else 0
theorem iU{f:Str->Option (Str×Str)}(g:∀r x,f r=some x->x.1=r):∀L:List Str,((L.filterMap f).map (·.1)).Sublist L
 |[]=>.slnil
 |r::L=>by
  rw[wbl]
  cases e:f r with
  |none=>exact(iU g L).cons _
  |some x=>
   show (x.1::(L.filterMap f).map (·.1)).Sublist _;rw[g r x e];exact(iU g L).cons₂ _
theorem yW:∀{l:List (Str×Str)},(l.map (·.1)).Nodup->l.Nodup:=by intro l;induction l<;>grind [wdx,wbI]
theorem p0{α:Type}(f:α->Int):∀l:List α,(∀x∈l,0<=f x)->(l.map f).sum=((l.filter λx=>decide (0<f x)).map f).sum:=by intro l;induction l<;>grind [wac,wag,wb5,decide_eq_true,wba,decide_eq_false]
theorem xS{f:Str->Int}(h:∀p∈ls,0<=f p):((av ls f).map f).sum=(ls.map f).sum:=(p0 f ls h).symm
noncomputable def cR(ds:List Nat)(qs:List (Str×Nat)):List (Str×Nat):=qs.filter λq=>decide (q.2∈ds)
theorem Hn(j:List Nat)(g:List (Str×Nat)):(cR j g).length<=g.length:=wb6 _ _
noncomputable def uX(lns:List (List (Str×Nat)))(many:Int)(ds:List Nat):List Nat:=ds.filter λd=>decide (many<=((cR ds (lns.getD d [])).length:Int))
def DF(lns:List (List (Str×Nat)))(many:Int)(S:List Nat):Prop:=∀d∈S,d<lns.length/\many<=((cR S (lns.getD d [])).length:Int)
theorem Ho(e:uX lns many g≠g):(uX lns many g).length<g.length:=by
 have a:(uX lns many g).Sublist g:=wdN;exact Nat.lt_of_le_of_ne a.length_le λz=>e (a.eq_of_length z)
theorem oo:∀g:List (Str×Nat),(∀q∈g,ws.getD q.2 0<=h)->bf ws g<=(g.length:Int)*h
 |[],_=>by show (0:Int)<=(0:Nat)*h;simp
 |q::g,a=>by
  have c:=oo g λp b=>a p (wac _ b);have h0:=a q (wag ..);rw[cE,waE,wbk,wgp];show _<=_+1*h
  lia
theorem jb{ws:List Int}{i:Nat}(h:i<ws.length):ws.getD i 0∈ws:=by
 grind
theorem xT(f:Nat->Bool)(ws:List Int):∀(k:Nat) (g:List (Str×Nat)),bf ws (bp f k g)=(((wgn k g.length).filter f).map λi=>ws.getD (g.getD (i-k) ("",0)).2 0).sum
 |_,[]=>rfl
 |k,q::g=>by
  have a:=xT f ws (k+1) g
  have e:((wgn (k+1) g.length).filter f).map (λi=>ws.getD ((q::g).getD (i-k) ("",0)).2 0)=((wgn (k+1) g.length).filter f).map λi=>ws.getD (g.getD (i-(k+1)) ("",0)).2 0:=waX λi hi=>by
   have:=(whu.mp (wau.mp hi).1).1;rw[show i-k=(i-(k+1))+1 by lia];rfl
  show bf ws (if f k then q::bp f (k+1) g else bp f (k+1) g)=_;rw[waE,whP]
  cases b:f k with
  |true=>
   rw[if_pos rfl,wb5 b,wat,e,cE,a,wbu,wbA];rfl
  |false=>
   rw[if_neg ⋯,wba (by grind),e,a]
theorem Hq{a b:List Int}(h:a.Perm b):a.sum=b.sum:=by
 induction h with
 |nil=>rfl
 |cons x _ c=>grind
 |swap x y l=>grind
 |trans _ _ d e=>grind
theorem C5{a b:List Nat}(na:a.Nodup)(g:b.Nodup)(h:∀x,x∈a↔x∈b):a.Perm b:=by grind [wi4]
theorem EE(ws:List Int)(ns:List Int)(g:List (Str×Nat)):bf ws (b7 ns g)+bf ws (aY ns g)=bf ws g:=by
 have gen:∀(f:Nat->Bool) (k:Nat) (l:List (Str×Nat)),bf ws (bp f k l)+bf ws (bp (λi=>!f i) k l)=bf ws l:=by
  intro f k l
  induction l generalizing k with
  |nil=>rfl
  |cons q l a=>
   have a:=a (k+1);show bf ws (if f k then q::bp f (k+1) l else bp f (k+1) l)+bf ws (if !f k then q::bp (λi=>!f i) (k+1) l else bp (λi=>!f i) (k+1) l)=_;rw[cE]
   cases f k with
   |true=>
    rw[if_pos ⋯,if_neg ⋯,cE]
    lia
   |false=>
    rw[if_neg ⋯,if_pos ⋯,cE]
    lia
 exact gen _ 0 g
theorem oq{f:Nat->Int}:∀ns:List Nat,(∀n∈ns,f n<=h)->(ns.map f).sum<=(ns.length:Int)*h
 |[],_=>by show (0:Int)<=(0:Nat)*h;simp
 |n::ns,a=>by
  have c:=oq ns λp b=>a p (wac _ b);have h0:=a n (wag ..);rw[wat,wbu,waE,wbk,wgp];show _<=_+1*h
  lia
theorem uY{f:Nat->Int}:∀ns:List Nat,(∀n∈ns,1<=f n)->ns≠[]->1<=(ns.map f).sum
 |[],_,h=>absurd rfl h
 |[n],a,_=>by
  have:=a n (wag ..);show 1<=f n+0
  lia
 |n::m::ns,a,_=>by
  have h0:=a n (wag ..);have c:=uY (m::ns) (λp b=>a p (wac _ b)) (λz=>nomatch z);rw[wat,wbu]
  lia
noncomputable def nI(ds:List Nat):List Int:=ds.map λn:Nat=>(n:Int)
theorem Nq{g:List Nat}{e:Nat}:(e:Int)∈nI g↔e∈g:=by grind [nI]
theorem Af(e:Nat)(g:List Nat):oP (.int (e:Int)) ((nI g).map V.int)=decide (e∈g):=by
 rw[uq];exact decide_eq_decide.mpr Nq
theorem bR(g:List Nat):(nI g).length=g.length:=wa0 _
theorem yX{g:List Nat}{i n:Nat}(h:g[i]?=some n):((nI g).map V.int)[i]?=some (.int (n:Int)):=by
 unfold nI;rw[wa3,wa3,h];rfl
theorem mV(a b:List Nat):nI (a++b)=nI a++nI b:=wai
noncomputable def d2(Mf:List Str)(f:Str->Int):Str->Int:=λp=>if p∈Mf then f p else 0
theorem uZ{α:Type}{f g:α->Int}:∀l:List α,(∀x∈l,f x<=g x)->(l.map f).sum<=(l.map g).sum
 |[],_=>wfa _
 |x::l,h=>by
  have:=h x (wag ..);have:=uZ l λy a=>h y (wac _ a);rw[wat,wat,wbu,wbu]
  lia
theorem va{α:Type}{f:α->Int}{x:α}:∀l:List α,(∀x∈l,0<=f x)->x∈l->0<f x->0<(l.map f).sum
 |y::l,h,a,c=>by
  have h0:=h y (wag ..);have hn:=uS λz b=>h z (wac _ b);rw[wat,wbu];rcases waG.mp a with e |a
  .rw[<-e];lia
  .have:=va l (λz b=>h z (wac _ b)) a c
   lia
theorem xU:∀(a b:List Int),um (a.map V.int) (b.map V.int)=decide (a=b)
 |[],[]=>rfl
 |[],_::_=>rfl
 |_::_,[]=>rfl
 |x::a,y::b=>by
  have d:=xU a b;show (rG (.int x) (.int y)&&um (a.map V.int) (b.map V.int))=_;rw[d]
  by_cases h:x=y
  .subst h
   by_cases c:a=b
   .subst c;have:rG (.int x) (.int x)=true:=by simp[rG]
    rw[this,decide_eq_true rfl,decide_eq_true rfl];rfl
   .rw[decide_eq_false c,wed,decide_eq_false λz=>c (wgY z).2]
  .have:rG (.int x) (.int y)=false:=by simp[rG,h]
   rw[this,wcG,decide_eq_false λz=>h (wgY z).1]
theorem xV{p:V->Bool}{f:Nat->Bool}(h:∀n:Nat,p (.int (n:Int))=f n):∀g:List Nat,((nI g).map V.int).filter p=(nI (g.filter f)).map V.int:=by intro n;induction n<;>grind [nI,wb5,wba]
theorem vc(h:x∈(nI g).map V.int):∃n∈g,x=.int (n:Int):=by grind [nI]
theorem vd(n:Nat):((waD n).map λi=>V.int (i:Nat))=(nI (waD n)).map V.int:=by
 unfold nI;rw[wah];rfl
noncomputable def dB(rs:List Nat):List (Key×V):=rs.map λn:Nat=>((wb4 (n:Int):Key),V.bl true)
theorem yY(e:Nat):∀rs:List Nat,bC (dB rs) (wb4 (e:Int):Key)=if e∈rs then some (.bl true) else none
 |[]=>rfl
 |r::rs=>by
  have a:=yY e rs
  by_cases h:r=e
  .subst h;rw[if_pos (wag ..)];exact cg (p:=((wb4 (r:Int):Key),V.bl true)) (r:=dB rs) rfl
  .have hn:¬(wb4 (r:Int):Key)=wb4 (e:Int):=λz=>h (by grind);rw[show dB (r::rs)=((wb4 (r:Int):Key),V.bl true)::dB rs from rfl,cj hn,a]
   by_cases b:e∈rs
   .grind
   .grind
theorem Hr{e:Nat}{rs:List Nat}(h:e∉rs):putK (dB rs) (wb4 (e:Int):Key) (.bl true)=dB (rs++[e]):=by
 rw[fF _ (by rw[yY,if_neg h])];unfold dB;rw[wai];rfl
theorem DG(rs:List Nat):((dB rs).map λg=>kV g.1)=(nI rs).map V.int:=by
 unfold dB nI;rw[wah,wah];rfl
theorem Kf(h:g≠[]):∃(z:Nat) (ys:List Nat),g=ys++[z]/\((nI g).map V.int)[((nI g).map V.int).length-1]?=some (.int (z:Int))/\((nI g).map V.int).dropLast=(nI ys).map V.int:=by
 refine{g.getLast h,g.dropLast,(wdy h).symm,?_,?_}
 .have e:nI g=nI g.dropLast++[((g.getLast h:Nat):Int)]:=by
   conv=>lhs;rw[<-wdy h]
   exact mV _ _
  rw[e,wai,wa5];show (_++[V.int _])[_+1-1]?=_;rw[Nat.add_sub_cancel,waB (waa _),wbA];rfl
 .unfold nI;rw[<-whv,<-whv]
noncomputable def dR(many:Int)(p:Nat->Int)(n:Nat):List (Key×V):=(waD n).map λi:Nat=>((wb4 (p i%many):Key),V.int (i:Int))
theorem EF{κ:Type}[DecidableEq κ]{k:κ}{v:V}:∀{kvs:List (κ×V)},bC kvs k=some v->(k,v)∈kvs:=by intro kvs;induction kvs<;>grind [Gw,cg,wag,cj,wac]
theorem Hs(many:Int)(p:Nat->Int)(n:Nat)(r:Int):(bC (dR many p n) (wb4 r:Key)=none/\∀i,i<n->p i%many≠r)\/∃i,i<n/\p i%many=r/\bC (dR many p n) (wb4 r:Key)=some (.int (i:Int)):=by
 cases h:bC (dR many p n) (wb4 r:Key) with
 |none=>
  refine .inl {rfl,λi hi e=>?_};refine GW h (wab.mpr {((wb4 (p i%many):Key),V.int (i:Int)),wab.mpr {i,wb7.mpr hi,rfl},?_});show (wb4 (p i%many):Key)=_;rw[e]
 |some v=>
  obtain⟨i,hi,e⟩:=wab.mp (EF h);have a:p i%many=r:=Sum.inl.inj (wce e).1;have b:V.int (i:Int)=v:=(wce e).2;exact .inr {i,wb7.mp hi,a,by rw[b]}
theorem Nr{p:Nat->Int}(h:bC (dR many p n) (wb4 (p n%many):Key)=none):putK (dR many p n) (wb4 (p n%many):Key) (.int (n:Int))=dR many p (n+1):=by
 rw[fF _ h];unfold dR;rw[wcv,wai];rfl
theorem Nt(many:Int)(p:Nat->Int)(n:Nat):(dR many p n).length=n:=by unfold dR;rw[wa0,waJ]
theorem nodup_map_on{α β:Type}{f:α->β}:∀{l:List α},l.Nodup->(∀a∈l,∀b∈l,f a=f b->a=b)->(l.map f).Nodup:=by intro l;induction l<;>grind [wdx,wac,wag]
theorem DH(ns:List Nat)(j:Nat):(nI ns).take j=nI (ns.take j):=by unfold nI;rw[wdd]
theorem Kg(ns:List Nat)(j:Nat):(nI ns).drop j=nI (ns.drop j):=by unfold nI;rw[wer]
noncomputable def restOf(m i0:Nat):List Nat:=(waD m).filter λn=>decide (n≠i0)
noncomputable def numsOf(m i0 k:Nat):List Nat:=i0::(restOf m i0).take k
theorem C6(m i0 k:Nat):(numsOf m i0 k).Nodup:=by
 unfold numsOf;refine wbI.mpr {λh=>?_,(wfM.filter _).sublist (wbp _ _)};have:=of_decide_eq_true (wau.mp ((wbp _ _).subset h)).2;exact this rfl
theorem yZ(h:i0<m):∀n∈numsOf m i0 k,n<m:=λn hn=>by
 rcases waG.mp hn with rfl |hn
 .exact h
 .exact wb7.mp (wau.mp ((wbp _ _).subset hn)).1
theorem Nu(ws:List Int){g:List (Str×Nat)}{n:Nat}(h:n<g.length):(g.map λq=>ws.getD q.2 0).getD n 0=ws.getD (g.getD n ("",0)).2 0:=by
 rw[wa4,wa3,wa1 h,wa4 (l:=g),wa1 h];rfl
theorem Kh{R:Addr->Prop}:(∀y∈ys,∃q,y=.ref q/\R q)->∃ps:List Addr,ys=ps.map V.ref/\∀q∈ps,R q:=by
 induction ys with
 |nil=>exact λ_=>{[],rfl,λq h=>nomatch h}
 |cons y ys a=>
  intro h;obtain⟨q,rfl,c⟩:=h y (wag ..);obtain⟨ps,rfl,d⟩:=a λz b=>h z (wac _ b)
  exact{q::ps,rfl,λr e=>by
   grind}
noncomputable abbrev z4:=Nat×List Nat×Int
set_option genInjectivity true in
inductive Runs(many:Int)(RY:List Str)(RZ:List Int)(Ki:List (List (Str×Nat))):List z4->List Str->List Int->List (List (Str×Nat))->Prop
 |nil:Runs many RY RZ Ki [] RY RZ Ki
 |snoc {l:List z4} {hs:List Str} {ws:List Int} {lns:List (List (Str×Nat))} {d:Nat} {ns:List Nat} {w:Int}:Runs many RY RZ Ki l hs ws lns->dW ws lns many (d:Int) (nI ns) w=true->Runs many RY RZ Ki (l++[(d,ns,w)]) (cQ hs d) (cw ws d w) (dn lns d (nI ns))
noncomputable def rV(a:Addr):List (Str×V):=[("weights",.ref a)]
noncomputable def p5(a b:Addr):List (Str×V):=[("weights",.ref a),("splits",.ref b)]
noncomputable def rW(a b c:Addr):List (Str×V):=[("weights",.ref a),("splits",.ref b),("kept",.ref c)]
noncomputable def ve(a b c d:Addr):List (Str×V):=[("weights",.ref a),("splits",.ref b),("kept",.ref c),("last",.ref d)]
theorem Qq(a:Addr):cL "weights" (.ref a) []=rV a:=rfl
theorem Mi(a b:Addr):cL "splits" (.ref b) (rV a)=p5 a b:=by
 show (if ("weights":Str)="splits" then _ else(("weights":Str),V.ref a)::cL "splits" (.ref b) [])=_;rw[if_neg ∅];rfl
theorem Ht(a b c:Addr):cL "kept" (.ref c) (p5 a b)=rW a b c:=by
 show (if ("weights":Str)="kept" then _ else(("weights":Str),V.ref a)::(if ("splits":Str)="kept" then _ else(("splits":Str),V.ref b)::cL "kept" (.ref c) []))=_;rw[if_neg ∅,if_neg ∅];rfl
theorem DI(a b c d:Addr):cL "last" (.ref d) (rW a b c)=ve a b c d:=by
 show (if ("weights":Str)="last" then _ else(("weights":Str),V.ref a)::(if ("splits":Str)="last" then _ else(("splits":Str),V.ref b)::(if ("kept":Str)="last" then _ else(("kept":Str),V.ref c)::cL "last" (.ref d) [])))=_;rw[if_neg ∅,if_neg ∅,if_neg ∅];rfl
theorem C7(a b c d:Addr):(ve a b c d).lookup ("last":Str)=some (.ref d):=by
 rw[<-DI,aF,if_pos rfl]
theorem C8(a b c d:Addr):(ve a b c d).lookup ("kept":Str)=some (.ref c):=by
 rw[<-DI,aF,if_neg ∅,<-Ht,aF,if_pos rfl]
theorem z5(a b c d:Addr):(ve a b c d).lookup ("splits":Str)=some (.ref b):=by
 rw[<-DI,aF,if_neg ∅,<-Ht,aF,if_neg ∅,<-Mi,aF,if_pos rfl]
theorem Kj:fB (upd H b o) b=fB H b:=by
 funext c;unfold fB
 by_cases h:c=b
 .rw[if_pos h,if_pos h]
 .rw[if_neg h,if_neg h,af h]
theorem DJ(h:H b=some o):a8 (aL H g) (fB g b):=by grind [a8,fB,bI,gg,aL]
theorem Ag(s:a8 H g)(h:H b=none):a8 H (fB g b):=λc o e=>gg (s _ _ e) (ag e h)
theorem vf:∀{ws:List Int},(∀w∈ws,1<=w)->(ws.length:Int)<=ws.sum
 |[],_=>wfa _
 |w::ws,h=>by
  have h0:=h w (wag ..);have b:=vf (ws:=ws) λx a=>h x (wac _ a);rw[wbu,waE]
  lia
noncomputable def fG(ks:List Nat)(m:Nat)(qs:List (Str×Nat)):List (Str×Nat):=((cR ks qs).take m).map λq=>(q.1,ks.idxOf q.2)
noncomputable def f7(lns:List (List (Str×Nat)))(ks:List Nat)(m:Nat):List (List (Str×Nat)):=ks.map λd=>fG ks m (lns.getD d [])
theorem qS{l:List (Str×Nat)}{t:Nat}(h:t<l.length):l[t]?=some (l.getD t ("",0)):=by
 grind
theorem vg:∀{hs:List Nat} {j:Nat} (h:j<hs.length),hs.idxOf hs[j]<=j
 |[],j,h=>absurd h (wcP _)
 |a::hs,0,h=>by
  show (a::hs).idxOf a<=0;rw[wgN];exact waa 0
 |a::hs,j+1,h=>by
  have b:j<hs.length:=by simpa using h
  show (a::hs).idxOf hs[j]<=j+1;rw[wi2];have:=vg b
  cases(a==hs[j]) with
  |true=>grind
  |false=>grind
theorem fk:∀{fs:List (Str×V)},n∉fs.map (·.1)->cL n v fs=fs++[(n,v)]
 |[],_=>rfl
 |(a,u)::fs,h=>by
  have b:¬a=n:=λz=>h (by grind);show (if a=n then _ else _)=_;rw[if_neg b,fk (fs:=fs) λz=>h (by grind)];rfl
theorem dI:∀{fs:List (Str×V)},n∉fs.map (·.1)->(fs++(n,v)::g).lookup n=some v:=by grind [wgd,wag,wac]
theorem i7:∀{fs:List (Str×V)},n∉fs.map (·.1)->fs.lookup n=none:=by grind [wag,wac]
noncomputable def Nv(p:Addr):List (Str×V):=[("scheme",.ref p)]
noncomputable def OH(p b:Addr):List (Str×V):=[("scheme",.ref p),("band",.ref b)]
noncomputable def Nw(p b:Addr)(many:Int):List (Str×V):=[("scheme",.ref p),("band",.ref b),("many",.int many)]
noncomputable def Mj(p b:Addr)(many wide:Int):List (Str×V):=[("scheme",.ref p),("band",.ref b),("many",.int many),("wide",.int wide)]
noncomputable def Ml(p b:Addr)(many wide:Int)(h:Addr):List (Str×V):=[("scheme",.ref p),("band",.ref b),("many",.int many),("wide",.int wide),("homes",.ref h)]
noncomputable def Hu(p b:Addr)(many wide:Int)(h l:Addr):List (Str×V):=[("scheme",.ref p),("band",.ref b),("many",.int many),("wide",.int wide),("homes",.ref h),("lines",.ref l)]
noncomputable def OI(p b:Addr)(many wide:Int)(h l:Addr)(o:Str):List (Str×V):=[("scheme",.ref p),("band",.ref b),("many",.int many),("wide",.int wide),("homes",.ref h),("lines",.ref l),("opening",.str o)]
theorem vh:∀b:Nat,(waj b [V.int 0]).flatten=(nI (waj b 0)).map V.int
 |0=>rfl
 |b+1=>by
  rw[wcC,wbV,vh b,wcC];rfl
theorem C9(h:∀c o,H c=some o->∃g,j c=some g):a8 (aL j l) (aL H l):=by grind [a8,aL]
theorem snoc_ind{α:Type}{P:List α->Prop}(h0:P [])(g:∀l a,P l->P (l++[a]))(l:List α):P l:=by
 have h:∀m:List α,P m.reverse:=λm=>by
  induction m with
  |nil=>exact h0
  |cons a m b=>rw[List.reverse_cons];exact g _ _ b
 rw[<-List.reverse_reverse l];exact h _
noncomputable def ot(hs:List Str)(ks:List Nat):List Str:=ks.map λd=>hs.getD d ""
theorem jc{hs:List Str}{g:List Nat}{i:Nat}(hi:i<g.length):(ot hs g).getD i ""=hs.getD g[i] "":=by
 unfold ot;rw[wa4,wa3,wa1 hi];rfl
theorem getD_some{α:Type}{l:List α}{i:Nat}(x:α)(h:i<l.length):l[i]?=some (l.getD i x):=by
 rw[wa4,wa1 h];rfl
def gD(lns:List (List (Str×Nat))):Nat->List Str->Prop
 |_,[]=>True
 |d,w::ws=>∃e,(w,e)∈lns.getD d []/\gD lns e ws
noncomputable def tJ(d t e:Nat):Nat:=if e=t then d else e
theorem EG{lns:List (List (Str×Nat))}{d i:Nat}{ns:List Int}(hd:d<lns.length)(hi:i<lns.length+1):(dn lns d ns).getD i []=eJ d lns.length (if i=d then b7 ns (lns.getD d []) else if i=lns.length then aY ns (lns.getD d []) else lns.getD i []):=by
 unfold dn;rw[wa4,wa3,List.getElem?_set]
 by_cases a:i=d
 .subst a;rw[if_pos rfl,if_pos rfl,if_pos (by rw[wa5];omega)];rfl
 .rw[if_neg (λz=>a z.symm),if_neg a]
  by_cases b:i=lns.length
  .subst b;rw[if_pos rfl,waB (waa _),wbA];rfl
  .rw[if_neg b,waA (),getD_some [] (show i<lns.length by omega)];rfl
theorem EH{hs:List Str}{d i:Nat}(hi:i<hs.length+1):(cQ hs d).getD i ""=hs.getD (tJ d hs.length i) "":=by
 unfold cQ tJ;rw[wa4]
 by_cases z:i=hs.length
 .rw[if_pos z,z,waB (waa _),wbA];rfl
 .rw[if_neg z,waA (by lia),getD_some ("":Str) (show i<hs.length by lia)];rfl
theorem Mm{lns:List (List (Str×Nat))}{g:List Nat}{m d:Nat}(hd:d<g.length):(f7 lns g m).getD d []=fG g m (lns.getD (g.getD d 0) []):=by
 unfold f7;rw[wa4,wa3,getD_some 0 hd];rfl
theorem vi(lns:List (List (Str×Nat)))(g:List Nat)(m:Nat):(f7 lns g m).length=g.length:=wa0 ..
noncomputable def cat:List Str->Str
 |[]=>""
 |w::ws=>w++cat ws
noncomputable def gH(b c:Nat)(ts:List Nat):List Nat:=waj b 0++(ts++waj c 0)
noncomputable def jd(p:Nat×Nat):List V:=[.int (p.1:Int),.int (p.2:Int)]
noncomputable abbrev wF:=Nat×Str×Nat
noncomputable def pairsOf(done:List wF)(w:Str):List (Nat×Nat):=(done.filter λt=>decide (t.2.1=w)).map λt=>(t.1,t.2.2)
theorem Ah(done:List wF)(w:Str)(i e:Nat):(i,e)∈pairsOf done w↔(i,w,e)∈done:=by
 unfold pairsOf;constructor
 .intro h;obtain⟨⟨a,b,c⟩,f,g⟩:=wab.mp h;obtain⟨j,d⟩:=wau.mp f;have d:b=w:=of_decide_eq_true d;obtain⟨rfl,rfl⟩:=wce g;rw[<-d];exact j
 .intro h;exact wab.mpr {(i,w,e),wau.mpr {h,decide_eq_true rfl},rfl}
theorem z6(done:List wF)(i e:Nat)(w v:Str):pairsOf (done++[(i,w,e)]) v=if v=w then pairsOf done v++[(i,e)] else pairsOf done v:=by
 unfold pairsOf;rw[wbB,wai]
 by_cases h:v=w
 .subst h;rw[if_pos rfl,wb5 (by exact decide_eq_true rfl)];rfl
 .rw[if_neg h,wba (by exact λz=>h (of_decide_eq_true z).symm)];exact waY _
noncomputable def lR(H0 H2 H3:Hp):Hp:=λc=>match H2 c with
 |none=>H3 c
 |some _=>H0 c
noncomputable def Qr(many:Int):V->V
 |.int c=>.int (c%many)
 |_=>.non
theorem Hv{many:Int}(j:2<=many)(g:List Int):∃ts:List Nat,(g.map V.int).map (Qr many)=(nI ts).map V.int/\ts.length=g.length/\∀t∈ts,(t:Int)<many:=by
 refine{g.map λc=>(c%many).toNat,?_,by rw[wa0],λt a=>?_}
 .unfold nI;rw[wah,wah,wah];refine waX λc hc=>?_;have:=wbb c (show many≠0 by omega);show V.int (c%many)=V.int (((c%many).toNat:Nat):Int);rw[wh3 this]
 .obtain⟨c,_,rfl⟩:=wab.mp a;have:=wbb c (show many≠0 by omega);have:=wbh c (show 0<many by omega);omega
section
variable(p b h l:Addr)(many wide:Int)(o:Str)
theorem Qs:cL "scheme" (.ref p) []=Nv p:=rfl
theorem Qt:cL "band" (.ref b) (Nv p)=OH p b:=fk (by show ("band":Str)∉[("scheme":Str)];decide+kernel)
theorem Qu:cL "many" (.int many) (OH p b)=Nw p b many:=fk (by show ("many":Str)∉[("scheme":Str),"band"];decide+kernel)
theorem Qv:cL "wide" (.int wide) (Nw p b many)=Mj p b many wide:=fk (by show ("wide":Str)∉[("scheme":Str),"band","many"];decide+kernel)
theorem Qw:cL "homes" (.ref h) (Mj p b many wide)=Ml p b many wide h:=fk (by show ("homes":Str)∉[("scheme":Str),"band","many","wide"];decide+kernel)
theorem Qx:cL "lines" (.ref l) (Ml p b many wide h)=Hu p b many wide h l:=fk (by show ("lines":Str)∉[("scheme":Str),"band","many","wide","homes"];decide+kernel)
theorem Qy:cL "opening" (.str o) (Hu p b many wide h l)=OI p b many wide h l o:=fk (by show ("opening":Str)∉[("scheme":Str),"band","many","wide","homes","lines"];decide+kernel)
theorem p6:(Mj p b many wide).lookup ("scheme":Str)=some (.ref p):=dI (fs:=[]) ∅
theorem Ca:(Hu p b many wide h l).lookup ("band":Str)=some (.ref b):=dI (fs:=Nv p) (by show ("band":Str)∉[("scheme":Str)];decide+kernel)
theorem Cb:(Hu p b many wide h l).lookup ("wide":Str)=some (.int wide):=dI (fs:=Nw p b many) (by show ("wide":Str)∉[("scheme":Str),"band","many"];decide+kernel)
theorem Ai:(Hu p b many wide h l).lookup ("lines":Str)=some (.ref l):=dI (fs:=Ml p b many wide h) (by show ("lines":Str)∉[("scheme":Str),"band","many","wide","homes"];decide+kernel)
theorem z7:(Hu p b many wide h l).lookup ("behind":Str)=none:=i7 (by show ("behind":Str)∉[("scheme":Str),"band","many","wide","homes","lines"];decide+kernel)
end
section
variable{g:Str}{ws ss ls:List Str}
noncomputable def jO(ws:List Str)(e:Str):Bool:=ws.any λw=>decide (e.length<w.length)&&wee w e
noncomputable def cy(f:Str->Int)(ls:List Str):List (Str×Int):=ls.map λp=>(p,f p)
theorem qT(f:Str->Int)(ls:List Str):(cy f ls).map (·.1)=ls:=by
 unfold cy;rw[wah];exact List.map_id _
theorem jP(f:Str->Int)(ls:List Str):Np (cy f ls) ls f:=λp a=>xQ a
theorem Mo{f h:Str->Int}:Tc (bH (cy f ls)) (bH (cy h ls))=true↔∀p∈ls,f p=h p:=by
 unfold Tc;rw[ja,ja];have e:(cy f ls).length=(cy h ls).length:=by unfold cy;rw[wa0,wa0]
 rw[e,beq_self_eq_true,wcA];unfold hitsD;rw[waR];constructor
 .intro q p a;have:=q ((wak p:Key),.int (f p)) (wab.mpr {(p,f p),wab.mpr ⟨p,a,rfl⟩,rfl});have this:(match bC (bH (cy h ls)) (wak p:Key) with |some y=>rG (.int (f p)) y |none=>false)=true:=this;rw[eC,jP h ls p a]at this;have this:rG (.int (f p)) (.int (h p))=true:=this;unfold rG at this;simpa using this
 .intro q d b;obtain⟨z,c,rfl⟩:=wab.mp b;obtain⟨p,a,rfl⟩:=wab.mp c;show (match bC (bH (cy h ls)) (wak p:Key) with |some y=>rG (.int (f p)) y |none=>false)=true;rw[eC,jP h ls p a];show rG (.int (f p)) (.int (h p))=true;rw[q p a];unfold rG;simp
end
theorem Cd(f:Str->Int)(ls:List Str):(bH (cy f ls)).map (·.2)=(ls.map f).map V.int:=by simp_all [bH,cy,wah]
end Bs
open Bs
namespace Sx
theorem Qz:waV "all"=some (.builtin "all"):=∅
theorem Hw:waV "any"=some (.builtin "any"):=∅
theorem Kk:waV "sorted"=some (.builtin "sorted"):=∅
theorem z8:waV "isinstance"=some (.builtin "isinstance"):=∅
theorem Kl:waV "str"=some (.type "str"):=∅
theorem i9:waV "list"=some (.type "list"):=∅
theorem QA:waV "set"=some (.type "set"):=∅
noncomputable def QB(ls:List V):V->V:=λv=>.bl (oP v ls)
noncomputable def Ce(g:Str)(b d q:Addr):List (Str×V):=[("signs",.str g),("barred",.ref b),("moves",.ref d),("lasting",.ref q)]
noncomputable def S0(g:Str):List (Str×V):=[("signs",.str g)]
noncomputable def OJ(g:Str)(b:Addr):List (Str×V):=[("signs",.str g),("barred",.ref b)]
noncomputable def Nx(g:Str)(b d:Addr):List (Str×V):=[("signs",.str g),("barred",.ref b),("moves",.ref d)]
theorem Ny(g:Str):cL "signs" (.str g) []=S0 g:=rfl
theorem put2(g:Str)(b:Addr):cL "barred" (.ref b) (S0 g)=OJ g b:=by
 show (if ("signs":Str)="barred" then(("signs":Str),V.ref b)::[] else(("signs":Str),V.str g)::cL "barred" (.ref b) [])=_;rw[if_neg ∅];rfl
theorem put3(g:Str)(b d:Addr):cL "moves" (.ref d) (OJ g b)=Nx g b d:=by
 show (if ("signs":Str)="moves" then(("signs":Str),V.ref d)::[(("barred":Str),V.ref b)] else(("signs":Str),V.str g)::(if ("barred":Str)="moves" then(("barred":Str),V.ref d)::[] else(("barred":Str),V.ref b)::cL "moves" (.ref d) []))=_;rw[if_neg ∅,if_neg ∅];rfl
theorem EI(g:Str)(b d q:Addr):cL "lasting" (.ref q) (Nx g b d)=Ce g b d q:=by
 show (if ("signs":Str)="lasting" then(("signs":Str),V.ref q)::[(("barred":Str),V.ref b),(("moves":Str),V.ref d)] else(("signs":Str),V.str g)::(if ("barred":Str)="lasting" then(("barred":Str),V.ref q)::[(("moves":Str),V.ref d)] else(("barred":Str),V.ref b)::(if ("moves":Str)="lasting" then(("moves":Str),V.ref q)::[] else(("moves":Str),V.ref d)::cL "lasting" (.ref q) [])))=_;rw[if_neg ∅,if_neg ∅,if_neg ∅];rfl
theorem lS(g:Str)(b d:Addr):(Nx g b d).lookup ("moves":Str)=some (.ref d):=by
 rw[<-put3,aF,if_pos rfl]
theorem jQ(g:Str)(b d q:Addr):(Ce g b d q).lookup ("moves":Str)=some (.ref d):=by
 rw[<-EI,aF,if_neg ∅];exact lS g b d
theorem xW(g:Str)(b d q:Addr):(Ce g b d q).lookup ("lasting":Str)=some (.ref q):=by
 rw[<-EI,aF,if_pos rfl]
theorem Cg(g:Str)(b d q:Addr){m:Str}(j:¬m="signs")(l:¬m="barred")(p:¬m="moves")(r:¬m="lasting"):(Ce g b d q).lookup m=none:=by
 rw[<-EI,aF,if_neg r,<-put3,aF,if_neg p,<-put2,aF,if_neg l,<-Ny,aF,if_neg j];rfl
structure Raw(K:wa2)(nm qual:Str)(st:Stmt)(f:Addr):Prop where
 ex:∃(oc:Value) (od:Option Addr) (kV doc pm:Value) (an:Option Addr) (gx ct:Value) (Go:Array (Option Value)),
  K.lookup f=some {oc,od,.func (wct nm qual (dj st) (c9 st) (aJ st) .none kV doc pm an gx ct),Go}/\wec K gx qual=true
 kp:wcX K (.ref f)=true
theorem Ch{K:wa2}{nm g:Str}{st:Stmt}{f:Addr}{t:Value}{C I:Option Addr}{p:Array (Option Value)}{kV r pm j ct:Value}(l:K.lookup f=some {t,C,.func (wct nm g (dj st) (c9 st) (aJ st) .none kV r pm I j ct),p})
 (c:wec K j g=true) (k:wcX K (.ref f)=true):Raw K nm g st f:={⟨t,C,kV,r,pm,I,j,ct,p,l,c⟩,k}
theorem Raw.fn(R:Raw K nm g st f)
 (h:∀(kV j pm:Value) (r:Option Addr) (p ct:Value) (us:List Value),us.length=ps.length->bindArgs (wct nm g (dj st) (c9 st) (aJ st) .none kV j pm r p ct) {us,[]}=pure (ps.zip us)) :
 ∃fd,zS K nm g st f fd/\Binds K fd ps []:=by
 obtain⟨⟨b,d,kV,j,pm,r,p,ct,a,l,c⟩,k⟩:=R;have F:=GQ (st:=st) l c k;exact{_,F,F.binds h}
theorem Raw.at_{mg:Str->Option Value}(X:K.In l)(G:l.Ns wb2 mg)(a:PySem.W.nsIn K wb2 nm=some (some (.ref f)))(R:Raw K nm nm st f)
 (h:∀(kV g pm:Value) (p:Option Addr) (j ct:Value) (us:List Value),us.length=ps.length->bindArgs (wct nm nm (dj st) (c9 st) (aJ st) .none kV g pm p j ct) {us,[]}=pure (ps.zip us)) :
 ∃fd,FnAt K mg nm st ps f fd:=by
 obtain⟨fd,F,b⟩:=R.fn h;exact{fd,F,b,PySem.W.mg_of X G a}
theorem gE{ss:List Str}{i:Nat}{y:V}(h:(ss.map V.str)[i]?=some y):∃p,ss[i]?=some p/\y=.str p/\i<ss.length/\p∈ss/\ss.take (i+1)=ss.take i++[p]:=by
 rw[wa3]at h
 cases e:ss[i]? with
 |none=>rw[e]at h;cases h
 |some z=>
  rw[e]at h;exact{z,rfl,(waf h).symm,(wa6.mp e).1,wa8 e,by rw[waM,e];rfl}
inductive DK(K:wa2)(vs:List V)(H:Hp)(Q:VK)(dq:XK):Prop
 |mk (a:Addr) (ns:List Int) (_:vs=[.ref a]) (_:aH K H a (ns.map V.int)) (_:ns.length<=63) (_:∀H',Q (.bl true) H')
noncomputable def one(c:Nat):Str:={#[c]}
theorem fm(nx:g x=none)(j:g l=none):a8 g (upd (upd g l p) x o2):=λb o e=>by rw[af (ag e nx),af (ag e j)];exact e
theorem QC:waV "int"=some (.type "int"):=∅
theorem QD:waV "dict"=some (.type "dict"):=∅
theorem Mp:waV "bool"=some (.type "bool"):=∅
theorem EJ:waV "sum"=some (.builtin "sum"):=∅
theorem Km:waV "min"=some (.builtin "min"):=∅
theorem Hx:waV "max"=some (.builtin "max"):=∅
theorem DL:waV "range"=some (.type "range"):=∅
set_option genInjectivity true in
inductive Thing(H:Hp):V->Prop where
 |flat {v:V} (h:dQ v=true):Thing H v
 |lst {a:Addr} {xs:List V} (h:H a=some (.lst xs)) (f:xs.all dQ=true):Thing H (.ref a)
 |tup {a:Addr} {xs:List V} (h:H a=some (.tup xs)) (f:xs.all dQ=true):Thing H (.ref a)
 |dic {a:Addr} (h:H a=some (.dK [])):Thing H (.ref a)
theorem Ci(he:H e=none)(hd:(upd H e g) d=none):d≠e/\H d=none/\del (upd (upd (upd H e g) d o2) e o3) e=upd H d o2:=by grind [a7,af,yD,Br,Dp]
theorem jR(g:Str)(b d q:Addr):(Ce g b d q).lookup ("signs":Str)=some (.str g):=by
 rw[<-EI,aF,if_neg ∅,<-put3,aF,if_neg ∅,<-put2,aF,if_neg ∅,<-Ny,aF,if_pos rfl]
theorem none_of(s:a8 H g)(h:g d=none):H d=none:=by
 cases q:H d with
 |none=>rfl
 |some o=>rw[s _ _ q]at h;cases h
theorem rX(g:Str)(b d q:Addr):(Ce g b d q).lookup ("barred":Str)=some (.ref b):=by
 rw[<-EI,aF,if_neg ∅,<-put3,aF,if_neg ∅,<-put2,aF,if_pos rfl]
inductive Hy(vs:List V)(H:Hp)(Q:VK)(dq:XK):Prop
 |mk (i) (_:vs=[.int i]) (_:Q (.bl true) H)
structure gj(m:Nat)(many wide:Int):Prop where
 a:2<=many
 b:many<=8
 c:1<=wide
 d:wide<=6
 e:(m:Int)^wide.toNat<=64
inductive QE(K:wa2)(vs:List V)(H:Hp)(Q:VK)(dq:XK):Prop
 |mk (a:Addr) (ns:List Int) (p:Int) (_:vs=[.ref a,.int p]) (_:aH K H a (ns.map V.int)) (_:∀(c:Int) (H':Hp),a8 H H'->Q (.int c) H')
inductive HA(K:wa2)(vs:List V)(H:Hp)(Q:VK)(dq:XK):Prop
 |mk (l d es m f) (_:vs=[.ref l,.ref d]) (_:aH K H l (es.map V.str)) (_:es.length<=1000) (_:Rd H d (.dK (bH m))) (_:Np m es f) (_:∀H',a8 H H'->Q (.int ((es.map f).sum)) H')
inductive HB(vs:List V)(H:Hp)(Q:VK)(dq:XK):Prop
 |mk (c:Int) (m:Nat) (_:vs=[.int c,.int (m:Int)]) (_:m<=1000) (_:∀(l:Addr) (xs:List Int) (H':Hp),a8 H H'->H l=none->H' l=some (.lst (xs.map V.int))->xs.length=m->Q (.ref l) H')
inductive Kn(K:wa2)(vs:List V)(H:Hp)(Q:VK)(dq:XK):Prop
 |mk (a:Addr) (ns:List Int) (g:Str) (_:vs=[.ref a,.str g]) (_:aH K H a (ns.map V.int)) (_:2<=g.length) (_:g.length<=4) (_:∀(p:Addr) (many wide:Int) (H':Hp),a8 H H'->H p=none->H' p=some (.tup [.int many,.int wide])->gj g.length many wide->Q (.ref p) H')
inductive Ko(K:wa2)(vs:List V)(H:Hp)(Q:VK)(dq:XK):Prop
 |mk (i a xs) (_:vs=[.int i,.ref a]) (_:aH K H a xs) (_:Q (.bl (eU i xs.length)) H)
structure Down(ws:List Int)(lns:List (List (Str×Nat)))(h:Int)(d i:Nat)(qs:List (Str×Nat))(q:Str×Nat):Prop where
 m:h∈ws
 t:∀w∈ws,w<=h
 l:lns[d]?=some qs
 s:qs[i]?=some q
 e:ws.getD d 0=h
 lt:ws.getD q.2 0<h
def Mq(v:V):Prop:=∃i:Int,v=.int i/\i.natAbs.log2<1920
structure HC(bw:List Str)(M:Int):Prop where
 u:∀w∈bw,(w.length:Int)<=M
 a:M=0/\bw=[]\/∃w∈bw,(w.length:Int)=M
structure kA(bw:List Str)(n:Nat)(b:Nat):Prop where
 le:b<=1000
 is:∃M:Int,HC bw M/\(b:Int)=((if 0>M-1 then 0 else M-1)+(n:Int)-1)/(n:Int)
section
variable{K:wa2}
inductive Nz(K:wa2)(vs:List V)(H:Hp)(Q:VK)(dq:XK):Prop
 |mk (r a ps) (_:vs=[.str r,.ref a]) (_:aH K H a (ps.map V.str)) (_:("":Str)∈ps) (_:r.length<=1000) (_:∀H',a8 H H'->Q (.str (lend ps r)) H')
inductive Kp(K:wa2)(vs:List V)(H:Hp)(Q:VK)(dq:XK):Prop
 |mk (a b es ls) (_:vs=[.ref a,.ref b]) (_:aH K H a es) (_:aH K H b ls) (_:es.all dQ=true) (_:ls.all dQ=true) (_:es.length<=1000) (_:∀H',a8 H H'->Q (.bl (es.any λe=>oP e ls)) H')
inductive NA(K:wa2)(vs:List V)(H:Hp)(Q:VK)(dq:XK):Prop
 |mk (d mv es) (_:vs=[.ref d]) (_:H d=some (.dK (ck mv))) (_:mv.length<=1000) (_:(∀m∈mv,H m.2=some (.dK (es m.1)))) (_:(∀k,((es k).map (·.2)).all dQ=true)) (_:(∀k,(es k).length<=1000)) (_:∀(l:Addr) (ls:List Str) (H':Hp),a8 H H'->H l=none->H' l=some (.lst (ls.map V.str))->Qf (mv.map (·.1)) es ls->Q (.ref l) H')
end
end Sx
open Sx
namespace Bs
open PySem.Spec PyProof.Rows
noncomputable abbrev ch(x:Str):List Nat:=x.cps.toList
theorem aE(x:Str):(ch x).length=x.length:=by simp[ch,wdG]
theorem cF(h:ch x=ch y):x=y:=by
 obtain⟨a⟩:=x;obtain⟨b⟩:=y;have:a=b:=wev.mp h;rw[this]
theorem aX(a b:Str):ch (a++b)=ch a++ch b:=by grind [Str.cps_append,Array.toList_append]
theorem Cj(c:Nat):ch {#[c]}=[c]:=rfl
theorem qU(h:z.length=0):ch z=[]:=by grind [aE]
theorem lT(x:Str)(l u:Option Int):waU x l u=StrLaws.sliceText x l u:=rfl
theorem p7(x:Str)(j:Nat):ch (waU x none (some (j:Int)))=(ch x).take j:=by
 by_cases h:j<=x.length
 .grind [lT,wgO,wdG]
 .have hn:wbM none (some (j:Int)) 1 x.length=wbM none (some ((x.length:Nat):Int)) 1 x.length:=by
   grind [wbM]
  have e:waU x none (some (j:Int))=waU x none (some ((x.length:Nat):Int)):=by
   grind [waU]
  rw[e,lT,wgO {by lia,by simp[wdG]}];have a:(ch x).length<=j:=by rw[aE];lia
  rw[wbf a];have b:x.cps.toList.take x.cps.size=x.cps.toList:=wbf (by simp);simp[wdG,b]
theorem jS(x:Str)(i:Nat):ch (waU x (some (i:Int)) none)=(ch x).drop i:=by
 by_cases h:i<=x.length
 .rw[lT,wgq {by lia,by simp[wdG]at h ⊢;lia}];show ((x.cps.toList.drop (i:Int).toNat).take ((x.cps.toList.length:Int)-(i:Int)).toNat).toArray.toList=(ch x).drop i;rw[List.toList_toArray,war,wbf];rw[waW]
  lia
 .have hn:wbM (some (i:Int)) none 1 x.length=wbM (some ((x.length:Nat):Int)) none 1 x.length:=by
   have a:¬((i:Int)<0):=by lia
   have b:¬(((x.length:Nat):Int)<0):=by lia
   have c:max (0:Int) (min (i:Int) (x.length:Int))=max 0 (min ((x.length:Nat):Int) (x.length:Int)):=by lia
   simp[wbM,a,b,c]
  have e:waU x (some (i:Int)) none=waU x (some ((x.length:Nat):Int)) none:=by
   unfold waU;rw[hn]
  rw[e,lT,wgq {by lia,by simp[wdG]}];have d:(ch x).length<=i:=by rw[aE];lia
  rw[weo d];simp[wdG]
theorem mW(g:z.length=0):∀ts:List Str,ch (wd2 z ts)=(ts.map ch).flatten:=by
 intro ts;unfold wd2 Builtin.Str.glued
 have b:z.cps=#[]:=by
  have:=qU g;exact wev.mp this
 have key:∀(l:List Str) (a:Array Nat),(l.foldl (λa p=>a++z.cps++p.cps) a).toList=a.toList++(l.map ch).flatten:=by
  intro l
  induction l with
  |nil=>grind
  |cons p l c=>
   grind
 cases ts with
 |nil=>rfl
 |cons p l=>
  show ((List.drop 1 (p::l)).foldl (λa q=>a++z.cps++q.cps) p.cps).toList=_;rw[List.drop_one,List.tail_cons,key];rfl
noncomputable def fH:Str:="abcdefghijklmnopqrstuvwxyz0123456789"
structure Aj(x:Str):Prop where
 lo:2<=x.length
 hi:x.length<=4
 nd:(ch x).Nodup
 sub:∀c∈ch x,c∈ch fH
structure TY(i:Nat)(Kq found:Str):Prop where
 pl:Kq.length+i=36
 fl:found.length=i
 pn:(ch Kq).Nodup
 fn:(ch found).Nodup
 ps:∀c∈ch Kq,c∈ch fH
 fs:∀c∈ch found,c∈ch fH
 ap:∀c∈ch found,c∉ch Kq
theorem Ak:fH.length=36:=∅
structure z9(sg w:Str):Prop where
 lo:1<=w.length
 hi:w.length<=5
 sub:∀c∈ch w,c∈ch sg
theorem EK(j:z.length=0)(p:1<=ts.length)(r:ts.length<=5)(h:∀t∈ts,∃c,t={#[c]}/\c∈ch g):z9 g (wd2 z ts):=by
 have e:=mW j ts
 have hl:∀(l:List Str),(∀t∈l,∃c,t={#[c]}/\c∈ch g)->((l.map ch).flatten).length=l.length/\∀c∈(l.map ch).flatten,c∈ch g:=by
  intro l
  induction l with
  |nil=>intro _;exact{rfl,λc h=>by cases h}
  |cons t l b=>
   intro a;obtain⟨c,rfl,hc⟩:=a t (wag ..);obtain⟨d,f⟩:=b λt h=>a t (wac _ h);refine{by rw[wat,wbV,wa5,d,waE];exact weL 1 _,λk hk=>?_};rw[wat,wbV]at hk;rcases wax.mp hk with h |h
   .have:k=c:=by simpa [ch] using h
    subst this;exact hc
   .exact f k h
 obtain⟨l1,i⟩:=hl ts h;have m:(wd2 z ts).length=ts.length:=by rw[<-aE,e,l1]
 exact{by lia,by lia,λc hc=>i c (e ▸ hc)}
noncomputable def NB(y x:Str):Bool:=!(wd6 x y 0 x.length 1).isEmpty
theorem DM(x:Str)(c:Nat):NB {#[c]} x=decide (c∈ch x):=StrLaws.found_one x c
noncomputable def bears(ws:List Str)(r:Str):Bool:=ws.any λw=>NB w r
noncomputable def bZ(w:Str)(n:Nat):Str:=waU w none (some (n:Int))
theorem EL(w:Str)(n:Nat):(bZ w n).length<=w.length:=weT _ _ _
noncomputable def za(ks:List Str)(b:Str):List Str:=if b∈ks then ks else ks++[b]
noncomputable def qV(ws:List Str)(ks:List Str)(b:Str):List Str:=if bears ws b=true then ks else za ks b
theorem HD(ws g:List Str)(b:Str):(qV ws g b).length<=g.length+1:=by
 unfold qV za;split
 .lia
 .split
  .lia
  .simp
noncomputable def upTo(ws:List Str)(w:Str)(ks:List Str)(n:Nat):List Str:=((waD n).map λi=>bZ w (1+i)).foldl (qV ws) ks
theorem gk(ws:List Str)(w:Str)(g:List Str)(n:Nat):upTo ws w g (n+1)=qV ws (upTo ws w g n) (bZ w (1+n)):=by
 unfold upTo;rw[wcv,wai,wfp];rfl
theorem vj(ws:List Str)(w:Str)(g:List Str):∀n,(upTo ws w g n).length<=g.length+n
 |0=>waa _
 |n+1=>by
  rw[gk];have:=vj ws w g n;have:=HD ws (upTo ws w g n) (bZ w (1+n))
  lia
noncomputable def addW(ws:List Str)(ks:List Str)(w:Str):List Str:=upTo ws w ks (w.length-1)
noncomputable def bJ(ws:List Str)(e:Str)(us:List Str):List Str:=us.foldl (addW ws) [e]
theorem Ck(ws:List Str)(e:Str)(us:List Str)(w:Str):bJ ws e (us++[w])=addW ws (bJ ws e us) w:=by
 unfold bJ;rw[wfp];rfl
theorem mX(h:∀w∈us,w.length<=5):(bJ ws e us).length<=1+4*us.length:=by
 have key:∀(us a:List Str),(∀w∈us,w.length<=5)->(us.foldl (addW ws) a).length<=a.length+4*us.length:=by
  intro us
  induction us with
  |nil=>grind
  |cons w us b=>
   grind [addW,wac,vj]
 exact key us [e] h
theorem Cm(h:g.Nodup):(za g b).Nodup:=by
 unfold za;split
 .exact h
 .rename_i d;refine wft.mpr {h,by simp,λa ha c hc=>?_};have:c=b:=by simpa using hc
  subst this;rintro rfl;exact d ha
theorem Cp(h:g.Nodup):(qV ws g b).Nodup:=by
 unfold qV;split
 .exact h
 .exact Cm h
theorem vk(h:g.Nodup):∀n,(upTo ws w g n).Nodup
 |0=>h
 |n+1=>by rw[gk];exact Cp (vk h n)
theorem rY(us:List Str):(bJ ws e us).Nodup:=by
 have key:∀(us a:List Str),a.Nodup->(us.foldl (addW ws) a).Nodup:=by
  intro us
  induction us with
  |nil=>intro a h;exact h
  |cons w us b=>intro a h;exact b _ (vk h _)
 exact key us [e] (by simp)
theorem HE(h:k∈g):k∈qV ws g b:=by grind [qV,za,waS]
theorem mem_upTo(h:k∈g):∀n,k∈upTo ws w g n
 |0=>h
 |n+1=>by rw[gk];exact HE (mem_upTo h n)
theorem bP(us:List Str):e∈bJ ws e us:=by
 have key:∀(us a:List Str),e∈a->e∈us.foldl (addW ws) a:=by
  intro us
  induction us with
  |nil=>intro a h;exact h
  |cons w us b=>intro a h;exact b _ (mem_upTo h _)
 exact key us [e] (by simp)
end Bs
namespace Bs
theorem hF(r:Str):bq r r.length="":=by
 refine cF ?_;show ch (waU r (some (r.length:Int)) none)=[];rw[jS];exact weo (we2 (aE r))
theorem qW(x y:Str)(i:Nat):whw x y i=true↔((ch x).drop i).take y.length=ch y:=by
 unfold whw;rw[beq_iff_eq];constructor
 .intro h;have:=congrArg Array.toList h;rw[wgP,wfB,wcB]at this;exact this
 .intro h;refine wev.mp ?_;rw[wgP,wfB,wcB];exact h
theorem Kr(y x:Str):NB y x=true↔ch y <:+: ch x:=by
 unfold NB;rw[StrLaws.found_iff];constructor
 .grind [qW,wdJ,whQ]
 .rintro⟨a,b,e⟩;refine{a.length,?_,(qW x y _).mpr ?_}
  .rw[<-aE x,<-e,wa5,wa5,aE];lia
  .rw[<-e,waQ,wgB,<-aE y,wef]
theorem ou(x y:Str):wee x y=true↔ch y <+: ch x:=by
 unfold wee;rw[wbc,decide_eq_true_iff,qW,wdz];constructor
 .rintro⟨_,h⟩;rw[<-h];exact wdJ _ _
 .rintro⟨b,e⟩;refine{?_,?_}
  .rw[<-aE x,<-e,wa5,aE];lia
  .rw[<-e,<-aE y,wef]
noncomputable def wl(ws:List Str):List (List Nat):=ws.map ch
theorem fI(w:Str)(n:Nat):ch (bZ w n)=(ch w).take n:=p7 w n
theorem eD(w:Str)(n:Nat):ch (bq w n)=(ch w).drop n:=jS w n
theorem zb:k∈qV ws g b↔k∈g\/(k=b/\bears ws b=false):=by
 unfold qV za
 by_cases a:bears ws b=true
 .grind
 .grind
theorem p8:∀n,k∈upTo ws w g n↔k∈g\/∃i,i<n/\k=bZ w (1+i)/\bears ws k=false
 |0=>by
  show k∈g↔_;simp
 |n+1=>by
  rw[gk,zb,p8 n];constructor
  .grind
  .grind
theorem iV(us:List Str):k∈bJ ws e us↔k=e\/∃w∈us,∃i,i<w.length-1/\k=bZ w (1+i)/\bears ws k=false:=by
 have key:∀(us b:List Str),k∈us.foldl (addW ws) b↔k∈b\/∃w∈us,∃i,i<w.length-1/\k=bZ w (1+i)/\bears ws k=false:=by
  intro us
  induction us with
  |nil=>intro b;simp
  |cons w us d=>
   intro b;rw[wdQ,d];unfold addW;rw[p8];constructor
   .rintro((h |⟨i,h⟩) |⟨c,a,h⟩)
    .exact .inl h
    .exact .inr {w,wag ..,i,h}
    .exact .inr {c,wac _ a,h}
   .rintro(h |⟨c,a,h⟩)
    .exact .inl (.inl h)
    .rcases waG.mp a with rfl |a
     .exact .inl (.inr h)
     .exact .inr ⟨c,a,h⟩
 unfold bJ;rw[key];simp
noncomputable def QF(ss:List Str)(l:List Nat):Bool:=decide (l∈ss.map ch)
theorem jT:QF ss (ch k)=true↔k∈ss:=by
 unfold QF;rw[decide_eq_true_iff];constructor
 .grind [cF]
 .grind
theorem take_snoc(h:(ch r)[i]?=some c):bZ r (i+1)=bZ r i++{#[c]}:=by grind [cF,aX,fI,waM]
theorem take_zero(r:Str):bZ r 0="":=cF (by rw[fI];rfl)
theorem take_all(r:Str):bZ r r.length=r:=cF (by rw[fI,<-aE,waH])
theorem Al(r:Str)(n:Nat):ch (bZ r n) <:+: ch r:=by rw[fI];exact(wdJ _ _).isInfix
theorem len_app(a b:Str):(a++b).length=a.length+b.length:=by grind [aE,aX]
noncomputable def lU(st sp n:Nat):List Nat:=(waD n).map λk=>(ch fH).getD ((st+k*sp)%36) 0
noncomputable def Ks(st sp:Nat):V->V:=λv=>match v with
 |.int k=>.str {#[(ch fH).getD ((st+k.toNat*sp)%36) 0]}
 |_=>.non
noncomputable def qX(g:Str)(ws ss:List Str)(q:Str×Str):List (Str×Str):=(ch g).filterMap λc=>if bears ws (q.2++{#[c]})=true then none else some (q.1++{#[c]},lend ss (q.2++{#[c]}))
noncomputable def fJ(g:Str)(ws ss:List Str)(qs:List (Str×Str)):List (Str×Str):=qs.flatMap (qX g ws ss)
noncomputable def vm(g:Str)(ws ss:List Str)(p:Str):Nat->List (Str×Str)
 |0=>[("",p)]
 |n+1=>fJ g ws ss (vm g ws ss p n)
noncomputable def aU(g:Str)(ws ss ls:List Str)(n:Nat)(p:Str):List (Str×Str):=(vm g ws ss p n).filter λq=>decide (q.2∈ls)
theorem Cq(g:Str)(ws ss:List Str)(q:Str×Str):(qX g ws ss q).length<=g.length:=by
 unfold qX;have:=we7 (λc=>if bears ws (q.2++{#[c]})=true then none else some (q.1++({#[c]}:Str),lend ss (q.2++({#[c]}:Str)))) (ch g);rw[aE]at this;exact this
theorem rZ(g:Str)(ws ss:List Str)(j:List (Str×Str)):(fJ g ws ss j).length<=j.length*g.length:=uP _ _ _ λq _=>Cq g ws ss q
theorem p9(g:Str)(ws ss:List Str)(p:Str):∀n,(vm g ws ss p n).length<=g.length^n
 |0=>waa 1
 |n+1=>wal (rZ g ws ss _) (by rw[Nat.pow_succ];exact weU _ (p9 g ws ss p n))
theorem du(h:r∈aU g ws ss ls n p):r.2∈ls:=of_decide_eq_true (wau.mp h).2
theorem gm(g:Str)(ws ss ls:List Str)(n:Nat)(p:Str):(aU g ws ss ls n p).length<=g.length^n:=wal (wb6 _ _) (p9 g ws ss p n)
noncomputable def gP(g:Str)(ws ss ls:List Str)(n:Nat)(f:Str->Int)(p:Str):Int:=((aU g ws ss ls n p).map λq=>f q.2).sum
theorem jU(r:Str):r++("":Str)=r:=cF (by rw[aX,qU (z:="") rfl,waY])
theorem u5(r:Str):("":Str)++r=r:=cF (by rw[aX,qU (z:="") rfl,wdR])
theorem eE(a b c:Str):a++b++c=a++(b++c):=by grind [cF,aX,waQ]
noncomputable def gn(g:Str)(ws ss ls:List Str)(n:Nat)(hs:List Str)(p:Str):List (Str×Nat):=((aU g ws ss ls n p).filter λq=>decide (q.2∈hs)).map λq=>(q.1,hs.idxOf q.2)
noncomputable def bD(g:Str)(ws ss ls:List Str)(n:Nat)(hs:List Str):List (List (Str×Nat)):=hs.map (gn g ws ss ls n hs)
theorem Cr(g:Str)(ws ss ls:List Str)(n:Nat)(hs:List Str)(p:Str):(gn g ws ss ls n hs p).length<=g.length^n:=by
 unfold gn;rw[wa0];exact wal (wb6 _ _) (gm g ws ss ls n p)
theorem HF{f:Str->Int}(hn:∀p∈ls,0<=f p)(p:Str):bf ((av ls f).map f) (gn g ws ss ls n (av ls f) p)=gP g ws ss ls n f p:=by
 unfold gP;rw[p0 (λq:Str×Str=>f q.2) (aU g ws ss ls n p) λq a=>hn _ (du a)];unfold bf gn;rw[wah]
 have e:(aU g ws ss ls n p).filter (λq=>decide (q.2∈av ls f))=(aU g ws ss ls n p).filter λq=>decide (0<f q.2):=whx λq a=>by
  unfold av;exact decide_eq_decide.mpr (by rw[wau];exact{λz=>of_decide_eq_true z.2,λz=>{du a,decide_eq_true z}})
 rw[e];refine congrArg List.sum (waX λq a=>?_)
 have b:q.2∈av ls f:=by
  unfold av;have:=wau.mp a;exact wau.mpr {du this.1,this.2}
 show ((av ls f).map f).getD ((av ls f).idxOf q.2) 0=f q.2;rw[wa4,wa3,(qQ b).1];rfl
noncomputable def jV(wl:List Int)(nums:List Nat)(j:Nat):Int:=((nums.take j).map λn=>wl.getD n 0).sum
theorem ER{wl:List Int}{g:List Nat}{j n:Nat}(h:g[j]?=some n):jV wl g (j+1)=jV wl g j+wl.getD n 0:=by
 unfold jV;rw[waM,h,wai,wi3];show _+(wl.getD n 0+0)=_
 lia
theorem HG(wl:List Int)(g:List Nat)(h:i<=j):(((g.take j).drop i).map λn=>wl.getD n 0).sum=jV wl g j-jV wl g i:=by grind [jV,wbi,wdS]
theorem HH{wl:List Int}{g:List Nat}{i j:Nat}{many:Int}(h:i<=j)(e:jV wl g i%many=jV wl g j%many):(((g.take j).drop i).map λn=>wl.getD n 0).sum%many=0:=by
 rw[HG wl g h];exact Int.emod_eq_emod_iff_emod_sub_eq_zero.mp e.symm
structure f9(g:Str)(bw ss ls:List Str)(many:Int)(n:Nat)(f:Str->Int)(qB:List z4)(hs:List Str)(ws:List Int)(lns:List (List (Str×Nat))):Prop where
 rn:Runs many (av ls f) ((av ls f).map f) (bD g bw ss ls n (av ls f)) qB hs ws lns
 b:iG many hs ws lns
 cv:wD (aU g bw ss ls n) hs lns
 sm:ws.sum=(ls.map f).sum
 sl:qB.length+(av ls f).length=hs.length
 sb:∀p∈hs,p∈ls
theorem fK{a b:Str}{m n:Nat}(g:a.length<=m)(j:b.length<=n):(a++b).length<=m+n:=by
 rw[len_app];exact Nat.add_le_add g j
theorem bM{wl:List (List (Str×Nat))}{d:Nat}(h:d<wl.length):wl[d]?=some (wl.getD d []):=by
 grind
def HI(bw ss hk:List Str)(wl:List (List (Str×Nat))):Prop:=∀d,d<wl.length->∀q∈wl.getD d [],bears bw (hk.getD d ""++q.1)=false/\lend ss (hk.getD d ""++q.1)=hk.getD q.2 ""
theorem mY{wl:List (List (Str×Nat))}:∀(k:Nat) (ws:List Str) (d:Nat),gD wl d ws->gD wl d (ws.take k)
 |0,_,_,_=>trivial
 |_+1,[],_,_=>trivial
 |k+1,_::ws,_,⟨e,h,r⟩=>{e,h,mY k ws e r}
theorem Ct:∀ws:List Str,ch (cat ws)=(ws.map ch).flatten
 |[]=>rfl
 |w::ws=>by
  show ch (w++cat ws)=_;rw[aX,Ct ws,wat,wbV]
theorem dX{n:Nat}:∀{ws:List Str},(∀w∈ws,w.length=n)->(cat ws).length=n*ws.length
 |[],_=>rfl
 |w::ws,h=>by
  show (w++cat ws).length=_;rw[len_app,dX λx a=>h x (wac _ a),h w (wag ..),waE,wci,whG,weL]
theorem pd:∀a b:List Str,cat (a++b)=cat a++cat b
 |[],b=>(u5 _).symm
 |w::a,b=>by
  show w++cat (a++b)=w++cat a++cat b;rw[pd a b,eE]
theorem Am{n:Nat}{ws:List Str}(h:∀w∈ws,w.length=n)(i:Nat):(ch (cat ws)).drop (n*i)=ch (cat (ws.drop i)):=by
 by_cases c:i<=ws.length
 .have e:ch (cat ws)=ch (cat (ws.take i))++ch (cat (ws.drop i)):=by rw[<-aX,<-pd,wbi]
  have hl:(ch (cat (ws.take i))).length=n*i:=by rw[aE,dX λw hw=>h w (wbP hw),wad,wdS c]
  rw[e,wc3 (by lia),<-hl,wfN,wdR]
 .rw[wbs (show ws.length<=i by lia),wbs]
  .rfl
  .rw[aE,dX h];exact wcd _ (by lia)
theorem An{n:Nat}{ws:List Str}(h:∀w∈ws,w.length=n)(i:Nat):(ch (cat ws)).take (n*i)=ch (cat (ws.take i)):=by
 by_cases c:i<=ws.length
 .have e:ch (cat ws)=ch (cat (ws.take i))++ch (cat (ws.drop i)):=by rw[<-aX,<-pd,wbi]
  have hl:(ch (cat (ws.take i))).length=n*i:=by rw[aE,dX λw hw=>h w (wbP hw),wad,wdS c]
  rw[e,List.take_append_of_le_length (),<-hl,waH]
 .rw[wbf (show ws.length<=i by omega),wbf];rw[aE,dX h];exact wcd _ ()
theorem zc(w:Str):cat [w]=w:=jU w
noncomputable def fL(wl:List (List (Str×Nat)))(d t:Nat):Str×Nat:=(wl.getD d []).getD t ("",0)
noncomputable def ez(wl:List (List (Str×Nat))):Nat->List Nat->List Str
 |_,[]=>[]
 |d,t::ts=>(fL wl d t).1::ez wl (fL wl d t).2 ts
noncomputable def pe(wl:List (List (Str×Nat))):Nat->List Nat->Nat
 |d,[]=>d
 |d,t::ts=>pe wl (fL wl d t).2 ts
theorem je(wl:List (List (Str×Nat))):∀(ts:List Nat) (d:Nat),(ez wl d ts).length=ts.length
 |[],_=>rfl
 |_::ts,_=>congrArg (· + 1) (je wl ts _)
theorem jf(wl:List (List (Str×Nat)))(b:List Nat):∀(a:List Nat) (d:Nat),ez wl d (a++b)=ez wl d a++ez wl (pe wl d a) b/\pe wl d (a++b)=pe wl (pe wl d a) b
 |[],_=>⟨rfl,rfl⟩
 |_::a,_=>{congrArg (_ :: ·) (jf wl b a _).1,(jf wl b a _).2}
def gQ(ss hk:List Str)(wl:List (List (Str×Nat)))(p w:Str)(as:List Str)(i:Nat):Prop:=∃d e,d<wl.length/\hk.getD d ""=lend ss p/\(wl.getD d [])[i]?=some (w,e)/\gD wl e as
structure Wr where
 g:Str
 bw:List Str
 ss:List Str
 ls:List Str
 hk:List Str
 many:Int
 n:Nat
 b:Nat
 c:Nat
 wl:List (List (Str×Nat))
structure gV(H:Hp)(a:Addr)(wl:List (List (Str×Nat))):Prop where
 ex:∃kvs:List (Key×V),H a=some (.dK kvs)/\∀w:Str,(bC kvs (wak w:Key)=none/\∀(i e:Nat),(w,e)∉wl.getD i [])\/∃(l:Addr) (rs:List Addr) (ps:List (Nat×Nat)),bC kvs (wak w:Key)=some (.ref l)/\H l=some (.lst (rs.map V.ref))/\bc H rs (ps.map jd)/\ps.length<=1000/\∀i e:Nat,(i,e)∈ps↔(w,e)∈wl.getD i []
noncomputable def dA(wl:List (List (Str×Nat)))(k:Nat):List wF:=(waD k).flatMap λd=>(wl.getD d []).map λq=>(d,q.1,q.2)
theorem vn(wl:List (List (Str×Nat)))(k:Nat):dA wl (k+1)=dA wl k++(wl.getD k []).map λq=>(k,q.1,q.2):=by
 unfold dA;rw[wcv,wf3];simp
theorem Kt{all:List Str}{u:Str}(h:u∈all):∀c∈ch u,c∈ch (cat all):=λc hc=>by
 rw[Ct];exact whR.mpr {ch u,wab.mpr ⟨u,h,rfl⟩,hc}
open Classical in
noncomputable def wG(R:Wr)(bs:List Str)(w:Str)(us:List Str):V:=if bears R.bw (cat bs)=true then .non else if h:∃i,gQ R.ss R.hk R.wl (cat bs) w us i then .int ((whS h:Nat):Int) else .non
noncomputable def NF(R:Wr)(all:List Str)(k:Nat):List Str:=(all.take (k+(R.b+1+R.c))).drop k
noncomputable def Yu(R:Wr)(all:List Str)(k:Nat):V:=wG R ((NF R all k).take R.b) ((NF R all k).getD R.b "") ((NF R all k).drop (R.b+1))
def W3(R:Wr)(x:Str)(i:Nat):Prop:=∃bs w us,x=cat (bs++w::us)/\(∀u∈bs++w::us,u.length=R.n/\∀c∈ch u,c∈ch R.g)/\bs.length=R.b/\us.length=R.c/\bears R.bw (cat bs)=false/\gQ R.ss R.hk R.wl (cat bs) w us i
theorem DN{x:Str}{i c:Nat}(h:i<x.length):(bZ x i++({#[c]}:Str)++bq x (i+1)).length=x.length:=by
 rw[len_app,len_app,<-aE,fI,wad,aE,show ({#[c]}:Str).length=1 from rfl,<-aE (bq x (i+1)),eD,waW,aE];omega
section
variable{g:Str}{ws ss ls:List Str}
def G9(g:Str)(ws ss ls:List Str)(many:Int)(n:Nat)(f:Str->Int):Prop:=∀p∈ls,many*f p<=gP g ws ss ls n f p
noncomputable def lV(g:Str)(ws ss ls:List Str)(many:Int)(n:Nat)(f:Str->Int)(p:Str):Int:=if gP g ws ss ls n f p/many<f p then gP g ws ss ls n f p/many else f p
theorem HJ{n:Nat}{f:Str->Int}(h:∀p∈ls,0<=f p)(p:Str):0<=gP g ws ss ls n f p:=uS λq a=>h _ (du a)
theorem Cu{f h:Str->Int}(e:∀p∈ls,f p<=h p)(p:Str):gP g ws ss ls n f p<=gP g ws ss ls n h p:=BX λq a=>e _ (du a)
theorem HK(many:Int)(n:Nat)(f:Str->Int)(p:Str):lV g ws ss ls many n f p<=f p:=by
 unfold lV;split<;>lia
theorem HL{f:Str->Int}(j:2<=many)(h:∀p∈ls,0<=f p):∀p∈ls,0<=lV g ws ss ls many n f p:=λp a=>by
 have b:=wi5 (HJ (g:=g) (ws:=ws) (ss:=ss) (n:=n) h p) (show 0<=many by lia);have c:=h p a;unfold lV;split<;>lia
theorem EV{f h:Str->Int}(l:2<=many)(j:G9 g ws ss ls many n f)(e:∀p∈ls,f p<=h p):∀p∈ls,f p<=lV g ws ss ls many n h p:=λp a=>by
 have b:=j p a;have c:=Cu (g:=g) (ws:=ws) (ss:=ss) (n:=n) e p;have d:f p<=gP g ws ss ls n h p/many:=(wgr ()).mpr (by grind);have i:=e p a;unfold lV;split<;>omega
theorem Ku{f:Str->Int}(j:2<=many)(e:∀p∈ls,lV g ws ss ls many n f p=f p):G9 g ws ss ls many n f:=λp a=>by
 have h:=e p a;unfold lV at h
 have b:f p<=gP g ws ss ls n f p/many:=by
  grind
 have:=(wgr (show 0<many by lia)).mp b;rw[weV]at this;exact this
theorem NI{f:Str->Int}(j:2<=many)(h0:∀p∈ls,0<=f p)(e:¬∀p∈ls,lV g ws ss ls many n f p=f p):(ls.map λp=>(lV g ws ss ls many n f p).toNat).sum<(ls.map λp=>(f p).toNat).sum:=by
 have b:∀p∈ls,lV g ws ss ls many n f p<=f p:=λp _=>HK many n f p;have c:=HL (g:=g) (ws:=ws) (ss:=ss) (n:=n) j h0;generalize lV g ws ss ls many n f=h at e b c
 have key:∀l:List Str,(∀p∈l,h p<=f p/\0<=h p)->(l.map λp=>(h p).toNat).sum<=(l.map λp=>(f p).toNat).sum/\((∃p∈l,h p≠f p)->(l.map λp=>(h p).toNat).sum<(l.map λp=>(f p).toNat).sum):=by
  intro l
  induction l with
  |nil=>intro _;exact{waa _,λ⟨p,a,_⟩=>nomatch a}
  |cons x l i=>
   intro hl;obtain⟨m,k⟩:=i λp a=>hl p (wac _ a);obtain⟨o,r⟩:=hl x (wag ..);rw[wat,wat,wbu,wbu];refine{by lia,λ⟨p,a,d⟩=>?_};rcases waG.mp a with z |z
   .rw[z]at d
    lia
   .have:=k ⟨p,z,d⟩
    lia
 refine(key ls λp a=>{b p a,c p a}).2 ?_;apply wbD;intro q;exact e λp a=>wbD λz=>q ⟨p,a,z⟩
noncomputable def NK(g:Str):Nat->List Str
 |0=>[""]
 |n+1=>(ch g).flatMap λc=>(NK g n).map λr=>({#[c]}:Str)++r
noncomputable def JA(g:Str):Nat->List Str
 |0=>[""]
 |n+1=>(JA g n).flatMap λr=>(ch g).map λc=>r++({#[c]}:Str)
theorem u9:∀n,JA g n=NK g n
 |0=>rfl
 |1=>by
  show ([""]:List Str).flatMap (λr=>(ch g).map λc=>r++({#[c]}:Str))=(ch g).flatMap λc=>([""]:List Str).map λr=>({#[c]}:Str)++r;rw[List.flatMap_singleton]
  have:∀a:List Nat,(a.map λc=>("":Str)++({#[c]}:Str))=a.flatMap λc=>([""]:List Str).map λr=>({#[c]}:Str)++r:=by
   intro a
   induction a with
   |nil=>rfl
   |cons c a b=>
    grind [u5,jU]
  exact this _
 |n+2=>by
  show (JA g (n+1)).flatMap (λr=>(ch g).map λc=>r++({#[c]}:Str))=(ch g).flatMap λc=>(NK g (n+1)).map λr=>({#[c]}:Str)++r;rw[u9 (n+1)];show ((ch g).flatMap λc=>(NK g n).map λr=>({#[c]}:Str)++r).flatMap (λr=>(ch g).map λc=>r++({#[c]}:Str))=_;rw[List.flatMap_assoc];congr 1;funext c;rw[<-u9 (n+1)];show _=((JA g n).flatMap λr=>(ch g).map λc=>r++({#[c]}:Str)).map λr=>({#[c]}:Str)++r;rw[u9 n,List.map_flatMap,List.flatMap_map];congr 1;funext r;rw[wah];refine waX λd _=>?_;exact eE _ _ _
end
section
variable{ws ss ls:List Str}{p:Str}
noncomputable def jW(ws ss:List Str)(p:Str)(r:Str):Option (Str×Str):=if bears ws (p++r)=true then none else some (r,lend ss (p++r))
noncomputable def Kv(ws ss ls:List Str)(p:Str)(r:Str):Option (Str×Str):=if bears ws (p++r)=true then none else if lend ss (p++r)∈ls then some (r,lend ss (p++r)) else none
end
end Bs
namespace K51
section
variable{w:World}
noncomputable def top(i:Nat):Stmt:=pw0.main.body.getD i (.Pass ⟨0,0,0,0⟩)
theorem cW{X:Cx}{f}:(X.o1 f).K=X.K:=rfl
theorem nc{t u:TS}{D:Ends}{σ:St}{H:Hp}(h:∀R:St->Hp->Prop,(∀σ H,u D σ H->R σ H)->t (D.M4 R) σ H):N8 t u D σ H:=h _ λ_ _ x=>x
theorem aZ{x p y q e}:(wdE [.Name x p,.Name y q] e).length=2:=rfl
theorem b0{x p y q z r e}:(wdE [.Name x p,.Name y q,.Name z r] e).length=3:=rfl
structure EW(K:wa2)(C:Addr):Prop where
 cl:zQ K C
 cM:bQ K C "writer"
 DP:bQ K C "pairs"
structure Kw(K:wa2)(C:Addr):Prop where
 cl:zQ K C
 pf:bQ K C "signs"
 vo:bQ K C "barred"
 jX:bQ K C "moves"
 qY:bQ K C "lasting"
structure HM(K:wa2)(C:Addr):Prop where
 cl:zQ K C
 fM:bQ K C "homes"
 df:bQ K C "weights"
 cP:bQ K C "lines"
structure Kx(K:wa2)(C:Addr):Prop where
 cl:zQ K C
 df:bQ K C "weights"
 Ao:bQ K C "splits"
 HN:bQ K C "kept"
 HP:bQ K C "last"
inductive TZ(lns:List (List (Str×Nat)))(rs ys:List Nat)(x rd wl a:Addr)(d z:Nat)(H:Hp)(i:Nat)(σ:St)(H5:Hp):Prop
 |mk (ad v5 v6) (_:σ=[some (.ref x),some (.int (d:Int)),some (.ref rd),some (.ref wl),some (.ref a),v5,v6]) (_:a8 H H5) (_:H5 rd=some (.dK (dB (rs++ad)))) (_:H5 wl=some (.lst ((nI (ys++ad)).map V.int))) (_:(rs++ad).Nodup) (_:∀r∈rs++ad,r<lns.length) (_:∀q∈(lns.getD z []).take i,q.2∈rs++ad)
theorem TZ.s{wl:Addr}(q:TZ lns rs ys x rd wl a d z H i σ g):a8 H g:=by
 obtain⟨_,_,_,_,h,_⟩:=q;exact h
inductive HQ(vs:List V)(H:Hp)(Q:VK)(dq:XK):Prop
 |mk (a ts many) (_:vs=[.ref a,.int many]) (_:H a=some (.lst ((nI ts).map V.int))) (_:(∀t∈ts,(t:Int)<many)) (_:∀H',a8 H H'->Q .non H')
noncomputable abbrev W5(R:Wr)(pl win:Str)(z ld:Addr)(v6 v7 v8:Option V):St:=[some (.ref z),some (.str win),some (.int ((R.n*R.b:Nat):Int)),some (.int ((R.n*(R.b+1):Nat):Int)),some (.str pl),some (.ref ld),v6,v7,v8]
inductive Yv(R:Wr)(H4:Hp)(pl w win:Str)(us:List Str)(z ld:Addr)(i:Nat)(σ:St)(H5:Hp):Prop
 |mk (_:i<=R.wl.length) (_:a8 H4 H5) (_:∀d j e:Nat,d<i->R.hk.getD d ""=pl->(R.wl.getD d [])[j]?=some (w,e)->¬gD R.wl e us) (v6 v7 v8) (_:σ=W5 R pl win z ld v6 v7 v8)
inductive U0(R:Wr)(H6:Hp)(pl w win:Str)(us:List Str)(z ld:Addr)(i j:Nat)(σ:St)(H7:Hp):Prop
 |mk (_:a8 H6 H7) (_:∀j' e:Nat,j'<j->(R.wl.getD i [])[j']?=some (w,e)->¬gD R.wl e us) (v7 v8) (_:σ=W5 R pl win z ld (some (.int (i:Int))) v7 v8)
theorem U0.s{w:Str}(q:U0 R g pl w win us z ld i j σ l):a8 g l:=by
 obtain⟨h,_⟩:=q;exact h
theorem QG:∀st:Fin 36,∀sp∈[1,5,7,11,13,35],∀n∈[2,3,4],((lU st sp n).Nodup/\∀c∈lU st sp n,c∈ch fH):=∅
theorem Ap{st sp n:Nat}{x:Str}(j:st<36)(hs:sp∈[1,5,7,11,13,35])(hn:n∈[2,3,4])(g:ch x=lU st sp n):Aj x:=by
 obtain⟨a,b⟩:=QG ⟨st,j⟩ sp hs n hn;have hl:x.length=n:=by grind [aE,lU,wa0]
 have c:n=2\/n=3\/n=4:=by simpa using hn
 exact{by lia,by lia,by rw[g];exact a,by rw[g];exact b}
theorem NM:∀d:Int,0<=d->d<8->∃n:Nat,ui ([.int 2,.int 2,.int 2,.int 3,.int 2,.int 4,.int 2,.int 3]:List V) d=some (.int (n:Int))/\n∈[2,3,4]:=under 8 λk=>{[2,2,2,3,2,4,2,3].getD k.val 0,by revert k;decide,by revert k;decide}
theorem NN:∀d:Int,0<=d->d<6->∃n:Nat,ui ([.int 1,.int 5,.int 7,.int 11,.int 13,.int 35]:List V) d=some (.int (n:Int))/\n∈[1,5,7,11,13,35]:=under 6 λk=>{[1,5,7,11,13,35].getD k.val 0,by revert k;decide,by revert k;decide}
theorem NP:∀d:Int,0<=d->d<8->∃n:Nat,ui ([.int 0,.int 1,.int 2,.int 3,.int 1,.int 2,.int 3,.int 6]:List V) d=some (.int (n:Int))/\n<=6:=under 8 λk=>{[0,1,2,3,1,2,3,6].getD k.val 0,by revert k;decide,by revert k;decide}
theorem NQ:∀d:Int,0<=d->d<8->∃n:Nat,ui ([.int 2,.int 3,.int 4,.int 2,.int 3,.int 4,.int 1,.int 5]:List V) d=some (.int (n:Int))/\1<=n/\n<=5:=under 8 λk=>{[2,3,4,2,3,4,1,5].getD k.val 0,by revert k;decide,by revert k;decide}
theorem Ky{xs:List Int}(h:xs.length=4):∃a b c d,xs=[a,b,c,d]:=by
 match xs,h with
 |[a,b,c,d],_=>exact⟨a,b,c,d,rfl⟩
theorem HR{n:Nat}{many wide:Int}(r:2<=n)(l:n<=4)(p:2<=many)(m8:many<=8)(g:1<=wide)(j:wide<=6)(h:2<n->wide<=3):gj n many wide:=by
 have key:∀(m:Fin 5) (k:Fin 7),(2<m.val->k.val<=3)->(m.val:Int)^k.val<=64:=⋯;obtain⟨k,rfl⟩:=wfW (we8 ⋯ g);exact{p,m8,g,j,key {n,why l} {k,why (Int.ofNat_le.mp j)} λz=>Int.ofNat_le.mp (h z)}
noncomputable def U1:List (Int×Int):=[(2,2),(2,3),(4,3),(3,3),(2,4),(3,2),(5,3),(8,5),(2,1),(6,4),(7,5),(7,6)]
theorem NR:∀d:Int,0<=d->d<12->∃p,U1[d.toNat]?=some p/\2<=p.1/\p.1<=8/\1<=p.2/\p.2<=6:=under 12 λk=>{U1.getD k.val (0,0),by revert k;decide}
structure EX(R:Wr)(s:Str):Prop where
 l:s.length=R.n*(R.b+1+R.c)
 g:∀c∈ch s,c∈ch R.g
noncomputable abbrev EY(R:Wr)(x lx ld:Addr)(cell:Int)(v7 v8 v9 v10 v11 HS HU:Option V):St:=[some (.ref x),some (.str R.g),some (.int cell),some (.int R.many),some (.int (R.n:Int)),some (.ref lx),some (.ref ld),v7,v8,v9,v10,v11,HS,HU]
inductive U2(R:Wr)(x lx ld:Addr)(cell:Int)(v7 v8:Option V)(H1:Hp)(i:Nat)(σ:St)(H':Hp):Prop
 |mk (_:a8 H1 H') (s) (_:EX R s) (v10 v11 HS) (_:σ=EY R x lx ld cell v7 v8 (some (.str s)) v10 v11 HS none)
theorem qZ{g:List Int}{i:Nat}(h:i<g.length):ui (g.map V.int) (i:Int)=some (.int (g.getD i 0)):=bz (by rw[wa3,getD_some 0 h];rfl)
theorem ph(c:Int){n:Nat}(h:1<=n):∃k:Nat,k<n/\c%(n:Int)=(k:Int):={(c%(n:Int)).toNat,by have:=wbh c (show 0<(n:Int) by lia);have:=wbb c (show (n:Int)≠0 by lia);lia,by have:=wbb c (show (n:Int)≠0 by lia);lia}
theorem DQ(g:Str)(c:Int)(h:1<=g.length):∃k,k∈ch g/\ui g.cps.toList (c%(g.length:Int))=some k:=by
 obtain⟨i,hi,e⟩:=ph c h;have hd:i<(ch g).length:=by rw[aE];exact hi
 rw[e];exact{_,waK hd,bz (wa1 hd)}
noncomputable def DR(sz:Nat)(e:Str):V->V:=λv=>match v with
 |.str w=>.bl (decide ((w.length:Int)>(sz:Int))&&decide (V.str (bZ w sz)=V.str e))
 |_=>.non
noncomputable def HV(R:Wr)(us:List Str)(d:Nat):Bool:=@decide (gD R.wl d us) (wfZ _)
theorem mZ{R:Wr}{us:List Str}{d:Nat}:HV R us d=true↔gD R.wl d us:=@decide_eq_true_iff _ (wfZ _)
noncomputable def JB(R:Wr)(us:List Str):List Bool:=(waD R.wl.length).map (HV R us)
theorem HW{R:Wr}{us:List Str}{d:Nat}(h:d<R.wl.length):ui ((JB R us).map V.bl) (d:Int)=some (.bl (HV R us d)):=bz (by unfold JB;rw[wa3,wa3,wdO h];rfl)
theorem HX(R:Wr):(waj R.wl.length [V.bl true]).flatten=(JB R []).map V.bl:=by
 unfold JB;generalize R.wl.length=n
 induction n with
 |zero=>rfl
 |succ n a=>
  rw[List.replicate_succ',List.flatten_append,a,wcv,wai,wai];have:HV R [] n=true:=mZ.mpr trivial;simp[this]
noncomputable def HY(R:Wr)(S2:Str)(us:List Str):V×V->V
 |(.str w,.int e)=>.bl (decide (V.str w=V.str S2)&&HV R us e.toNat)
 |_=>.non
theorem HZ(R:Wr)(g:Str)(us:List Str)(k:Nat):∃bs:List Bool,((R.wl.getD k []).map dh).map (HY R g us)=bs.map V.bl/\bs.any id=HV R (g::us) k:=by
 refine{(R.wl.getD k []).map λq=>decide (V.str q.1=V.str g)&&HV R us q.2,?_,?_}
 .rw[wah,wah];exact waX λq _=>by show V.bl (_&&HV R us ((q.2:Int)).toNat)=_;rw[war];rfl
 .rw[wdf,mZ,wbN];constructor
  .rintro⟨b,a,e⟩;obtain⟨q,c,rfl⟩:=wab.mp a;obtain⟨d,f⟩:=wgQ.mp e;obtain rfl:=V.str.inj (of_decide_eq_true d);exact{q.2,c,mZ.mp f}
  .rintro⟨e,h,i⟩;exact{_,wab.mpr {_,h,rfl},wgQ.mpr {decide_eq_true rfl,mZ.mpr i}}
theorem Kz{us:List Str}{i j:Nat}(h:us.length=j+1+i):us.drop (us.length-(i+1))=us.getD j "" :: us.drop (us.length-i):=by
 rw[show us.length-(i+1)=j by omega,show us.length-i=j+1 by omega,wcq (show j<us.length by omega),wa4,wa1 (show j<us.length by omega)];rfl
theorem NS{n b m i j:Nat}(h:m=j+1+i):((n*b:Nat):Int)+(n:Int)*(m:Int)+(i:Int)*(0-(n:Int))=((n*(b+1+j):Nat):Int):=by
 subst h;rw[wb0,wb0,wbk,wbk,wbk,wbk]
 grind
structure Ia(R:Wr)(s:Str)(ds:List Nat):Prop where
 ex:∃(bs:List Str) (w:Str) (us:List Str),s=cat (bs++w::us)/\(∀u∈bs++w::us,u.length=R.n/\∀c∈ch u,c∈ch R.g)/\bs.length=R.b/\us.length=R.c/\∀i:Nat,i∈ds↔bears R.bw (cat bs)=false/\gQ R.ss R.hk R.wl (cat bs) w us i
 l:ds.length<=1000
noncomputable abbrev KA(R:Wr)(a lw x z:Addr)(v7 v8 v9 v10:Option V):St:=[some (.ref a),some (.str R.g),some (.ref lw),some (.int R.many),some (.int (R.n:Int)),some (.ref x),some (.ref z),v7,v8,v9,v10]
inductive NT(R:Wr)(a lw x z:Addr)(v7 v8:Option V)(H1:Hp)(i:Nat)(σ:St)(H':Hp):Prop
 |mk (_:a8 H1 H') (v9 v10) (_:σ=KA R a lw x z v7 v8 v9 v10)
theorem NT.s(q:NT R a l x z p r g i σ j):a8 g j:=by
 obtain⟨h,_⟩:=q;exact h
end
section
variable{K:wa2}
inductive KB(K:wa2)(vs:List V)(H:Hp)(Q:VK)(dq:XK):Prop
 |mk (l b:Addr) (rs:List Addr) (ps:List (Nat×Nat)) (es:List Nat) (_:vs=[.ref l,.ref b]) (_:aH K H l (rs.map V.ref)) (_:bc H rs (ps.map jd)) (_:aH K H b ((nI es).map V.int)) (_:ps.length<=1000) (_:es.length<=1000) (_:∀y ds H',a8 H H'->H' y=some (.lst ((nI ds).map V.int))->(∀i:Nat,i∈ds↔∃e∈es,(i,e)∈ps)->ds.length<=ps.length->Q (.ref y) H')
inductive Ib(K:wa2)(vs:List V)(H:Hp)(Q:VK)(dq:XK):Prop
 |mk (v a ds) (_:vs=[v,.ref a]) (_:aH K H a ((nI ds).map V.int)) (_:ds.length<=1000) (_:(ds=[]/\v=.non)\/∃i:Nat,v=.int (i:Int)/\ds≠[]/\∀d∈ds,d=i) (_:∀H',a8 H H'->Q (.bl true) H')
end
theorem cX{CX P w K mg base N q g f cd A o s H E}:(ux CX P w K mg base N q g f cd A o s H E).K=K:=rfl
end K51
namespace L2
open PySem.Spec PyProof.Rows
section
variable{X:Cx}
noncomputable def QH(r:Str):V->V:=λv=>match v with
 |.str y=>.bl (Bs.NB y r)
 |_=>.non
theorem Aq(r:Str)(ws:List Str):(ws.map V.str).map (QH r)=(ws.map λw=>Bs.NB w r).map V.bl:=by
 rw[wah,wah];rfl
theorem EZ(a b:Str):(eO a).map (QH b)=((Bs.ch a).map λc=>decide (c∈Bs.ch b)).map V.bl:=by
 unfold eO;rw[wah,wah];refine waX λc _=>?_;show V.bl (Bs.NB {#[c]} b)=V.bl (decide (c∈Bs.ch b));rw[Bs.DM]
theorem F0(g:List Str)(b:Str):putK (kz g) (wak b:Key) (.bl true)=kz (Bs.za g b):=by
 unfold putK Bs.za
 by_cases h:b∈g
 .have a:((kz g).any λc=>decide (c.1=(wak b:Key)))=true:=by
   refine wbN.mpr {(wak b,.bl true),?_,decide_eq_true rfl};exact wab.mpr ⟨b,h,rfl⟩
  rw[if_pos a,if_pos h];unfold kz;rw[wah];refine waX λk _=>?_;show (if (wak k:Key)=wak b then((wak k:Key),V.bl true) else((wak k:Key),V.bl true))=_;split<;>rfl
 .have a:¬((kz g).any λc=>decide (c.1=(wak b:Key)))=true:=by
   intro z;obtain⟨p,d,e⟩:=wbN.mp z;obtain⟨k,hk,rfl⟩:=wab.mp d;have:(wak k:Key)=wak b:=of_decide_eq_true e;have:k=b:=wcf this;subst this;exact h hk
  rw[if_neg a,if_neg h];unfold kz;rw[wai];rfl
theorem pj(h:(Bs.ch x).Nodup):∀i,i<=x.cps.size->cY (eZ x) i=(waD i).map (eZ x)
 |0,_=>rfl
 |i+1,hi=>by
  have c:=pj h i ();rw[iF,c,wcv,wai];unfold rK;rw[if_neg]
  .rfl
  .intro z;obtain⟨y,d,e⟩:=wbN.mp z;obtain⟨j,f,rfl⟩:=wab.mp d;have l:j<i:=wb7.mp f;have a:eZ x j=eZ x i:=eq_of_beq e;unfold eZ at a
   have b:x.cps.getD j 0=x.cps.getD i 0:=by
    injection a with m
    have:=congrArg Array.toList m;simpa using this
   have g:∀k,(hk:k<x.cps.size)->x.cps.getD k 0=(Bs.ch x)[k]'(by simpa using hk):=λk hk=>by
    simp[Array.getD,hk]
   rw[g j (),g i ()]at b;have:=(wcm h).mp b;omega
theorem Ar(h:(Bs.ch x).Nodup):(cY (eZ x) x.cps.size).length=x.length:=by
 rw[pj h _ (waa _),wa0,waJ];rfl
noncomputable def ua(ws ps:List Str)(p:Str)(c:Nat):V:=if bears ws (p++{#[c]})=true then .non else .str (lend ps (p++{#[c]}))
noncomputable def rowOf(g:Str)(ws ps:List Str)(p:Str):List (Key×V):=(ch g).map λc=>((wak ({#[c]}:Str):Key),ua ws ps p c)
theorem F1(g:Str)(ws ps:List Str)(p:Str):(rowOf g ws ps p).length=g.length:=by unfold rowOf;rw[wa0,aE]
theorem Cv(g:Str)(ws ps:List Str)(p:Str):((rowOf g ws ps p).map (·.2)).all dQ=true:=by
 unfold rowOf;rw[wah];refine waR.mpr λv a=>?_;obtain⟨c,_,rfl⟩:=wab.mp a;show dQ (ua ws ps p c)=true;unfold ua;split<;>rfl
theorem DS(h:c∈ch g):bC (rowOf g ws ps p) (wak ({#[c]}:Str):Key)=some (ua ws ps p c):=
 Gy (ua ws ps p) (λc=>({#[c]}:Str)) (λa b e=>by
  grind) h
theorem xX{z:Str}{g:TG}{C:TS}{D:Ends}{σ:St}{H:Hp}(Pv:Nat->St->Hp->Prop)(h0:Pv 0 σ H)
 (hs:∀i c σ H T,(Bs.ch z)[i]?=some c->Pv i σ H->H T=none->g (.ref T) σ (upd H T (.tup [.int (i:Nat),.str {#[c]}])) λj t=>C (D.lp (Pv (i+1))) j t) (hd:∀σ H,Pv z.length σ H->D.nx σ H) :
 ∃W:Nat->Nat->St->Hp->Prop,(∃m,W 0 m σ H)/\∀i m σ H,W i m σ H ->
  ((Gz z).stop i H/\D.nx σ H)\/((Gz z).go i H/\∃N:St->Hp->Prop,(∀l r,N l r->∃I,I<m/\W (i+1) I l r)/\∀x r,(Gz z).tS i H x r->g x σ r λj t=>C (D.lp N) j t):=by
 refine{λi m σ H=>m=z.length-i/\i<=z.length/\Pv i σ H,{z.length,by simp,waq _,h0},?_};rintro i m σ H ⟨rfl,hi,p⟩
 by_cases a:i<z.length
 .refine .inr {a,Pv (i+1),λl r b=>{z.length-(i+1),by lia,rfl,a,b},λx r y=>?_};obtain⟨T,d,f,h⟩:=y;subst f h
  have hc:(Bs.ch z)[i]?=some (z.cps.getD i 0):=by
   have:i<z.cps.size:=a;rw[wcn];simp[this]
  exact hs i _ σ _ T hc p d
 .have e:i=z.length:=by lia
  subst e;exact .inl {waa _,hd σ H p}
theorem ai{i:Nat}{x:Str}{e:Expr}{j:TE}{g:Pos}(he:PE X e j)(l:X.N.Nodup:=by assumption)(hi:X.N[i]?=some x:=by rfl)(p:Loc X.env.scope x:=by first |exact we1 rfl |exact Or.inr rfl)(hs:wcc e (some (.Name x g)) pos.line X.env=pure false:=by rfl)
 (r:X.fn x=true\/X.env.scope.names.lookup x=some .local:=by first |exact .inl rfl |exact .inr rfl |assumption):PS X (.Assign [.Name x g] e pos) (JY j (cK i)):=
 GI l hi p he hs r
theorem ax{i:Nat}{x:Str}(g:X.N.Nodup:=by assumption)(hi:X.N[i]?=some x:=by rfl)(j:Loc X.env.scope x:=by first |exact we1 rfl |exact Or.inr rfl)(l:X.fn x=true\/X.env.scope.names.lookup x=some .local:=by first |exact .inl rfl |exact .inr rfl |assumption):PG X (.Name x pos) (cK i):=
 jF g hi j l
noncomputable def gJ(g:Str)(ws ss:List Str)(p:Str):List Str:=(ch g).filterMap λc=>if bears ws (p++{#[c]})=true then none else some (lend ss (p++{#[c]}))
theorem As(ws ss:List Str)(p:Str)(g:List Nat):((g.map (ua ws ss p)).filter Bt)=(g.filterMap λc=>if bears ws (p++{#[c]})=true then none else some (lend ss (p++{#[c]}))).map V.str:=by
 induction g with
 |nil=>rfl
 |cons c g a=>
  grind [ua,lend,Bt]
theorem Cw(g:Str)(ws ss:List Str)(p:Str):(gJ g ws ss p).length<=g.length:=by
 unfold gJ;have:=we7 (λc=>if bears ws (p++{#[c]})=true then none else some (lend ss (p++({#[c]}:Str)))) (ch g);rw[aE]at this;exact this
noncomputable def gW(g:Str)(ws ss:List Str):Nat->Str->Int
 |0,_=>1
 |n+1,p=>((gJ g ws ss p).map (gW g ws ss n)).sum
noncomputable abbrev NU(g:Str)(ws ss:List Str)(n:Nat):List (Key×V):=qK (λp=>.int (gW g ws ss n p)) ss
noncomputable def W6(ws ss:List Str)(p:Str):V->V:=λv=>match v with
 |.str z=>ua ws ss p (z.cps.getD 0 0)
 |_=>.non
theorem F4(g:Str)(ws ss:List Str)(p:Str):(eO g).map (W6 ws ss p)=(ch g).map (ua ws ss p):=by
 unfold eO;rw[wah];rfl
theorem F5{K:wa2}(J:X.K=K):M7 X "list.index" (λx xs H Q=>∃l g k i,x=.ref l/\xs=[.str k]/\aH K H l (wcZ V.str g)/\g.length<=1000/\g[i]?=some k/\(∀j:Nat,j<i->g[j]?≠some k)/\Q (.int (i:Nat)) H):=by
 subst J;intro A s σ H x xs v Y Q I E G h;obtain⟨l,g,k,i,rfl,rfl,L,M,hi,f,q⟩:=h;cases E;obtain⟨u,rfl,N,rfl⟩:=G.one;obtain⟨a,B,pl,Z⟩:=I.list L;obtain⟨⟨cls,O,data,sl⟩,C,hc,n,hd⟩:=pl.isList;simp only at hc hd;subst hc hd;have c:=B.length;rw[wa0]at c;have R:i<g.length:=(wa6.mp hi).1
 have at_:∀m (b:m<a.length),∃t,a[m]=.str (g[m]'()) t:=λm b=>by
  obtain⟨w,D,S⟩:=B.get (i:=m) (x:=.str (g[m]'())) (by rw[wa3,wa1 ()];rfl);rw[wa1 b]at D;obtain⟨t,rfl⟩:=S;exact{t,waf D}
 refine weP wd9 {_,C,rfl} wfO (wfC _ _)
  (wfP l a.toArray n O sl (.str k N) (λw=>match w with |.str z _=>z==k |_=>false) i (by simp;omega) () ?_ ?_) {C,λy T=>?_,?_}
 .obtain⟨t,e⟩:=at_ i ();have U:g[i]=k:=(wa6.mp hi).2;simp only[wdK];rw[e,U];simp
 .intro m b o;have p:m<a.length:=by simpa using b
  obtain⟨t,e⟩:=at_ m p;simp only[wdK];rw[e];have d:=f m o;rw[wa1 ()]at d;simp only[beq_eq_false_iff_ne,ne_eq];exact λz=>d (by rw[z])
 .have r:y∈a:=by simpa using T
  obtain⟨m,b,rfl⟩:=wbZ r;obtain⟨t,e⟩:=at_ m b;rw[e];exact wgx _ _ _ _
 .exact{.int (i:Nat),H,I.tok _,{_,rfl},q}
theorem bu.len{K:wa2}{H:Hp}:∀{g:List jE} {xs:List V},bu K H g xs->xs.length=g.length
 |[],xs,h=>by
  have e:xs=[]:=h;subst e;rfl
 |d::g,_,h=>by
  obtain⟨v,a,rfl,_,hl⟩:=h;rw[waE,waE,bu.len hl]
theorem bu.at{K:wa2}{H:Hp}{g:List jE}{xs:List V}(h:bu K H g xs){i:Nat}{d:jE}(e:g[i]?=some d):∃x,xs[i]?=some x/\bK K H d x:=by
 have hi:i<g.length:=(wa6.mp e).1;have a:xs[i]?=some (xs[i]'(by rw[h.len];exact hi)):=wa1 _;obtain⟨c,b,r⟩:=h.get i _ a;rw[e]at b;cases b;exact{_,a,r}
theorem eF(s:a8 g H):a8 (aL H j) (aL g j):=λa o e=>by
 unfold aL at e ⊢
 cases h:H a with
 |none=>rw[h]at e;rw[none_of s h];exact e
 |some z=>rw[h]at e;cases e
theorem eX(kp:∀b o,H b=some o->b≠x->g b=some o):a8 (fB H x) g:=λd o e=>by
 unfold fB at e
 by_cases hd:d=x
 .grind
 .grind
mutual
theorem bK.off{K:wa2}{H:Hp}{x C j:Addr}{fs:List (Str×V)}(g:H x=some (.ins C j fs)):∀(d:jE) (v:V),bK K H d v->bK K (fB H x) d v
 |.at _,_,h=>h
 |.tup c,_,h=>by
  obtain⟨a,b,e,f,hl⟩:=h;exact{a,b,e,gg f (λz=>by grind),bu.off g c b hl}
 |.lst c,_,h=>by
  obtain⟨a,b,e,f,hl⟩:=h;exact{a,b,e,MS g f (λ_ z=>by cases z) (λ_ _ z=>by cases z),bu.off g c b hl}
theorem bu.off{K:wa2}{H:Hp}{x C l:Addr}{fs:List (Str×V)}(j:H x=some (.ins C l fs)):∀(g:List jE) (xs:List V),bu K H g xs->bu K (fB H x) g xs
 |[],_,h=>h
 |d::g,_,h=>by
  obtain⟨v,a,e,b,hl⟩:=h;exact{v,a,e,bK.off j d v b,bu.off j g a hl}
end
theorem xY{K:wa2}{a l:Addr}{xs:List V}{r:St}{I:TT}{J:TE}{H:Hp}{Q:Hp->Prop}(p:Nat->Bool)(C:aH K H a xs)(hl:H l=none)(hz:xs.length<=sizeLine)
 (U:∀(i:Nat) (x:V) j t,xs[i]?=some x->a8 H j->(∀g,a8 j g->t (p i) g)->I (some (.int (i:Nat))::some x::r) j t)
 (he:∀(i:Nat) (x:V) j t,xs[i]?=some x->a8 H j->(∀g,a8 j g->t x g)->J (some (.int (i:Nat))::some x::r) j t)
 (hd:∀g,a8 H g->g l=some (.lst (bp p 0 xs))->Q g):jL K (OC K a) l r I J H Q:=by
 refine{λi m u f=>m=xs.length-i/\i<=xs.length/\a8 H f/\f l=some (.lst u)/\u=bp p 0 (xs.take i),{xs.length,by simp,waq _,a8.upd hl,a7,rfl},?_};rintro i m u f ⟨rfl,hi,c,v,k⟩;refine{v,?_}
 by_cases d:i<xs.length
 .refine .inr {{xs,xs[i],c.seq C,wa1 d},?_,λx j y=>?_}
  .rw[k];refine wbg (mR p 0 _) ?_;rw[wad]
   lia
  .obtain⟨T,h,E,G,L,y⟩:=y;subst G L;have w:xs[i]?=some h:=y xs (c.seq C);have n:a8 f (upd f T (.tup [.int (i:Nat),h])):=a8.upd E;have z:xs.take (i+1)=xs.take i++[h]:=by rw[waM,w];rfl
   have q:(xs.take i).length=i:=by rw[wad];lia
   refine{T,.int (i:Nat),h,rfl,g8.of a7,U i h _ _ w (c.trans n) λM s=>?_};have A:=s _ _ (n _ _ v)
   cases B:p i with
   |false=>
    rw[if_neg wan];exact{xs.length-(i+1),by lia,rfl,d,(c.trans n).trans s,A,by rw[z,oi,q,whi,B,if_neg wan,waY];exact k}
   |true=>
    rw[if_pos rfl];refine he i h _ _ w ((c.trans n).trans s) λN D=>{D _ _ A,xs.length-(i+1),by lia,rfl,d,λb o e=>?_,a7,?_}
    .rw[af (ag e hl)];exact D _ _ (s _ _ (n _ _ (c _ _ e)))
    .rw[z,oi,q,whi,B,if_pos rfl,k]
 .have e:i=xs.length:=by lia
  subst e;rw[waH]at k;exact .inl {{xs,c.seq C,waa _},hd f c (by rw[v,k])}
theorem F6{K:wa2}(J:X.K=K):M7 X "list.index" (λx xs H Q=>∃l g k i,x=.ref l/\xs=[.int k]/\aH K H l (wcZ V.int g)/\g.length<=1000/\g[i]?=some k/\(∀j:Nat,j<i->g[j]?≠some k)/\Q (.int (i:Nat)) H):=by
 subst J;intro B s σ H x xs v Z Q I G L h;obtain⟨l,g,k,i,rfl,rfl,M,N,hi,o,q⟩:=h;cases G;obtain⟨u,rfl,O,rfl⟩:=L.one;obtain⟨a,C,pl,hz⟩:=I.list M;obtain⟨⟨cls,R,data,sl⟩,D,hc,n,hd⟩:=pl.isList;simp only at hc hd;subst hc hd;have d:=C.length;rw[wa0]at d;have S:i<g.length:=(wa6.mp hi).1
 have b:∀m (c:m<a.length),∃t,a[m]=.int (g[m]'()) t:=λm c=>by
  obtain⟨w,E,T⟩:=C.get (i:=m) (x:=.int (g[m]'())) (by rw[wa3,wa1 ()];rfl);rw[wa1 c]at E;obtain⟨t,rfl⟩:=T;exact{t,waf E}
 refine weP wd9 {_,D,rfl} wfO (wfC _ _)
  (wfP l a.toArray n R sl (.int k O) (λw=>match w with |.int z _=>z==k |_=>false) i (by simp;omega) () ?_ ?_) {D,λy U=>?_,?_}
 .obtain⟨t,e⟩:=b i ();have Y:g[i]=k:=(wa6.mp hi).2;simp only[wdK];rw[e,Y];simp
 .intro m c p;have r:m<a.length:=by simpa using c
  obtain⟨t,e⟩:=b m r;simp only[wdK];rw[e];have f:=o m p;rw[wa1 ()]at f;simp only[beq_eq_false_iff_ne,ne_eq];exact λz=>f (by rw[z])
 .have A:y∈a:=by simpa using U
  obtain⟨m,c,rfl⟩:=wbZ A;obtain⟨t,e⟩:=b m c;rw[e];exact wgw _ _ _ _
 .exact{.int (i:Nat),H,I.tok _,{_,rfl},q}
theorem Ic(K:wa2)(a:Addr)(xs:List V):lB (MY K a xs.length) (λH=>aH K H a xs) xs.reverse:=
 {λi H q hi=>{xs,xs[xs.length-1-i]'(by rw[wcF]at hi;omega),q,rfl,by rwa[wcF]at hi,wa1 _},λi H x b q hi y=>{y.1,by rw[wgC (by rwa[wcF]at hi)];exact y.2 xs q},λH _=>wcF ..}
theorem Ie{P:waC}{w:World}{K:wa2}{J:Expr}(a it:Addr)(n:Nat):Turn P w K J (MY K a n) [it] it (λi h=>h.IsRevIter it a ((n:Int)-1-(i:Int))) where
 mem:=by simp
 obj:=λi h st b j=>by
  have e:b=it:=by simpa using j
  subst e;obtain⟨o,e,c,d⟩:=st;exact{o,e,λv z=>by rw[d]at z;cases z}
 keep:=λi h l st k=>st.at λo e=>k it (by simp) o e
 item:=by
  intro X r hw t hc i g s σ H E I m st q;subst r hw t;obtain⟨V,x,D,hn,hi,G⟩:=q;obtain⟨L,M,p,Y⟩:=I.list D;obtain⟨u,N,O⟩:=M.get G;obtain⟨y,f1,f2,A,B,C⟩:=m it (by simp);have Q:(n:Int)-1-(i:Int)=((n-1-i:Nat):Int):=by lia
  have f:s.heap.IsRevIter it a ((n-1-i:Nat):Int):=by rw[<-Q];exact st
  refine wpAny_pyNext_rev_item f p.isList (x:=u) (by simpa using N) λl f sb=>?_;have R:((n-1-i:Nat):Int)-1=(n:Int)-1-((i+1:Nat):Int):=by lia
  rw[R]at f;have S:Inv X g σ H {s with heap:=l}:=I.turned (t':=s.toks) (λb o j e=>(sb.2 b j).trans e) y f1 A B C;obtain⟨o,e,c,d⟩:=id f;exact{u,rfl,xi (s:={s with heap:=l}) e c d ⋯ {x,H,S,O,{rfl,λZ T=>by rw[I.j6 T D];exact G},f,λb j=>(m b j).1}}
 done:=by
   intro X r hw t hc i g s σ H E I m st q;subst r hw t;have q:i=n:=q;obtain⟨y,f1,f2,A,B,C⟩:=m it (by simp);have f:s.heap.IsRevIter it a (-1):=by rw[show (-1:Int)=(n:Int)-1-(i:Int) by lia];exact st
   exact wpAny_pyNext_rev_end (I.ok.hd hc) f λl U=>{rfl,I.turned (t':=s.toks) (λb o j e=>U b o j e) y f1 A B C}
 self:=λ_ _ _ _ _ st h=>wgR st h
theorem zf{c z TI TO i1 i2:Addr}(h:c∉[z,TI,TO,i1,i2]):c≠z/\c≠TO/\c≠i1/\c≠i2:=by
 simp only[waG,wbn,or_false,not_or]at h;exact⟨h.1,h.2.2.1,h.2.2.2⟩
end
section
variable{X:Cx}{x:Str}{pos:Pos}{e:Expr}{te:Py}{i:Nat}{pos':Pos}
theorem KC(g:X.N.Nodup)(hi:X.N[i]?=some x)(j:Loc X.env.scope x)(he:VI X e te)(hs:wcc e (some (.Name x pos')) pos.line X.env=pure false:=by rfl)(l:X.fn x=true\/X.env.scope.names.lookup x=some .local:=by first |exact .inl rfl |exact .inr rfl |assumption) :
 VJ X (.Assign [.Name x pos'] e pos) (TH te i):=by
 refine{?_};intro a s σ H D E I h;refine weg (wb8 (he a s σ H _ (E σ) I h) (λv b ⟨y,c,d,f,k⟩=>?_) λn b z=>⟨σ,z⟩) hs;exact j7 d g hi j f (λo m=>{_,c,m,k}) l
end
section
variable{P:waC}{w:World}{K:wa2}{mg:Str->Option Value}{base:Heap}{N:List Str}{qual:Str}{f:Addr}{A:Around}{outer:List Env}{s:Shared}{H:Hp}{E:XK}
theorem zS.Yw{x qual:Str}{st:Stmt}{f:Addr}{fd:wbw}{N ps:List Str}{k:Nat}{sp:Sp}(F:zS K x qual st f fd)(S:tT N ps (aJ st))(len:∀vs H Q E,sp vs H Q E->vs.length=ps.length)
 (j:∀(g:Value) (A:Around) (outer:List Env) (s:Shared) (H:Hp) (vs:List V) (Q:VK) (E:XK),dF k (A.deeper (envOfC qual (aJ st) s.heap.objs.size f g))->sp vs H Q E ->
   ∃t,wt (ux (Bj P w) P w K mg base N qual (aJ st) f g A outer s H E) (c9 st) t/\t (Ends.fn Q) (start N vs) H):aS P w K mg base (Bj P w) (k+1) f fd ps sp:=by
 obtain⟨h,i,kV,c,pm,l,g,ct,d,rfl,lk,a⟩:=F.ex;exact Md lk a S len λA outer s H vs Q E e b=>j g A outer s H vs Q E e b
end
section
variable{X:Cx}{k:Nat}{f C:Addr}{fd:wbw}{ps:List Str}{sp:Sp}{x:Str}{p pos:Pos}{e:Expr}{es:List Expr}{t:TA}
theorem Ig(M:Mk X.K C f)(F:aS X.prog X.w X.K X.mg X.base (Bj X.prog X.w) k f fd ps sp)(J:dF (k+1) X.A)(T:Gl X x)(U:X.mg x=some (.ref C))(hb:Binds X.K fd ps [])
 (ha:PA X.LQ (e::es) t) (l:(x==("__debug__":Str))=false:=by decide) (he:starEach (e::es) X.env=(false,eval e X.env)::starEach es X.env:=by rfl) (hpl:(backTo pos (starEach es X.env)).any (·.1)=false:=by rfl) :
 VI X (.Call (.Name x p) (e::es) [] pos) (Nk C sp t):=by
 refine{?_};intro d s σ H Q E I h;refine wbr (gu I T U ?_ l);refine wcL (h₀:=X.base) I.ok.mod.LO M.kp (Ng (bN (ha pos d s σ H _ (I.o1 _) h) λc b o=>?_)) he hpl;obtain⟨y,N,g,r,q⟩:=o.gi;refine{g.gT,?_};have m:=q (b.heap.objs.size+1) b.heap.objs.size (g.b9.fresh (wbR _)) (g.b9.fresh (waa _)) (wav (wbO _));have j:=Inv.made (C:=C) g;have n:Vals (V.ref (b.heap.objs.size+1)::y) (wam (b.heap.objs.size+1)::c):=.cons rfl r
 have hl:(wam (b.heap.objs.size+1)::c++[]).length=ps.length:=by
  have e:=n.length;rw[F.len _ _ _ _ m]at e;rw[waY];exact e.symm
 have i:=hb _ (wam (b.heap.objs.size+1)::c) j.gT hl;rw[waY]at i
 refine wdn (A7 (f:=f) g.gT M.makes M.init (beq_iff_eq.mp M.fn) (wch (F.run _ X.stack _ _ {wam (b.heap.objs.size+1)::c,[]} (wam (b.heap.objs.size+1)::c) _ _ E (J.make C c [])
  (j.K5.make C c []) i n m) λr O a=>?_))
 cases r with
 |error e=>exact{_,_,j,a}
 |ok fl=>
  cases fl with
  |ret u=>
   obtain⟨v,z,B,D,G,L⟩:=j.after a;subst G;exact{D,{V.ref (b.heap.objs.size+1),z,B,rfl,L}}
  |next=>exact wb3 a
  |brk=>exact wb3 a
  |cont=>exact wb3 a
end
end L2
namespace Bs
noncomputable def kC(q:Str×Nat):jE:=.tup [.at (.str q.1),.at (.int (q.2:Int))]
noncomputable def bV(qs:List (Str×Nat)):jE:=.lst (qs.map kC)
noncomputable def jY(lns:List (List (Str×Nat))):jE:=.lst (lns.map bV)
noncomputable def se(hs:List Str):jE:=.lst (hs.map λh=>.at (.str h))
noncomputable def nr(ws:List Int):jE:=.lst (ws.map λw=>.at (.int w))
theorem Ih(h:bK K H (se hs) v):∃a,v=.ref a/\aH K H a (hs.map V.str):=by
 obtain⟨a,b,rfl,f,hl⟩:=h;refine{a,rfl,?_}
 have:b=hs.map V.str:=by
  refine whz λi=>?_
  cases e:b[i]? with
  |none=>
   have:=hl.len;rw[wa0]at this;rw[wcp (by rw[wa0];have:=wfD.mp e;lia)]
  |some x=>
   obtain⟨d,hd,r⟩:=hl.get i x e;rw[wa3]at hd ⊢
   cases c:hs[i]? with
   |none=>rw[c]at hd;cases hd
   |some z=>
    rw[c]at hd;cases hd;rw[r.1];rfl
 rw[<-this];exact .inl f
theorem ia(h:bK K H (nr ws) v):∃a,v=.ref a/\aH K H a (ws.map V.int):=by
 obtain⟨a,b,rfl,f,hl⟩:=h;refine{a,rfl,?_}
 have:b=ws.map V.int:=by
  refine whz λi=>?_
  cases e:b[i]? with
  |none=>
   have:=hl.len;rw[wa0]at this;rw[wcp (by rw[wa0];have:=wfD.mp e;lia)]
  |some x=>
   obtain⟨d,hd,r⟩:=hl.get i x e;rw[wa3]at hd ⊢
   cases c:ws[i]? with
   |none=>rw[c]at hd;cases hd
   |some z=>
    rw[c]at hd;cases hd;rw[r.1];rfl
 rw[<-this];exact .inl f
theorem pk(h:H a=some (.lst (hs.map V.str))):bK K H (se hs) (.ref a):=
 {a,_,rfl,.inl h,bu.qI _ _ (by simp) λi d y hd b=>by
   rw[wa3]at hd b
   cases e:hs[i]? with
   |none=>rw[e]at hd;cases hd
   |some z=>rw[e]at hd b;cases hd;cases b;exact⟨rfl,rfl⟩}
theorem jg(h:H a=some (.lst (ws.map V.int))):bK K H (nr ws) (.ref a):=
 {a,_,rfl,.inl h,bu.qI _ _ (by simp) λi d y hd b=>by
   rw[wa3]at hd b
   cases e:ws[i]? with
   |none=>rw[e]at hd;cases hd
   |some z=>rw[e]at hd b;cases hd;cases b;exact⟨rfl,rfl⟩}
theorem jZ(h:bK K H (bV g) v):∃a xs,v=.ref a/\aH K H a xs/\xs.length=(g.map dh).length/\∀(i:Nat) (q:V×V),(g.map dh)[i]?=some q->∃r,xs[i]?=some (.ref r)/\H r=some (.tup [q.1,q.2]):=by
 obtain⟨a,xs,rfl,j,hl⟩:=h;refine{a,xs,rfl,.inl j,by rw[hl.len,wa0,wa0],λi q b=>?_};rw[wa3]at b
 cases e:g[i]? with
 |none=>rw[e]at b;cases b
 |some z=>
  rw[e]at b;cases b;obtain⟨x,k,r⟩:=hl.at (i:=i) (d:=kC z) (by grind);obtain⟨l,p,rfl,f,m⟩:=r;obtain⟨v1,s,rfl,⟨rfl,_⟩,n⟩:=m;obtain⟨t,c,rfl,⟨rfl,_⟩,o⟩:=n;rw[show c=[] from o]at f;exact⟨l,k,f⟩
theorem lW(g:H r=none)(q:Str×Nat):bK K (aL H (upd H r (.tup [.str q.1,.int (q.2:Int)]))) (kC q) (.ref r):=
 {r,_,rfl,bT g a7,.str q.1,[.int (q.2:Int)],rfl,⟨rfl,rfl⟩,.int (q.2:Int),[],rfl,⟨rfl,rfl⟩,rfl}
structure cb(K:wa2)(C:Addr)(H:Hp)(x:Addr)(hs:List Str)(ws:List Int)(lns:List (List (Str×Nat))):Prop where
 ex:∃dx a b c,H x=some (.ins C dx (BZ a b c))/\bK K H (se hs) (.ref a)/\bK K H (nr ws) (.ref b)/\bK K H (jY lns) (.ref c)
theorem Au(p:Nat->Bool)(h:bu K H (g.map kC) xs):bu K H ((bp p 0 g).map kC) (bp p 0 xs):=by
 rw[<-xJ];exact h.pick p 0 _ _
theorem zg{α:Type}{K:wa2}{H:Hp}(f:α->V):∀(g:List α) (xs:List V),bu K H (g.map λz=>jE.at (f z)) xs->xs=g.map f
 |[],xs,h=>h
 |z::g,_,h=>by
  obtain⟨v,a,rfl,⟨rfl,_⟩,hl⟩:=h;rw[zg f g a hl];rfl
theorem ub(h:bK K H (se hs) (.ref a)):Rd H a (.lst (hs.map V.str)):=by
 obtain⟨d,b,e,c,hl⟩:=h;cases e;rwa[zg V.str hs b hl]at c
theorem KD(h:bK K H (nr ws) (.ref a)):Rd H a (.lst (ws.map V.int)):=by
 obtain⟨d,b,e,c,hl⟩:=h;cases e;rwa[zg V.int ws b hl]at c
theorem cS(h:bK K H (bV j) v):∃a rs,v=.ref a/\aH K H a (rs.map V.ref)/\bc H rs ((j.map dh).map iE):=by
 obtain⟨a,d,rfl,m,b,k⟩:=jZ h
 have ex:d=(d.map λv=>match v with |.ref r=>r |_=>0).map V.ref:=by
  rw[wah];refine(we9 d).symm.trans (waX λv n=>?_);obtain⟨i,hi,rfl⟩:=wbZ n;obtain⟨r,l,_⟩:=k i _ (wa1 (by rw[<-b];exact hi));rw[wa1 hi]at l;rw[waf l];rfl
 refine{a,_,rfl,by rw[<-ex];exact m,by rw[wa0,wa0,b],λi r p f c=>?_};rw[wa3]at f c
 cases e:(j.map dh)[i]? with
 |none=>rw[e]at c;cases c
 |some q=>
  rw[e]at c;cases c;obtain⟨s,g,o⟩:=k i q e;rw[g]at f;cases f;exact o
theorem iG.split{many:Int}{hs:List Str}{ws:List Int}{lns:List (List (Str×Nat))}(S:iG many hs ws lns){d:Nat}{ns:List Int}{w:Int}(h:dW ws lns many (d:Int) ns w=true):iG many (cQ hs d) (cw ws d w) (dn lns d ns)/\d<hs.length:=by
 unfold dW at h;simp only[wbc]at h;obtain⟨n,A,v,x⟩:=h;rw[war]at A v x;obtain⟨c1,E,B⟩:=uW v;obtain⟨G,H,C⟩:=uW x;have j:=S.w;have o:=S.l
 have hd:d<lns.length:=by
  unfold eU at n;rw[wbc]at n;have:=of_decide_eq_true n.2
  lia
 have f:d<ws.length:=by lia
 have r:(cQ hs d).length=hs.length+1:=by unfold cQ;rw[wa5];rfl
 have a:lns.getD d []∈lns:=by
  rw[wa4,wa1 hd];exact waK hd
 have k:=S.e _ a
 have c:∀l∈(lns++[aY ns (lns.getD d [])]).set d (b7 ns (lns.getD d [])),∀q∈l,q.2<hs.length:=λl hl=>by
  rcases wcW hl with z |z
  .rcases wax.mp z with z |z
   .exact S.e l z
   .rw[wao.mp z];exact λq a=>k q (dM a)
  .rw[z];exact λq a=>k q (dM a)
 refine{{by rw[r,C0,j],?_,λz y=>?_,λl hl q a=>?_,λi l hl=>?_},by lia}
 .unfold dn;rw[r,wa0,wcx,wa5,o];rfl
 .unfold cw at y;rcases wcW y with q |q
  .rcases wax.mp q with q |q
   .exact S.p z q
   .rw[wao.mp q];lia
  .rw[q];lia
 .rw[r];unfold dn at hl;obtain⟨m,s,rfl⟩:=wab.mp hl;rcases C4 a with e |e
  .lia
  .have:=c m s q e
   lia
 .unfold dn at hl;rw[wa3]at hl
  cases e:((lns++[aY ns (lns.getD d [])]).set d (b7 ns (lns.getD d [])))[i]? with
  |none=>rw[e]at hl;cases hl
  |some m=>
   rw[e]at hl;cases hl;have D:=c m (wa8 e);rw[show lns.length=ws.length by lia,nq f m (λq a=>by rw[j];exact D q a)]
   by_cases g:i=d
   .subst g;rw[wdr (by rw[wa5];lia)]at e;cases e;rw[rR f];exact B
   .rw[wcU (λz=>g z.symm)]at e
    by_cases t:i<lns.length
    .rw[waA t]at e;rw[oZ (by lia) g];exact S.b i m e
    .have u:i=lns.length:=by
      have:=(wa6.mp e).1;rw[wa5]at this;simp at this
      lia
     subst u;rw[waB (waa _),wbA]at e;cases e;rw[show lns.length=ws.length by lia,rS f];exact C
theorem k6:∀{hs:List Str} {lns:List (List (Str×Nat))} {i:Nat} {l:List (Str×Nat)},hs[i]?=some p->lns[i]?=some l->l.count z<=gC p z hs lns
 |y::hs,x::lns,0,l,a,b=>by
  cases a;cases b;show _<=(if p=p then x.count z else 0)+_;rw[if_pos rfl]
  lia
 |h::hs,x::lns,i+1,l,a,b=>by
  have:=k6 (z:=z) (hs:=hs) (lns:=lns) (i:=i) (by simpa using a) (by simpa using b);show _<=_+gC p z hs lns
  lia
 |[],_,_,_,a,_=>by simp at a
 |_::_,[],_,_,_,b=>by simp at b
theorem wD.split{B:Str->List (Str×Str)}(h:wD B hs lns)(hl:lns.length=hs.length)(he:∀l∈lns,∀q∈l,q.2<hs.length)(hd:d<hs.length)(ns:List Int):wD B (cQ hs d) (dn lns d ns):=by
 intro p w e
 have t:lns.getD d []∈lns:=by
  rw[wa4,wa1 (by lia)];exact waK _
 have k:∀l∈(lns++[aY ns (lns.getD d [])]).set d (b7 ns (lns.getD d [])),∀q∈l,q.2<lns.length:=λl b=>by
  rw[hl];rcases wcW b with z |z
  .rcases wax.mp z with z |z
   .exact he l z
   .rw[wao.mp z];exact λq c=>he _ t q (dM c)
  .rw[z];exact λq c=>he _ t q (dM c)
 have n:(hs++[hs.getD d ""]).getD d ""=hs.getD d "":=by
  rw[wa4,waA hd,<-wa4]
 have o:(lns++[aY ns (lns.getD d [])]).getD d []=lns.getD d []:=by
  rw[wa4,waA (by lia),<-wa4]
 unfold cQ dn;rw[Ae p (z':=(w,if e=lns.length then d else e)) _ _ λl b=>rT (by lia) w e l (k l b)];have r:=Ad p (w,if e=lns.length then d else e) (b7 ns (lns.getD d [])) (hs++[hs.getD d ""]) (lns++[aY ns (lns.getD d [])]) d (by rw[wa5,wa5];simp[hl]) (by rw[wa5];lia);rw[n,o,xR p _ _ _ hs lns hl.symm]at r;have u:=om (λi=>decide ((i:Int)∈ns)) (w,if e=lns.length then d else e) 0 (lns.getD d []);have y:(b7 ns (lns.getD d [])).count (w,if e=lns.length then d else e)+(aY ns (lns.getD d [])).count (w,if e=lns.length then d else e)=(lns.getD d []).count (w,if e=lns.length then d else e):=u;have v:=h p w (if e=lns.length then d else e)
 have x:gC p (w,if e=lns.length then d else e) (hs++[hs.getD d ""]) ((lns++[aY ns (lns.getD d [])]).set d (b7 ns (lns.getD d [])))=gC p (w,if e=lns.length then d else e) hs lns:=by
  by_cases j:hs.getD d ""=p
  .rw[if_pos j,if_pos j,if_pos j]at r
   lia
  .rw[if_neg j,if_neg j,if_neg j]at r
   lia
 rw[x,v]
 have m:p∈hs++[hs.getD d ""]↔p∈hs:=by
  rw[wax,wao];refine{λz=>z.elim id λz=>?_,.inl};rw[z,wa4,wa1 hd];exact waK _
 have a:(hs++[hs.getD d ""]).length=hs.length+1:=by rw[wa5];rfl
 by_cases f:e=lns.length
 .rw[if_pos f]
  have s:(hs++[hs.getD d ""]).getD e ""=hs.getD d "":=by
   rw[f,hl,wa4,waB (waa _),wbA];rfl
  rw[s,a];refine RX {λz=>{by lia,m.mpr z.2.1,z.2.2},λz=>{hd,m.mp z.2.1,z.2.2}}
 .rw[if_neg f]
  by_cases g:e<hs.length
  .have s:(hs++[hs.getD d ""]).getD e ""=hs.getD e "":=by
    rw[wa4,waA g,<-wa4]
   rw[s,a];refine RX {λz=>{by lia,m.mpr z.2.1,z.2.2},λz=>{g,m.mp z.2.1,z.2.2}}
  .rw[if_neg (λz=>g z.1),if_neg (λz=>by have:=z.1;lia)]
theorem xZ(h:∀d∈S,d∈T):∀g:List (Str×Nat),(cR S g).length<=(cR T g).length
 |[]=>waa _
 |q::g=>by
  have a:=xZ h g;unfold cR at a ⊢
  by_cases b:q.2∈S
  .rw[wb5 (by exact decide_eq_true b),wb5 (by exact decide_eq_true (h _ b))];exact Nat.succ_le_succ a
  .rw[wba (by simpa using b)]
   by_cases c:q.2∈T
   .rw[wb5 (by exact decide_eq_true c)];exact whA a
   .rw[wba (by simpa using c)];exact a
theorem vp{f:Nat->Int}:∀ns:List Nat,(∀n∈ns,f n<=h)->x∈ns->f x<h->(ns.map f).sum<(ns.length:Int)*h
 |[],_,a,_=>nomatch a
 |n::ns,c,a,b=>by
  have h0:=c n (wag ..);rw[wat,wbu,waE,wbk,wgp];show _<_+1*h;rcases waG.mp a with e |a
  .have g:=oq ns λp d=>c p (wac _ d);rw[e]at b
   lia
  .have g:=vp ns (λp d=>c p (wac _ d)) a b
   lia
theorem Ii:∀{a b:List Nat},nI a=nI b->a=b
 |[],[],_=>rfl
 |[],_::_,h=>nomatch h
 |_::_,[],h=>nomatch h
 |x::a,y::b,h=>by
  unfold nI at h;rw[wat,wat]at h;injection h with d c
  rw[Ii (a:=a) (b:=b) c,show x=y by lia]
theorem vq{ls g:List Str}{f:Str->Int}(h:∀p∈ls,0<=f p):∀p∈ls,0<=d2 g f p:=λp a=>by
 unfold d2;split
 .exact h p a
 .grind
theorem Av{ls g:List Str}{f:Str->Int}(h:∀p∈ls,0<=f p):∀p∈ls,d2 g f p<=f p:=λp a=>by
 unfold d2;split
 .grind
 .exact h p a
theorem F7{ls g:List Str}{f:Str->Int}(h:∀p∈ls,0<=f p):(ls.map (d2 g f)).sum<=(ls.map f).sum:=uZ ls (Av h)
theorem F8{ls:List Str}{f:Str->Int}{rs:List Nat}(h:∀p∈ls,0<=f p)(hl:∀d∈rs,d<(av ls f).length)(g:rs≠[]):0<(ls.map (d2 (rs.map λd=>(av ls f).getD d "") f)).sum:=by
 cases rs with
 |nil=>exact absurd rfl g
 |cons d rs=>
  have hd:=hl d (wag ..)
  have a:(av ls f).getD d ""∈av ls f:=by
   grind
  obtain⟨b,c⟩:=wau.mp a;refine va ls (vq h) b ?_;unfold d2;rw[if_pos (wab.mpr {d,wag ..,rfl})];exact of_decide_eq_true c
theorem y3(a b:List Nat):um ((nI a).map V.int) ((nI b).map V.int)=decide (a=b):=by
 rw[xU];exact decide_eq_decide.mpr {Ii,λe=>by rw[e]}
theorem Aw:∀{m:Nat},i0<m->(restOf m i0).length=m-1
 |m+1,h=>by
  unfold restOf;rw[wcv,wbB,wa5]
  by_cases e:i0=m
  .subst e;have b:(waD i0).filter (λn=>decide (n≠i0))=waD i0:=wb1.mpr λn hn=>decide_eq_true (by grind);rw[b,wba (by simp),waJ];rfl
  .have a:=Aw (i0:=i0) (m:=m) (by lia);unfold restOf at a;rw[a,wb5 (by grind)];show m-1+1=_
   lia
theorem Ax(h:i0<m)(hk:k+1<=m):(numsOf m i0 k).length=k+1:=by
 grind [numsOf,waE,Aw]
theorem y4(S:iG many hs ws lns)(D:Down ws lns h d i g q):many<=(g.length:Int):=by
 have a:g∈lns:=wa8 D.l;have c:=S.b d g D.l;have f:=oo (ws:=ws) (h:=h) g λp j=>D.t _ (jb (by rw[S.w];exact S.e g a p j));rw[D.e]at c;have k:1<=h:=S.p h D.m;exact wfj (we8 c f) (by lia)
noncomputable def zh(s:z4):jE:=.tup [.at (.int (s.1:Int)),nr (nI s.2.1),.at (.int s.2.2)]
structure ow(K:wa2)(C CS:Addr)(H:Hp)(x:Addr)(m:List (Str×Int))(qB:List z4)(ks:List Nat)(hs:List Str)(ws:List Int)(lns:List (List (Str×Nat))):Prop where
 ex:∃dx a b c d,H x=some (.ins C dx (ve a b c d))/\H a=some (.dK (bH m))/\bK K H (.lst (qB.map zh)) (.ref b)/\bK K H (nr (nI ks)) (.ref c)/\cb K CS H d hs ws lns
theorem pq(s:a8 H g):a8 (fB H b) (fB g b):=λc o e=>by
 unfold fB at e ⊢
 by_cases h:c=b
 .rw[if_pos h]at e;cases e
 .rw[if_neg h]at e ⊢;exact s _ _ e
theorem vr:a8 (fB H b) H:=eX λ_ _ e _=>e
theorem DT(g:H t=some (.tup [.int (d:Int),.ref l,.int w]))(j:H l=some (.lst ((nI ns).map V.int))):bK K H (zh (d,ns,w)) (.ref t):=
 {t,_,rfl,g,_,_,rfl,⟨rfl,rfl⟩,_,_,rfl,jg j,_,_,rfl,⟨rfl,rfl⟩,rfl}
theorem f9.step{g:Str}{bw ss ls:List Str}{many:Int}{n:Nat}{f:Str->Int}{j:List z4}{hs:List Str}{ws:List Int}{lns:List (List (Str×Nat))}(h:f9 g bw ss ls many n f j hs ws lns){d:Nat}{ns:List Nat}{w:Int}(ok:dW ws lns many (d:Int) (nI ns) w=true) :
 f9 g bw ss ls many n f (j++[(d,ns,w)]) (cQ hs d) (cw ws d w) (dn lns d (nI ns)):=by
 obtain⟨b,hd⟩:=h.b.split ok;have hw:=h.b.w;have hl:=h.b.l;refine{.snoc h.rn ok,b,h.cv.split hl h.b.e hd (nI ns),?_,?_,λp a=>?_}
 .rw[C3 (by lia)];exact h.sm
 .have:=h.sl;unfold cQ;rw[wa5,wa5];show j.length+1+_=hs.length+1
  lia
 .unfold cQ at a;rcases wax.mp a with a |a
  .exact h.sb p a
  .rw[wao.mp a,wa4,wa1 hd];exact h.sb _ (waK hd)
theorem f9.len{f:Str->Int}(h:f9 g bw ss ls many n f j hs ws lns):(hs.length:Int)<=(ls.map f).sum:=by
 have:=vf h.b.p;have a:=h.sm;have c:=h.b.w
 lia
def F9(g:Str)(bw ss:List Str)(many:Int)(n:Nat):Prop:=∀j:Nat,1<=j->(j:Int)<=24->¬gW g bw ss (j*n) "" < many^j
noncomputable def kD(wl:List (List (Str×Nat)))(s:Str×Nat)(t:Nat):Str×Nat:=(s.1++((wl.getD s.2 []).getD t ("",0)).1,((wl.getD s.2 []).getD t ("",0)).2)
noncomputable def cH(wl:List (List (Str×Nat)))(d:Nat)(ts:List Nat):Str×Nat:=ts.foldl (kD wl) ("",d)
theorem y6(wl:List (List (Str×Nat)))(d:Nat)(ts:List Nat)(t:Nat):cH wl d (ts++[t])=kD wl (cH wl d ts) t:=by
 grind [cH]
theorem KG(h:k∈g):(nI g)[g.idxOf k]?=some (k:Int)/\∀j:Nat,j<g.idxOf k->(nI g)[j]?≠some (k:Int):=by
 have hl:g.idxOf k<g.length:=wc7.mpr h;unfold nI;refine{by grind,λj c e=>?_};have a:j<g.length:=by lia
 rw[wa3,wa1 a]at e;have b:g[j]=k:=by grind
 have:=vg a;rw[b]at this
 lia
theorem Ij(wl:List (List (Str×Nat))):∀(b:List Nat) (r:Str) (e:Nat),b.foldl (kD wl) (r,e)=(r++(b.foldl (kD wl) ("",e)).1,(b.foldl (kD wl) ("",e)).2):=by intro b;induction b<;>grind [jU,wdQ,kD,wl,u5,eE]
theorem vt{p:Str}{z:Str×Nat}:∀{hs:List Str} {lns:List (List (Str×Nat))} {i j:Nat} {l m:List (Str×Nat)},i<j->hs[i]?=some p->hs[j]?=some p->lns[i]?=some l->lns[j]?=some m->l.count z+m.count z<=gC p z hs lns
 |[],_,_,_,_,_,_,h,_,_,_=>nomatch h
 |_,[],_,_,_,_,_,_,_,h,_=>nomatch h
 |h::hs,k::lns,0,j+1,l,m,_,a,b,c,d=>by
  cases a;cases c;have:=k6 (z:=z) (p:=p) (hs:=hs) (lns:=lns) (i:=j) (by simpa using b) (by simpa using d);show _<=(if p=p then k.count z else 0)+_;rw[if_pos rfl]
  lia
 |h::hs,k::lns,i+1,j+1,l,m,q,a,b,c,d=>by
  have:=vt (z:=z) (hs:=hs) (lns:=lns) (i:=i) (j:=j) (l:=l) (m:=m) (by lia) (by simpa using a) (by simpa using b) (by simpa using c) (by simpa using d);show _<=(if h=p then k.count z else 0)+_
  lia
theorem wD.most{B:Str->List (Str×Str)}{hs:List Str}{lns:List (List (Str×Nat))}(h:wD B hs lns)(p:Str)(z:Str×Nat):gC p z hs lns<=1:=by
 have:=h p z.1 z.2;rw[show (z.1,z.2)=z from rfl]at this;rw[this];split<;>lia
theorem wD.one{B:Str->List (Str×Str)}{hs:List Str}{lns:List (List (Str×Nat))}(h:wD B hs lns)(hl:lns.length=hs.length){d d':Nat}(hd:d<hs.length)(g:d'<hs.length)(e:hs.getD d ""=hs.getD d' ""){q:Str×Nat}(j:q∈lns.getD d [])(l:q∈lns.getD d' []):d=d':=by
 have c1:=wc8.mpr j;have f:=wc8.mpr l;have a:=getD_some ("":Str) hd;have b:=getD_some ("":Str) g;rw[<-e]at b;have m:=h.most (hs.getD d "") q;have l1:=getD_some [] (show d<lns.length by lia);have c:=getD_some [] (show d'<lns.length by lia);rcases wfu d d' with z |z |z
 .have:=vt (z:=q) z a b l1 c;lia
 .exact z
 .have:=vt (z:=q) z b a c l1;lia
theorem wD.cnt{B:Str->List (Str×Str)}{hs:List Str}{lns:List (List (Str×Nat))}(h:wD B hs lns)(hl:lns.length=hs.length){d:Nat}(hd:d<hs.length)(q:Str×Nat):(lns.getD d []).count q<=1:=
 wal (k6 (getD_some ("":Str) hd) (getD_some [] (show d<lns.length by lia))) (h.most _ q)
def Fa(hs:List Str)(lns:List (List (Str×Nat)))(s:Nat):Prop:=∀d d' ws,d<lns.length->d'<lns.length->hs.getD d ""=hs.getD d' ""->ws.length=s->gD lns d ws->gD lns d' ws->d=d'
theorem vv{l:List (Str×Nat)}{w:Str}{d t e:Nat}(hl:∀q∈l,q.2<t)(h:(w,e)∈eJ d t l):(w,tJ d t e)∈l:=by
 unfold eJ at h;obtain⟨q,a,h⟩:=wcH.mp h;have:=hl q a;unfold tJ
 by_cases c:q.2=d
 .rw[if_pos c]at h;rcases waG.mp h with z |z
  .rw[<-z]at a this;rw[if_neg (show ¬e=t from wav this)];exact a
  .have z:=wao.mp z;obtain⟨rfl,rfl⟩:=wce z;rw[if_pos rfl,<-c];exact a
 .rw[if_neg c]at h;have z:=wao.mp h;rw[<-z]at a this;rw[if_neg (show ¬e=t from wav this)];exact a
theorem n6{lns:List (List (Str×Nat))}{d i e:Nat}{ns:List Int}{w:Str}(hd:d<lns.length)(hi:i<lns.length+1)(he:∀l∈lns,∀q∈l,q.2<lns.length)(h:(w,e)∈(dn lns d ns).getD i []) :
 (w,tJ d lns.length e)∈lns.getD (tJ d lns.length i) []/\(i=d->(w,tJ d lns.length e)∈b7 ns (lns.getD d []))/\(i=lns.length->(w,tJ d lns.length e)∈aY ns (lns.getD d [])):=by
 have g:∀j,∀q∈lns.getD j [],q.2<lns.length:=λj q f=>by
  by_cases z:j<lns.length
  .exact he _ (wa8 (getD_some [] z)) q f
  .rw[wa4,wcp ()]at f;cases f
 rw[EG hd hi]at h
 by_cases a:i=d
 .rw[if_pos a]at h;have c:=vv (λq f=>g d q (dM f)) h;refine{?_,λ_=>c,λz=>absurd z ()};have:tJ d lns.length i=d:=by unfold tJ;rw[if_neg ()];exact a
  rw[this];exact dM c
 .rw[if_neg a]at h
  by_cases b:i=lns.length
  .rw[if_pos b]at h;have c:=vv (λq f=>g d q (dM f)) h;refine{?_,λz=>absurd z a,λ_=>c};have:tJ d lns.length i=d:=by unfold tJ;rw[if_pos b]
   rw[this];exact dM c
  .rw[if_neg b]at h;refine{?_,λz=>absurd z a,λz=>absurd z b};have:tJ d lns.length i=i:=by unfold tJ;rw[if_neg b]
   rw[this];exact vv (g i) h
theorem rg{lns:List (List (Str×Nat))}{d i e:Nat}{ns:List Int}{w:Str}(hd:d<lns.length)(hi:i<lns.length+1)(he:∀l∈lns,∀q∈l,q.2<lns.length)(h:(w,e)∈(dn lns d ns).getD i []):e<lns.length+1:=by
 have a:=(n6 hd hi he h).1
 by_cases z:e=lns.length
 .lia
 .have:tJ d lns.length e=e:=by unfold tJ;rw[if_neg z]
  rw[this]at a;have b:tJ d lns.length i<lns.length:=by unfold tJ;split<;>lia
  have:=he _ (wa8 (getD_some [] b)) _ a;have:e<lns.length:=this
  lia
theorem zi{lns:List (List (Str×Nat))}{d:Nat}{ns:List Int}(hd:d<lns.length)(he:∀l∈lns,∀q∈l,q.2<lns.length):∀(ws:List Str) (i:Nat),i<lns.length+1->gD (dn lns d ns) i ws->gD lns (tJ d lns.length i) ws
 |[],_,_,_=>trivial
 |w::ws,i,hi,⟨e,h,r⟩=>{tJ d lns.length e,(n6 hd hi he h).1,zi hd he ws e (rg hd hi he h) r}
theorem Fa.split{B:Str->List (Str×Str)}{hs:List Str}{lns:List (List (Str×Nat))}{m d:Nat}{F:Str->Str->Str}(D:Fa hs lns m)(C:wD B hs lns)(hl:lns.length=hs.length)(he:∀l∈lns,∀q∈l,q.2<hs.length)(hd:d<hs.length)(I:∀i,i<hs.length->∀q∈lns.getD i [],hs.getD q.2 ""=F (hs.getD i "") q.1)(ns:List Int):Fa (cQ hs d) (dn lns d ns) (m+1):=by
 intro i j f hi b n a r s;have sl:(dn lns d ns).length=lns.length+1:=by unfold dn;rw[wa0,wcx,wa5];rfl
 rw[sl]at hi b;rw[<-hl]at he hd;have H:=λk (hk:k<lns.length+1)=>EH (hs:=hs) (d:=d) (i:=k) (by lia)
 cases f with
 |nil=>cases a
 |cons w f=>
  obtain⟨e,u,o⟩:=r;obtain⟨v,z,p⟩:=s;obtain⟨a1,a2,a3⟩:=n6 hd hi he u;obtain⟨b1,A,E⟩:=n6 hd b he z;have o:=zi hd he f e (rg hd hi he u) o;have p:=zi hd he f v (rg hd b he z) p;rw[H i hi,H j b,<-hl]at n;have lt:∀k,k<lns.length+1->tJ d lns.length k<lns.length:=λk hk=>by unfold tJ;split<;>lia
  have G:=I _ (by have:=lt i hi;lia) _ a1;have J:=I _ (by have:=lt j b;lia) _ b1;have L:=he _ (wa8 (getD_some [] (lt i hi))) _ a1;have M:=he _ (wa8 (getD_some [] (lt j b))) _ b1;have t:=D _ _ f L M (by rw[G,J,n]) (wic a) o p;have t:tJ d lns.length e=tJ d lns.length v:=t;rw[<-t]at b1 A E;have c:=C.one hl (by have:=lt i hi;lia) (by have:=lt j b;lia) n a1 b1
  have hc:∀{q},q∈b7 ns (lns.getD d [])->q∈aY ns (lns.getD d [])->False:=λ{q} x y=>by
   have c1:=wc8.mpr x;have N:=wc8.mpr y;have:=C.cnt hl (by lia:d<hs.length) q;have:=om (λi=>decide ((i:Int)∈ns)) q 0 (lns.getD d []);unfold b7 at c1;unfold aY at N
   lia
  unfold tJ at c
  by_cases h:i=lns.length
  .by_cases g:j=lns.length
   .lia
   .rw[if_pos h,if_neg g]at c;exact(hc (A c.symm) (a3 h)).elim
  .by_cases g:j=lns.length
   .rw[if_neg h,if_pos g]at c;exact(hc (a2 c) (E g)).elim
   .rw[if_neg h,if_neg g]at c;exact c
theorem Ik{lns:List (List (Str×Nat))}{g:List Nat}{m d:Nat}{q:Str×Nat}(h:q∈(f7 lns g m).getD d []):d<g.length:=by
 refine wbD λz=>?_;rw[wa4,wcp (by rw[vi];omega)]at h;cases h
theorem zj{lns:List (List (Str×Nat))}{g:List Nat}{m d e:Nat}{w:Str}(h:(w,e)∈(f7 lns g m).getD d []):e<g.length/\(w,g.getD e 0)∈lns.getD (g.getD d 0) []:=by
 rw[Mm (Ik h)]at h;unfold fG at h;obtain⟨q,b,c⟩:=wab.mp h;obtain⟨f,a⟩:=wau.mp (wbP b);have a:=of_decide_eq_true a;obtain⟨rfl,rfl⟩:=wce c;have hl:=wc7.mpr a;refine{hl,?_};have:g.getD (g.idxOf q.2) 0=q.2:=by rw[wa4,wa1 hl];exact wea hl
 rw[this];exact f
theorem zk{lns:List (List (Str×Nat))}{g:List Nat}{m:Nat}:∀(ws:List Str) (d:Nat),gD (f7 lns g m) d ws->gD lns (g.getD d 0) ws
 |[],_,_=>trivial
 |_::ws,_,⟨e,h,r⟩=>{g.getD e 0,(zj h).2,zk ws e r}
theorem y7:∀{l:List (Str×Nat)},(∀q,l.count q<=1)->l.Nodup
 |[],_=>wdx
 |a::l,h=>by
  refine wbI.mpr {λz=>?_,y7 λq=>wal (List.count_le_count_cons ..) (h q)};have b:=h a;rw[List.count_cons_self]at b;have:=wc8.mpr z
  lia
theorem k8(wl:List (List (Str×Nat))):∀(ts:List Nat) (d:Nat),cH wl d ts=(cat (ez wl d ts),pe wl d ts)
 |[],_=>rfl
 |t::ts,d=>by
  have h:=k8 wl ts (fL wl d t).2;unfold cH at h ⊢;rw[wdQ,show kD wl ("",d) t=(("":Str)++(fL wl d t).1,(fL wl d t).2) from rfl,u5,Ij,h];rfl
theorem Fb{ss:List Str}{a p:Str}(he:("":Str)∈ss)(h:∀s∈ss,s.length<=p.length):lend ss (a++p)=lend ss p:=by
 have key:∀r:Str,∃k,k<=r.length/\lend ss r=bq r k/\bq r k∈ss/\∀m,m<k->bq r m∉ss:=by
  intro r
  have i:∃k,k<=r.length/\bq r k∈ss/\∀m,m<k->bq r m∉ss:=by
   have:∀j,j<=r.length->(∃k,k<=j/\bq r k∈ss)->∃k,k<=j/\bq r k∈ss/\∀m,m<k->bq r m∉ss:=by
    intro j
    induction j with
    |zero=>rintro _ ⟨k,hk,f⟩;exact{k,hk,f,λm d=>absurd d (by lia)}
    |succ j l=>
     rintro v ⟨k,hk,f⟩
     by_cases c:∃k,k<=j/\bq r k∈ss
     .obtain⟨k,a,b⟩:=l (by lia) c;exact{k,by lia,b}
     .exact{k,hk,f,λm d z=>c {m,by lia,z}}
   obtain⟨k,a,b⟩:=this r.length (waa _) {r.length,waa _,by
    have:bq r r.length="":=cF (by rw[eD];exact weo (we2 (aE r)))
    rw[this];exact he}
   exact⟨k,a,b⟩
  obtain⟨k,a,b,c⟩:=i;exact{k,a,by unfold lend;rw[oW b c a],b,c}
 obtain⟨k,w,n,g,o⟩:=key (a++p);obtain⟨m,m1,q,t,u⟩:=key p;rw[n,q];have hd:∀j,bq (a++p) (a.length+j)=bq p j:=λj=>cF (by rw[eD,eD,aX,<-aE a,whT];simp)
 have hk:a.length<=k:=by
  have:=h _ g;rw[<-aE,eD,waW,aE,len_app]at this
  lia
 have e:a.length+m=k:=by
  rcases wfu (a.length+m) k with z |z |z
  .exact absurd (by rw[hd];exact t) (o _ z)
  .exact z
  .have:=hd (k-a.length);rw[show a.length+(k-a.length)=k by lia]at this;exact absurd (by rw[<-this];exact g) (u (k-a.length) (by lia))
 rw[<-e,hd]
theorem ri{many:Int}(m1:1<=many){ts:List Nat}(h:∀t∈ts,(t:Int)<many)(b c:Nat):∀t∈gH b c ts,(t:Int)<many:=λt a=>by
 unfold gH at a;rcases wax.mp a with z |z
 .rw[(wdo.mp z).2];omega
 .rcases wax.mp z with z |z
  .exact h t z
  .rw[(wdo.mp z).2];omega
noncomputable def Wr.o(R:Wr):Str×Nat:=cH R.wl 0 (waj R.b 0)
theorem Fc{ss:List Str}(h:kA bw n b)(hn:1<=n)(g:ss.Perm (bJ bw "" bw)):∀s∈ss,s.length<=n*b:=by
 intro s a;obtain⟨_,M,⟨u,_⟩,e⟩:=h;rcases(iV _).mp (g.mem_iff.mp a) with rfl |⟨w,hw,i,hi,rfl,_⟩
 .exact waq _
 .have d:=u w hw;have f:(bZ w (1+i)).length=min (1+i) w.length:=by rw[<-aE,fI,wad,aE]
  have j:M-1<=(n:Int)*(b:Int):=by
   rw[if_neg ()]at e;have c:=wgD (M-1+(n:Int)-1) (n:Int);have k:=wbh (M-1+(n:Int)-1) (show 0<(n:Int) by omega);rw[<-e]at c;omega
  have l:((n*b:Nat):Int)=(n:Int)*(b:Int):=wb0 ..;omega
theorem gV.put{wl:List (List (Str×Nat))}(h:gV H a wl)(j:H z=some (.ins C d f))(o:HO):gV (upd H z o) a wl:=by
 obtain⟨g,k,m⟩:=h;have n:∀{c u},H c=some u->(∀x y q,u≠.ins x y q)->(upd H z o) c=some u:=λ{c u} e q=>by rw[af (λy=>by rw[y,j]at e;cases e;exact q _ _ _ rfl)];exact e
 refine{g,n k (λ_ _ _ z=>nomatch z),λw=>?_};rcases m w with z |⟨l,p,ps,a,b,c,d⟩
 .exact .inl z
 .exact .inr {l,p,ps,a,n b (λ_ _ _ z=>nomatch z),{c.1,λi r s x y=>n (c.2 i r s x y) (λ_ _ _ z=>nomatch z)},d}
structure dY(H0 H:Hp)(a:Addr)(done:List wF):Prop where
 s:a8 H0 H
 fa:H0 a=none
 ex:∃kvs:List (Key×V),H a=some (.dK kvs)/\kvs.length<=done.length /\
  (∀w:Str,(bC kvs (wak w:Key)=none/\pairsOf done w=[])\/∃(l:Addr) (rs:List Addr),bC kvs (wak w:Key)=some (.ref l)/\H0 l=none/\H l=some (.lst (rs.map V.ref))/\bc H rs ((pairsOf done w).map jd)) /\
  ∀(w v:Str) (l:Addr),bC kvs (wak w:Key)=some (.ref l)->bC kvs (wak v:Key)=some (.ref l)->w=v
theorem bc.app{H:Hp}{rs:List Addr}{g:List (List V)}(h:bc H rs g)(j:H r=some (.tup xs)):bc H (rs++[r]) (g++[xs]):=by
 refine{by rw[wa5,wa5,h.1];rfl,λi q c a b=>?_}
 by_cases z:i<rs.length
 .rw[waA z]at a;rw[waA (by rw[<-h.1];exact z)]at b;exact h.2 i q c a b
 .rw[waB ()]at a;rw[waB (by rw[<-h.1];omega)]at b
  have e:i-rs.length=0:=by
   have:=(wa6.mp a).1;rw[wco]at this;omega
  rw[<-h.1]at b;rw[e]at a b;cases a;cases b;exact j
theorem dY.add{p H:Hp}{done:List wF}{w:Str}{i e:Nat}{l:Addr}{rs:List Addr}{g:List (Key×V)}(s:a8 p H)(fa:p a=none)(hk:H a=some (.dK g))(hl:g.length<=done.length+1)
 (hw:bC g (wak w:Key)=some (.ref l)) (fl:p l=none) (t:H l=some (.lst (rs.map V.ref))) (C:bc H rs ((pairsOf done w).map jd))
 (I:∀v:Str,v≠w->(bC g (wak v:Key)=none/\pairsOf done v=[])\/∃(l:Addr) (rs:List Addr),bC g (wak v:Key)=some (.ref l)/\p l=none/\H l=some (.lst (rs.map V.ref))/\bc H rs ((pairsOf done v).map jd))
 (hi:∀(w v:Str) (l:Addr),bC g (wak w:Key)=some (.ref l)->bC g (wak v:Key)=some (.ref l)->w=v) (j:H r=none) :
 dY p (upd (upd H r (.tup (jd (i,e)))) l (.lst (rs.map V.ref++[.ref r]))) a (done++[(i,w,e)]):=by
 have k:r≠l:=λz=>by rw[z,t]at j;cases j
 have m:a≠l:=λz=>by rw[z,t]at hk;cases hk
 have n:a≠r:=λz=>by rw[z,j]at hk;cases hk
 have c:∀{q:Addr} {d:List V},H q=some (.tup d)->(upd (upd H r (.tup (jd (i,e)))) l (.lst (rs.map V.ref++[.ref r]))) q=some (.tup d):=λ{q d} h=>by
  have n1:q≠l:=λz=>by rw[z,t]at h;cases h
  have f:q≠r:=λz=>by rw[z,j]at h;cases h
  rw[af n1,af f];exact h
 refine{λb o h=>?_,fa,g,by rw[af m,af n];exact hk,by rw[wa5];exact hl,λv=>?_,hi}
 .have n1:b≠l:=λz=>by rw[z,fl]at h;cases h
  have f:b≠r:=λz=>by have:=s _ _ h;rw[z,j]at this;cases this
  rw[af n1,af f];exact s _ _ h
 rw[z6]
 by_cases z:v=w
 .subst z;rw[if_pos rfl];refine .inr {l,rs++[r],hw,fl,by rw[a7,wai];rfl,?_};rw[wai];have B:bc (upd (upd H r (.tup (jd (i,e)))) l (.lst (rs.map V.ref++[.ref r]))) rs ((pairsOf done v).map jd):={C.1,λi q d a b=>c (C.2 i q d a b)};exact bc.app B (by rw[af k,a7])
 .rw[if_neg z];rcases I v z with y |⟨u,x,a1,a2,a3,A⟩
  .exact .inl y
  .have n1:u≠l:=λy=>z (hi v w l (by rw[<-y];exact a1) hw);have f:u≠r:=λy=>by rw[y,j]at a3;cases a3
   exact .inr {u,x,a1,a2,by rw[af n1,af f];exact a3,{A.1,λi q d a b=>c (A.2 i q d a b)}}
theorem Il{g j l:Hp}(s:a8 g j):a8 g (lR g j l):=λc o h=>by
 unfold lR;rw[s _ _ h];exact h
theorem Im{l g j:Hp}:a8 (aL g j) (lR l g j):=λc o h=>by
 unfold aL at h;unfold lR
 cases e:g c with
 |none=>rw[e]at h;exact h
 |some u=>rw[e]at h;cases h
theorem dY.back{g B H:Hp}{done:List wF}(M:dY B H a done)(s:a8 g B):dY g H a done:=by
 obtain⟨h0,fa,b,c,d,e,f⟩:=M;refine{s.trans h0,none_of s fa,b,c,d,λw=>?_,f};rcases e w with z |⟨l,h,a1,a2,a3⟩
 .exact .inl z
 .exact .inr {l,h,a1,none_of s a2,a3}
theorem Fd{wl:List (List (Str×Nat))}{i e:Nat}{w:Str}:(i,w,e)∈dA wl wl.length↔(w,e)∈wl.getD i []:=by
 unfold dA;constructor
 .intro h;obtain⟨d,_,h⟩:=wcH.mp h;obtain⟨q,a,b⟩:=wab.mp h;obtain⟨rfl,c⟩:=wce b;obtain⟨rfl,rfl⟩:=wce c;exact a
 .intro h;refine wcH.mpr {i,wb7.mpr ?_,wab.mpr {(w,e),h,rfl}};refine wbD λz=>?_;rw[wa4,wcp ()]at h;cases h
theorem dY.done{g H:Hp}{wl:List (List (Str×Nat))}(h:dY g H a (dA wl wl.length))(hl:(dA wl wl.length).length<=1000):gV H a wl:=by
 obtain⟨_,_,b,d,m,f,n⟩:=h;refine{b,d,λw=>?_};have c:=λi e=>(Ah (dA wl wl.length) w i e).trans Fd;rcases f w with⟨z,y⟩ |⟨l,j,a1,a2,a3,k⟩
 .refine .inl {z,λi e q=>?_};have:=(c i e).mpr q;rw[y]at this;cases this
 .refine .inr {l,j,_,a1,a3,k,?_,c};unfold pairsOf;rw[wa0];exact wal (wb6 ..) hl
theorem Io{g:Str}:∀(n:Nat) (r:Str),r∈JA g n->∀c∈ch r,c∈ch g
 |0,r,h,c,hc=>by
  rw[wao.mp h]at hc;exact nomatch hc
 |n+1,r,h,c,hc=>by
  obtain⟨p,a,h⟩:=wcH.mp h;obtain⟨d,hd,rfl⟩:=wab.mp h;rw[aX]at hc;rcases wax.mp hc with z |z
  .exact Io n p a c z
  .rw[wao.mp z];exact hd
theorem Mr{bw:List Str}{n b:Nat}(h:kA bw n b)(hw:∀w∈bw,w.length<=5)(hn:1<=n):n*b<=n+3:=by
 obtain⟨_,M,⟨_,a⟩,e⟩:=h
 have d:M<=5:=by
  rcases a with⟨a,_⟩ |⟨w,c,a⟩
  .omega
  .have:=hw w c;omega
 have c:(n:Int)*(((if 0>M-1 then 0 else M-1)+(n:Int)-1)/(n:Int))<=(if 0>M-1 then 0 else M-1)+(n:Int)-1:=Int.mul_ediv_self_le ();rw[<-e]at c;have f:(if 0>M-1 then 0 else M-1)<=4:=by split<;>omega
 have g:((n*b:Nat):Int)=(n:Int)*(b:Int):=wb0 ..;omega
theorem NV{x g:Str}{i c:Nat}(h:∀k∈ch x,k∈ch g)(hc:c∈ch g):∀k∈ch (bZ x i++({#[c]}:Str)++bq x (i+1)),k∈ch g:=λk hk=>by
 rw[aX,aX,fI,eD,Cj]at hk;rcases wax.mp hk with hk |hk
 .rcases wax.mp hk with hk |hk
  .exact h k (wbP hk)
  .rw[wao.mp hk];exact hc
 .exact h k (wgS hk)
section
variable{g:Str}{ws ss:List Str}
theorem NW(n:Nat):∀p,0<=gW g ws ss n p:=by
 induction n with
 |zero=>intro p;show (0:Int)<=1;decide
 |succ n a=>intro p;exact uS λe _=>a e
end
theorem Cy{m j N:Nat}{many wide:Int}{g:Str}{bw ss:List Str}(l:gj m many wide)(b:(j:Int)<=24)(c:gW g bw ss N "" < many^j):(gW g bw ss N "").natAbs.log2<1920:=by
 have h0:0<=gW g bw ss N "":=NW N "";obtain⟨k,hk⟩:∃k:Nat,many=k:={many.toNat,by have:=l.a;lia};have d:k<=8:=by have:=l.b;lia
 rw[hk,<-wdT]at c;have e:k^j<=8^24:=wal (Nat.pow_le_pow_left d j) (wgT ⋯ (by lia))
 have f:(gW g bw ss N "").natAbs<2^72:=by
  grind
 have h:=Nat.log2_lt (n:=(gW g bw ss N "").natAbs) (k:=72)
 by_cases z:(gW g bw ss N "").natAbs=0
 .rw[z];decide
 .grind
end Bs
namespace Sx
inductive KH(vs:List V)(H:Hp)(Q:VK)(dq:XK):Prop
 |mk (a b) (_:vs=[.str a,.str b]) (_:a.length<=1000) (_:∀H',a8 H H'->Q (.bl ((ch a).all λc=>decide (c∈ch b))) H')
inductive QI(vs:List V)(H:Hp)(Q:VK)(dq:XK):Prop
 |mk (x) (_:vs=[.str x]) (_:Aj x) (_:∀H',a8 H H'->Q (.bl true) H')
inductive QJ(vs:List V)(H:Hp)(Q:VK)(dq:XK):Prop
 |mk (t g) (_:vs=[.str t,.str g]) (_:z9 g t) (_:∀H',a8 H H'->Q (.bl true) H')
structure b4(C:Addr)(H:Hp)(x:Addr)(g:Str)(ws ss ls:List Str):Prop where
 ex:∃(dx b d q:Addr) (mv:List (Str×Addr)),H x=some (.ins C dx (Ce g b d q))/\H b=some (.lst (ws.map V.str))/\H d=some (.dK (ck mv))/\mv.map (·.1)=ss/\(∀m∈mv,H m.2=some (.dK (rowOf g ws ss m.1)))/\H q=some (.lst (ls.map V.str))
 pm:ss.Perm (bJ ws "" ws)
 so:wfU ss=true
 lv:Qf ss (rowOf g ws ss) ls
theorem b4.same(B:b4 C H x g ws ss ls)(s:a8 H j):b4 C j x g ws ss ls:=by
 obtain⟨⟨a,b,d,q,c,e,f,h,i,k,n⟩,p,o,l⟩:=B;exact{{a,b,d,q,c,s _ _ e,s _ _ f,s _ _ h,i,λm r=>s _ _ (k m r),s _ _ n},p,o,l}
inductive Ip(C:Addr)(vs:List V)(H:Hp)(Q:VK)(dq:XK):Prop
 |mk (x g ws ss ls) (_:vs=[.ref x]) (_:b4 C H x g ws ss ls) (_:∀(l:Addr) (H':Hp),a8 H H'->H l=none->H' l=some (.lst (ss.map V.str))->Q (.ref l) H')
theorem b4.nd(B:b4 C H x g ws ss ls):ss.Nodup:=B.pm.nodup_iff.mpr (rY ws)
inductive KI(C:Addr)(vs:List V)(H:Hp)(Q:VK)(dq:XK):Prop
 |mk (x g ws ss ls) (_:vs=[.ref x]) (_:b4 C H x g ws ss ls) (_:∀(l:Addr) (H':Hp),a8 H H'->H l=none->H' l=some (.lst (ls.map V.str))->Q (.ref l) H')
inductive U3(C:Addr)(vs:List V)(H:Hp)(Q:VK)(dq:XK):Prop
 |mk (x p g ws ss ls) (_:vs=[.ref x,.str p]) (_:b4 C H x g ws ss ls) (_:p∈ss) (_:Q .non H)
inductive QK(C:Addr)(vs:List V)(H:Hp)(Q:VK)(dq:XK):Prop
 |mk (x p c g ws ss ls) (_:vs=[.ref x,.str p,.str ⟨#[c]⟩]) (_:b4 C H x g ws ss ls) (_:p∈ss) (_:c∈ch g) (_:Q (ua ws ss p c) H)
theorem Fe(h:(eO g)[i]?=some y):∃c,(ch g)[i]?=some c/\y=.str {#[c]}/\i<(ch g).length/\c∈ch g/\(ch g).take (i+1)=(ch g).take i++[c]:=by
 unfold eO at h;rw[wa3]at h
 cases e:(ch g)[i]? with
 |none=>rw[show g.cps.toList[i]?=none from e]at h;cases h
 |some z=>
  rw[show g.cps.toList[i]?=some z from e]at h;exact{z,rfl,(waf h).symm,(wa6.mp e).1,wa8 e,by rw[waM,e];rfl}
theorem Cz(g:Str):(eO g).length=g.length:=by grind [eO,aE]
theorem b4.few(B:b4 C H x g ws ss ls)(hl:ws.length<=6)(hw:∀w∈ws,z9 g w):ss.length<=25:=by
 have:=mX (ws:=ws) (e:="") (us:=ws) λw a=>(hw w a).hi;rw[B.pm.length_eq];lia
inductive CA(C:Addr)(vs:List V)(H:Hp)(Q:VK)(dq:XK):Prop
 |mk (x r g ws ss ls) (_:vs=[.ref x,.str r]) (_:b4 C H x g ws ss ls) (_:(∀c∈ch r,c∈ch g)) (_:∀H',a8 H H'->Q .non H')
inductive CC(C:Addr)(vs:List V)(H:Hp)(Q:VK)(dq:XK):Prop
 |mk (x p g ws ss ls) (_:vs=[.ref x,.str p]) (_:b4 C H x g ws ss ls) (_:p∈ss) (_:g.length<=10) (_:∀(l:Addr) (H':Hp),a8 H H'->H l=none->H' l=some (.lst ((gJ g ws ss p).map V.str))->Q (.ref l) H')
inductive Ff(C:Addr)(vs:List V)(H:Hp)(Q:VK)(dq:XK):Prop
 |mk (x g ws ss ls) (_:vs=[.ref x]) (_:b4 C H x g ws ss ls) (_:g.length<=10) (_:ss.length<=900) (_:∀(d:Addr) (ev:List (Str×Addr)) (H':Hp),a8 H H'->H d=none->H' d=some (.dK (ck ev))->ev.map (·.1)=ss->(∀m∈ev,H' m.2=some (.lst ((gJ g ws ss m.1).map V.str)))->(∀m∈ev,H m.2=none)->Q (.ref d) H')
inductive KJ(C:Addr)(vs:List V)(H:Hp)(Q:VK)(dq:XK):Prop
 |mk (x n g ws ss ls) (_:vs=[.ref x,.int n]) (_:b4 C H x g ws ss ls) (_:g.length<=10) (_:ss.length<=900) (_:0<=n) (_:n<=100000) (_:∀(l:Addr) (ts:List Addr) (H':Hp),a8 H H'->H l=none->H' l=some (.lst (ts.map V.ref))->ts.length=n.toNat+1->(∀i t,ts[i]?=some t->H' t=some (.dK (NU g ws ss i)))->Q (.ref l) H')
inductive KL(C:Addr)(vs:List V)(H:Hp)(Q:VK)(dq:XK):Prop
 |mk (x n g ws ss ls) (_:vs=[.ref x,.int n]) (_:b4 C H x g ws ss ls) (_:g.length<=10) (_:ss.length<=900) (_:0<=n) (_:n<=100000) (_:∀H',a8 H H'->Q (.int (gW g ws ss n.toNat "")) H')
inductive Fg(C:Addr)(vs:List V)(H:Hp)(Q:VK)(dq:XK):Prop
 |mk (x n g ws ss ls) (_:vs=[.ref x,.int n]) (_:b4 C H x g ws ss ls) (_:g.length<=10) (_:0<=n) (_:n<=10) (_:Q (.int ((g.length:Int)^n.toNat)) H)
inductive Ay(C:Addr)(vs:List V)(H:Hp)(Q:VK)(dq:XK):Prop
 |mk (x many wide g ws ss ls) (_:vs=[.ref x,.int many,.int wide]) (_:b4 C H x g ws ss ls) (_:g.length<=10) (_:gj g.length many wide) (_:Q (.bl true) H)
inductive U4(C:Addr)(vs:List V)(H:Hp)(Q:VK)(dq:XK):Prop
 |mk (x p g ws ss ls) (_:vs=[.ref x,.str p]) (_:b4 C H x g ws ss ls) (_:p∈ls) (_:Q .non H)
inductive Iq(C:Addr)(vs:List V)(H:Hp)(Q:VK)(dq:XK):Prop
 |mk (x l rs qs g ws ss ls) (_:vs=[.ref x,.ref l]) (_:b4 C H x g ws ss ls) (_:eu H l rs qs) (_:(∀q∈qs,q.2∈ss/\q.1.length<=100)) (_:qs.length<=100) (_:g.length<=10) (_:∀(l':Addr) (Sa:List Addr) (H':Hp),a8 H H'->H l'=none->eu H' l' Sa (fJ g ws ss qs)->Q (.ref l') H')
inductive Ir(C:Addr)(vs:List V)(H:Hp)(Q:VK)(dq:XK):Prop
 |mk (x:Addr) (p:Str) (n:Nat) (g:Str) (ws ss ls:List Str) (_:vs=[.ref x,.str p,.int (n:Int)]) (_:b4 C H x g ws ss ls) (_:p∈ls) (_:g.length^n<=100) (_:n<=10) (_:2<=g.length) (_:g.length<=10) (_:∀(l':Addr) (Sa:List Addr) (H':Hp),a8 H H'->H l'=none->eu H' l' Sa (aU g ws ss ls n p)->Q (.ref l') H')
inductive Az(C:Addr)(vs:List V)(H:Hp)(Q:VK)(dq:XK):Prop
 |mk (x:Addr) (n:Nat) (g:Str) (ws ss ls:List Str) (_:vs=[.ref x,.int (n:Int)]) (_:b4 C H x g ws ss ls) (_:g.length^n<=100) (_:n<=10) (_:2<=g.length) (_:g.length<=10) (_:ss.length<=900) (_:∀(d:Addr) (ev:List (Str×Addr)) (H':Hp),a8 H H'->H d=none->H' d=some (.dK (ck ev))->ev.map (·.1)=ls->(∀m∈ev,H' m.2=some (.lst (((aU g ws ss ls n m.1).map (·.2)).map V.str)))->(∀m∈ev,H m.2=none)->Q (.ref d) H')
inductive Iu(C:Addr)(vs:List V)(H:Hp)(Q:VK)(dq:XK):Prop
 |mk (x p n g ws ss ls) (_:vs=[.ref x,.str p,.int n]) (_:b4 C H x g ws ss ls) (_:p∈ss) (_:g.length<=10) (_:ss.length<=900) (_:0<=n) (_:n<=100000) (_:∀H',a8 H H'->Q (.int (gW g ws ss n.toNat p)) H')
inductive Fh(vs:List V)(H:Hp)(Q:VK)(dq:XK):Prop
 |mk (de dw many n o ev f g ws ss ls) (_:vs=[.ref de,.int many,.ref dw]) (_:H de=some (.frz o (.dK (ck ev)))) (_:ev.map (·.1)=ls) (_:(∀m∈ev,H m.2=some (.lst (((aU g ws ss ls n m.1).map (·.2)).map V.str)))) (_:g.length^n<=100) (_:ls.Nodup) (_:ls.length<=900) (_:2<=many) (_:many<=8) (_:Rd H dw (.dK (bH (cy f ls)))) (_:∀(d:Addr) (H':Hp),a8 H H'->H d=none->H' d=some (.dK (bH (cy (lV g ws ss ls many n f) ls)))->Q (.ref d) H')
structure nu(g:Str)(ws ss ls:List Str)(many:Int)(n:Nat)(most:Int)(f:Str->Int):Prop where
 nn:∀p∈ls,0<=f p
 le:∀p∈ls,f p<=most
 fit:G9 g ws ss ls many n f
 top:∀h:Str->Int,(∀p∈ls,h p<=most)->G9 g ws ss ls many n h->∀p∈ls,h p<=f p
inductive KM(C:Addr)(vs:List V)(H:Hp)(Q:VK)(dq:XK):Prop
 |mk (x:Addr) (many:Int) (n:Nat) (most:Int) (g:Str) (ws ss ls:List Str) (_:vs=[.ref x,.int many,.int (n:Int),.int most]) (_:b4 C H x g ws ss ls) (_:2<=g.length) (_:g.length<=10) (_:ss.length<=900) (_:gj g.length many n) (_:0<=most) (_:∀(d:Addr) (f:Str->Int) (H':Hp),a8 H H'->H d=none->H' d=some (.dK (bH (cy f ls)))->nu g ws ss ls many n most f->Q (.ref d) H')
set_option genInjectivity true in
inductive Sb(g:Str)(ws ss:List Str)(many:Int)(n:Nat)(most:Int):V->Prop where
 |some (k:Nat) (a:1<=k) (b:(k:Int)<=most) (c:gW g ws ss (k*n) "" < many^k) (d:∀j:Nat,1<=j->j<k->¬gW g ws ss (j*n) "" < many^j):Sb g ws ss many n most (.int (k:Nat))
 |none (a:∀j:Nat,1<=j->(j:Int)<=most->¬gW g ws ss (j*n) "" < many^j):Sb g ws ss many n most .non
inductive Fi(C:Addr)(vs:List V)(H:Hp)(Q:VK)(dq:XK):Prop
 |mk (x many wide most g ws ss ls) (_:vs=[.ref x,.int many,.int wide,.int most]) (_:b4 C H x g ws ss ls) (_:g.length<=10) (_:ss.length<=900) (_:gj g.length many wide) (_:0<=most) (_:most<=100) (_:∀v H',a8 H H'->Sb g ws ss many wide.toNat most v->Q v H')
inductive Iv(K:wa2)(vs:List V)(H:Hp)(Q:VK)(dq:XK):Prop
 |mk (r a ws) (_:vs=[.str r,.ref a]) (_:aH K H a (ws.map V.str)) (_:ws.length<=1000) (_:∀H',a8 H H'->Q (.bl (!bears ws r)) H')
inductive KN(K:wa2)(vs:List V)(H:Hp)(Q:VK)(dq:XK):Prop
 |mk (a:Addr) (ns:List Int) (_:vs=[.ref a]) (_:aH K H a (ns.map V.int)) (_:∀(p lw:Addr) (g:Str) (ws:List Str) (H':Hp),a8 H H'->H p=none->H lw=none->H' p=some (.tup [.str g,.ref lw])->H' lw=some (.lst (ws.map V.str))->Aj g->ws.length<=6->(∀w∈ws,z9 g w)->Q (.ref p) H')
inductive NX(K:wa2)(vs:List V)(H:Hp)(Q:VK)(dq:XK):Prop
 |mk (r a ws ss) (_:vs=[.str r,.ref a]) (_:aH K H a (ws.map V.str)) (_:ss.Perm (bJ ws "" ws)) (_:(∀w∈ws,w.length<=5)) (_:ws.length<=100) (_:bears ws r=false) (_:r.length<=1000) (_:∀H',a8 H H'->Q (.str (lend ss r)) H')
inductive Iw(K:wa2)(vs:List V)(H:Hp)(Q:VK)(dq:XK):Prop
 |mk (v qs) (_:vs=[v]) (_:bK K H (bV qs) v) (_:qs.length<=10000) (_:∀y H',a8 H H'->bK K (aL H H') (bV qs) y->Q y H')
inductive Iy(K:wa2)(C:Addr)(vs:List V)(H:Hp)(Q:VK)(dq:XK):Prop
 |mk (x dx u v w hs ws lns) (_:vs=[.ref x,u,v,w]) (_:H x=some (.ins C dx [])) (_:bK K H (se hs) u) (_:bK K H (nr ws) v) (_:bK K H (jY lns) w) (_:hs.length<=10000) (_:ws.length<=10000) (_:lns.length<=10000) (_:(∀l∈lns,l.length<=10000)) (_:∀a b c H',H' x=some (.ins C dx (BZ a b c))->bK K (aL H H') (se hs) (.ref a)->bK K (aL H H') (nr ws) (.ref b)->bK K (aL H H') (jY lns) (.ref c)->(∀b o,H b=some o->b≠x->H' b=some o)->Q .non H')
inductive KO(K:wa2)(C CS:Addr)(vs:List V)(H:Hp)(Q:VK)(dq:XK):Prop
 |mk (x d:Addr) (many:Int) (n:Nat) (m:List (Str×Int)) (f:Str->Int) (g:Str) (ws ss ls:List Str) (_:vs=[.ref x,.int many,.int (n:Int),.ref d]) (_:b4 C H x g ws ss ls) (_:2<=g.length) (_:g.length<=10) (_:ss.length<=900) (_:gj g.length many n) (_:Rd H d (.dK (bH m))) (_:Np m ls f) (_:∀(y:Addr) (H':Hp),a8 H H'->cb K CS (aL H H') y (av ls f) ((av ls f).map f) (bD g ws ss ls n (av ls f))->Q (.ref y) H')
inductive NY(K:wa2)(CS CN:Addr)(vs:List V)(H:Hp)(Q:VK)(E:XK):Prop
 |mk (x many v w hs ws lns qs) (_:vs=[.ref x,.int many,v,.int w]) (_:cb K CS H x hs ws lns) (_:bK K H (bV qs) v) (_:qs.length<=10000) (_:(∀q∈qs,q.2<ws.length)) (_:0<=many) (_:many<=1000) (_:((eS ws many qs w=true/\∀H',a8 H H'->Q .non H')\/(eS ws many qs w=false/\∀H',a8 H H'->E (.ref CN) none H')))
inductive KP(K:wa2)(vs:List V)(H:Hp)(Q:VK)(dq:XK):Prop
 |mk (v:V) (d t:Nat) (qs:List (Str×Nat)) (_:vs=[v,.int (d:Int),.int (t:Int)]) (_:bK K H (bV qs) v) (_:qs.length<=5000) (_:∀y H',a8 H H'->bK K (aL H H') (bV (eJ d t qs)) y->Q y H')
inductive KQ(K:wa2)(CS CN:Addr)(vs:List V)(H:Hp)(Q:VK)(E:XK):Prop
 |mk (x a many tI w ns hs ws lns) (_:vs=[.ref x,.int many,.int tI,.ref a,.int w]) (_:cb K CS H x hs ws lns) (_:aH K H a (ns.map V.int)) (_:ns.length<=10000) (_:Mh hs ws lns) (_:0<=many) (_:many<=1000) (_:((dW ws lns many tI ns w=true/\∀y H',a8 H H'->cb K CS (aL H H') y (cQ hs tI.toNat) (cw ws tI.toNat w) (dn lns tI.toNat ns)->Q (.ref y) H')\/(dW ws lns many tI ns w=false/\∀H',a8 H H'->E (.ref CN) none H')))
inductive NZ(K:wa2)(vs:List V)(H:Hp)(Q:VK)(dq:XK):Prop
 |mk (v a ds qs) (_:vs=[v,.ref a]) (_:bK K H (bV qs) v) (_:aH K H a ((nI ds).map V.int)) (_:qs.length<=10000) (_:∀y H',a8 H H'->bK K (aL H H') (bV (cR ds qs)) y->Q y H')
inductive O0(K:wa2)(C:Addr)(vs:List V)(H:Hp)(Q:VK)(dq:XK):Prop
 |mk (x hs ws lns) (_:vs=[.ref x]) (_:cb K C H x hs ws lns) (_:ws.length=lns.length) (_:(∀l∈lns,∀q∈l,q.2<ws.length)) (_:ws≠[]) (_:(∀h∈ws,(∀w∈ws,w<=h)->∃d i qs q,Down ws lns h d i qs q)) (_:∀(t:Addr) (h:Int) (d i:Nat) (qs:List (Str×Nat)) (q:Str×Nat) (H':Hp),a8 H H'->H' t=some (.tup [.int (d:Int),.int (i:Int)])->Down ws lns h d i qs q->Q (.ref t) H')
inductive QL(K:wa2)(vs:List V)(H:Hp)(Q:VK)(dq:XK):Prop
 |mk (a b:Addr) (many:Int) (wl:List Int) (nums:List Nat) (_:vs=[.ref a,.ref b,.int many]) (_:aH K H a (wl.map V.int)) (_:aH K H b ((nI nums).map V.int)) (_:1<=many) (_:many<=1000) (_:(nums.length:Int)=many) (_:(∀n∈nums,n<wl.length)) (_:∀(l:Addr) (i j:Nat) (H':Hp),a8 H H'->H l=none->i<j->j<=nums.length->(((nums.take j).drop i).map λn=>wl.getD n 0).sum%many=0->H' l=some (.lst ((nI ((nums.take j).drop i)).map V.int))->Q (.ref l) H')
inductive Iz(C:Addr)(vs:List V)(H:Hp)(Q:VK)(dq:XK):Prop
 |mk (x d:Addr) (many:Int) (n:Nat) (f:Str->Int) (g:Str) (ws ss ls:List Str) (_:vs=[.ref x,.int many,.int (n:Int),.ref d]) (_:b4 C H x g ws ss ls) (_:(∀w∈ws,1<=w.length)) (_:(ch g).Nodup) (_:2<=g.length) (_:g.length<=10) (_:ss.length<=900) (_:gj g.length many n) (_:H d=some (.dK (bH (cy f ls)))) (_:(∀p∈ls,0<=f p)) (_:G9 g ws ss ls many n f) (_:0<(ls.map f).sum) (_:∀(dl:Addr) (f':Str->Int) (H':Hp),(∀c o,H c=some o->c≠d->H' c=some o)->H dl=none->H' dl=some (.dK (bH (cy f' ls)))->(∀p∈ls,0<=f' p)->G9 g ws ss ls many n f'->0<(ls.map f').sum->(∀p∈ls,f' p<=f p)->(ls.map f').sum<=(ls.map f).sum->Q (.ref dl) H')
inductive IA(K:wa2)(C:Addr)(vs:List V)(H:Hp)(Q:VK)(dq:XK):Prop
 |mk (x hs ws lns) (_:vs=[.ref x]) (_:cb K C H x hs ws lns) (_:hs.length<=10000) (_:ws.length<=10000) (_:lns.length<=10000) (_:(∀l∈lns,l.length<=10000)) (_:∀y H',a8 H H'->cb K C (aL H H') y hs ws lns->Q (.ref y) H')
inductive KR(K:wa2)(C CS:Addr)(vs:List V)(H:Hp)(Q:VK)(dq:XK):Prop
 |mk (x dx d z:Addr) (u v:V) (m:List (Str×Int)) (qB:List z4) (ks:List Nat) (hs:List Str) (ws:List Int) (lns:List (List (Str×Nat))) (_:vs=[.ref x,.ref d,u,v,.ref z]) (_:H x=some (.ins C dx [])) (_:Rd H d (.dK (bH m))) (_:bK K H (.lst (qB.map zh)) u) (_:bK K H (nr (nI ks)) v) (_:cb K CS H z hs ws lns) (_:hs.length<=10000) (_:ws.length<=10000) (_:lns.length<=10000) (_:(∀l∈lns,l.length<=10000)) (_:qB.length<=10000) (_:∀a b c y H',H' x=some (.ins C dx (ve a b c y))->H a=none->H' a=some (.dK (bH m))->bK K (aL H H') (.lst (qB.map zh)) (.ref b)->bK K (aL H H') (nr (nI ks)) (.ref c)->cb K CS (aL H H') y hs ws lns->(∀b o,H b=some o->b≠x->H' b=some o)->Q .non H')
inductive Fj(K:wa2)(C CS:Addr)(vs:List V)(H:Hp)(Q:VK)(dq:XK):Prop
 |mk (x m qB ks hs ws lns) (_:vs=[.ref x]) (_:ow K C CS H x m qB ks hs ws lns) (_:hs.length<=10000) (_:ws.length<=10000) (_:lns.length<=10000) (_:(∀l∈lns,l.length<=10000)) (_:∀y H',a8 H H'->cb K CS (aL H H') y hs ws lns->Q (.ref y) H')
def U5(CX:Addr)(g:Str)(bw ss:List Str)(many:Int)(n:Nat)(H:Hp)(E:XK):Prop:=∀(k:Nat) (d:Addr) (H':Hp),Sb g bw ss many n 24 (.int (k:Nat))->a8 H H'->H d=none->H' d=some (.xd [("length",.int (k:Nat)),("rows",.int (gW g bw ss (k*n) ""))])->E (.ref CX) (some d) H'
inductive KS(C CX:Addr)(vs:List V)(H:Hp)(Q:VK)(E:XK):Prop
 |mk (x:Addr) (many:Int) (n:Nat) (g:Str) (bw ss ls:List Str) (_:vs=[.ref x,.int many,.int (n:Int)]) (_:b4 C H x g bw ss ls) (_:g.length<=10) (_:ss.length<=900) (_:gj g.length many n) (_:(F9 g bw ss many n->∀H',a8 H H'->Q .non H')) (_:U5 CX g bw ss many n H E)
inductive KU(K:wa2)(vs:List V)(H:Hp)(Q:VK)(dq:XK):Prop
 |mk (v b many ks qs) (_:vs=[v,.ref b,.int many]) (_:bK K H (bV qs) v) (_:aH K H b ((nI ks).map V.int)) (_:ks.length<=1000) (_:qs.length<=10000) (_:0<=many) (_:∀y H',a8 H H'->bK K (aL H H') (bV (fG ks many.toNat qs)) y->Q y H')
inductive KW(C:Addr)(vs:List V)(H:Hp)(Q:VK)(dq:XK):Prop
 |mk (x g bw ss ls) (_:vs=[.ref x]) (_:b4 C H x g bw ss ls) (_:bw.length<=1000) (_:(∀w∈bw,w.length<=1000)) (_:∀(M:Int) (H':Hp),a8 H H'->HC bw M->Q (.int M) H')
inductive IB(C:Addr)(vs:List V)(H:Hp)(Q:VK)(dq:XK):Prop
 |mk (x:Addr) (n:Nat) (g:Str) (bw ss ls:List Str) (_:vs=[.ref x,.int (n:Int)]) (_:b4 C H x g bw ss ls) (_:1<=n) (_:n<=10) (_:(∀w∈bw,w.length<=900)) (_:bw.length<=1000) (_:∀(b:Nat) (H':Hp),a8 H H'->kA bw n b->Q (.int (b:Int)) H')
inductive IC(C CB:Addr)(vs:List V)(H:Hp)(Q:VK)(dq:XK):Prop
 |mk (x xb dx:Addr) (fs:List (Str×V)) (n:Nat) (g:Str) (bw ss ls:List Str) (_:vs=[.ref x]) (_:H x=some (.ins C dx fs)) (_:fs.lookup ("band":Str)=some (.ref xb)) (_:fs.lookup ("wide":Str)=some (.int (n:Int))) (_:b4 CB H xb g bw ss ls) (_:1<=n) (_:n<=10) (_:(∀w∈bw,w.length<=900)) (_:bw.length<=1000) (_:∀(b:Nat) (H':Hp),a8 H H'->kA bw n b->Q (.int (b:Int)) H')
noncomputable def KY(wl:List (List (Str×Nat)))(b c:Nat)(ts:List Nat):Str:=(cH wl 0 (waj b 0)).1++(cH wl (cH wl 0 (waj b 0)).2 (ts++waj c 0)).1
section
variable{w:World}{K:wa2}
inductive KZ(K:wa2)(vs:List V)(H:Hp)(Q:VK)(dq:XK):Prop
 |mk (r a ws) (_:vs=[.str r,.ref a]) (_:aH K H a (ws.map V.str)) (_:ws.length<=1000) (_:∀H',a8 H H'->Q (.bl (bears ws r)) H')
inductive L1(K:wa2)(vs:List V)(H:Hp)(Q:VK)(dq:XK):Prop
 |mk (a:Addr) (g:Str) (ws:List Str) (_:vs=[.ref a,.str g]) (_:aH K H a (ws.map V.str)) (_:ws.length<=6) (_:(∀w∈ws,z9 g w)) (_:∀H',a8 H H'->Q .non H')
inductive IE(K:wa2)(vs:List V)(H:Hp)(Q:VK)(dq:XK):Prop
 |mk (a ws) (_:vs=[.ref a]) (_:aH K H a (ws.map V.str)) (_:ws.length<=6) (_:(∀w∈ws,w.length<=5)) (_:∀(l:Addr) (ss:List Str) (H':Hp),a8 H H'->H l=none->H' l=some (.lst (ss.map V.str))->ss.Perm (bJ ws "" ws)->wfU ss=true->Q (.ref l) H')
inductive L4(K:wa2)(vs:List V)(H:Hp)(Q:VK)(dq:XK):Prop
 |mk (p g a b ws ps) (_:vs=[.str p,.str g,.ref a,.ref b]) (_:aH K H a (ws.map V.str)) (_:aH K H b (ps.map V.str)) (_:("":Str)∈ps) (_:p.length<=100) (_:g.length<=10) (_:(ch g).Nodup) (_:ws.length<=1000) (_:∀(d:Addr) (H':Hp),a8 H H'->H d=none->H' d=some (.dK (rowOf g ws ps p))->Q (.ref d) H')
inductive O1(K:wa2)(C:Addr)(vs:List V)(H:Hp)(Q:VK)(dq:XK):Prop
 |mk (x dx g a ws) (_:vs=[.ref x,.str g,.ref a]) (_:H x=some (.ins C dx [])) (_:aH K H a (ws.map V.str)) (_:Aj g) (_:ws.length<=6) (_:(∀w∈ws,z9 g w)) (_:∀(ss ls:List Str) (H':Hp),b4 C H' x g ws ss ls->(∀b o,H b=some o->b≠x->H' b=some o)->Q .non H')
theorem Fl(hw:∀w∈ws,w.length<=5):∀k∈bJ ws "" ws,k.length<=5:=by
 have h1:∀(w:Str),w.length<=5->∀(n:Nat) (ks:List Str),(∀k∈ks,k.length<=5)->∀k∈upTo ws w ks n,k.length<=5:=by
  intro w zm n
  induction n with
  |zero=>intro ks h;exact h
  |succ n ih=>
   intro ks h k hk;rw[gk]at hk;unfold qV za at hk;split at hk
   .exact ih ks h k hk
   .split at hk
    .exact ih ks h k hk
    .rcases wax.mp hk with z |z
     .exact ih ks h k z
     .have:k=bZ w (1+n):=by simpa using z
      rw[this];exact wal (EL _ _) zm
 have h2:∀(us ks:List Str),(∀w∈us,w.length<=5)->(∀k∈ks,k.length<=5)->∀k∈us.foldl (addW ws) ks,k.length<=5:=by
  intro us
  induction us with
  |nil=>intro ks _ h;exact h
  |cons w us ih=>intro ks hu h;exact ih _ (λv hv=>hu v (wac _ hv)) (h1 w (hu w (wag ..)) _ ks h)
 exact h2 ws [""] hw (λk hk=>by have:k="":=by simpa using hk
                                subst this
                                decide+kernel)
inductive Fm(C:Addr)(vs:List V)(H:Hp)(Q:VK)(dq:XK):Prop
 |mk (x r g ws ss ls) (_:vs=[.ref x,.str r]) (_:b4 C H x g ws ss ls) (_:(∀c∈ch r,c∈ch g)) (_:bears ws r=false) (_:(∀w∈ws,1<=w.length)) (_:∀H',a8 H H'->Q (.str (lend ss r)) H')
end
end Sx
namespace L2
open PySem.Spec PyProof.Rows
section
variable{X:Cx}
theorem ib{ss:List Str}(nd:ss.Nodup){i:Nat}{p:Str}(h:ss[i]?=some p):p∉ss.take i:=by
 intro b;obtain⟨j,c,a⟩:=weW.mp b;rw[wfv]at a;rw[wad]at c;have d:=(wa6.mp h).2;have:=(wcm nd).mp (a.trans d.symm)
 lia
theorem bc.same(t:bc H rs g)(s:a8 H j):bc j rs g:=t.keep λr a h=>s _ _ h
theorem Fn{K:wa2}{J:It}{Ok:Hp->Prop}{rs:List Addr}{prs:List (V×V)}{l:Addr}{C:St}{tt:TT}{te:TE}{H:Hp}{Q:Hp->Prop}(p:V×V->Bool)(g:V×V->List V)(U:lB J Ok (rs.map V.ref))(hT:bc H rs (prs.map iE))(hl:H l=none)(hz:rs.length<=sizeLine)(I:∀j,a8 H j->Ok j)
 (ht:∀q t T,q∈prs->a8 H t->(∀j,a8 t j->T (p q) j)->tt (some q.1::some q.2::C) t T)
 (he:∀q t T,q∈prs->p q=true->a8 H t->(∀r j,a8 t j->j r=some (.tup (g q))->T (.ref r) j)->te (some q.1::some q.2::C) t T)
 (hd:∀ys j,a8 H j->j l=some (.lst (ys.map V.ref))->bc j ys ((prs.filter p).map g)->Q j):jL K J l C tt te H Q:=by
 have h:rs.length=prs.length:=by rw[hT.1,wa0]
 refine{λi m B d=>m=rs.length-i/\i<=rs.length/\a8 H d/\∃ys:List Addr,B=ys.map V.ref/\d l=some (.lst (ys.map V.ref))/\bc d ys (((prs.take i).filter p).map g),{rs.length,by simp,waq _,a8.upd hl,[],rfl,a7,by simpa using bc.nil _},?_};rintro i m B d ⟨rfl,hi,c,ys,rfl,k,n⟩;refine{k,?_}
 by_cases a:i<rs.length
 .refine .inr {U.go i d (I _ c) (by rw[wa0];exact a),?_,λx t y=>?_}
  .rw[wa0,n.1,wa0];refine wbg (wb6 _ _) ?_;rw[wad];omega
  .obtain⟨e,D⟩:=U.tS i d x t (I _ c) (by rw[wa0];exact a) y;subst e;have E:prs[i]?=some prs[i]:=wa1 ();have G:rs[i]?=some rs[i]:=wa1 a;rw[wa3,G]at D;obtain rfl:V.ref rs[i]=x:=waf D;have mem:prs[i]∈prs:=waK _;have L:prs.take (i+1)=prs.take i++[prs[i]]:=by rw[waM,E];rfl
   refine{rs[i],prs[i].1,prs[i].2,rfl,g8.of (c _ _ (hT.2 i rs[i] _ G (by rw[wa3,E];rfl))),ht prs[i] _ _ mem c λN f=>?_}
   cases u:p prs[i] with
   |false=>
    rw[if_neg wan];refine{rs.length-(i+1),(),rfl,a,c.trans f,ys,rfl,f _ _ k,?_}
    have e:((prs.take (i+1)).filter p).map g=((prs.take i).filter p).map g:=by
     rw[L,wbB];simp[u]
    rw[e];exact n.same f
   |true=>
    rw[if_pos rfl];refine he prs[i] _ _ mem u (c.trans f) λr O s v=>{s _ _ (f _ _ k),rs.length-(i+1),(),rfl,a,λb o e=>?_,ys++[r],by rw[wai];rfl,by rw[a7,wai];rfl,?_}
    .rw[af (ag e hl)];exact s _ _ (f _ _ (c _ _ e))
    .have e:((prs.take (i+1)).filter p).map g=((prs.take i).filter p).map g++[g prs[i]]:=by
      rw[L,wbB];simp[u]
     rw[e];have w:=s _ _ (f _ _ k);refine bc.keep ((n.same (f.trans s)).snoc v) λR M A=>?_;rw[af (λz=>by rw[z,w]at A;cases A)];exact A
 .have e:i=rs.length:=();subst e;refine .inl {?_,hd ys d c k ?_}
  .have:=U.stop d (I _ c);rwa[wa0]at this
  .rw[h,waH]at n;exact n
theorem Rd.same(h:Rd H a u)(s:a8 H g):Rd g a u:=by
 rcases h with h |⟨o,h⟩
 .exact .inl (s _ _ h)
 .exact .inr {o,s _ _ h}
theorem IG(e:Nat)(rs:List Nat):∃g,putK (dB rs) (wb4 (e:Int):Key) (.bl true)=dB g/\(∀x,x∈g↔x∈rs\/x=e)/\g.length<=rs.length+1:=by
 by_cases h:e∈rs
 .refine{rs,?_,λx=>{.inl,λz=>z.elim id λz=>z ▸ h},wbR _};unfold putK;rw[if_pos (show ((dB rs).any λb=>decide (b.1=(wb4 (e:Int):Key)))=true from wbN.mpr {((wb4 (e:Int):Key),V.bl true),wab.mpr ⟨e,h,rfl⟩,decide_eq_true rfl})];refine(waX λb a=>?_).trans (List.map_id _);obtain⟨n,_,rfl⟩:=wab.mp a;show (if _ then _ else _)=_;split<;>rfl
 .exact{rs++[e],Hr h,λx=>by rw[wax,wao],by rw[wa5];exact waa _}
theorem L5{K:wa2}{a b:Addr}{xs ys:List V}{g:TG}{C:TS}{D:Ends}{σ:St}{H:Hp}(e:xs.length=ys.length)(Pv:Nat->St->Hp->Prop)(h0:Pv 0 σ H)(hl:∀i σ H,i<=xs.length->Pv i σ H->aH K H a xs/\aH K H b ys)
 (hs:∀i x y σ H T,xs[i]?=some x->ys[i]?=some y->Pv i σ H->H T=none->g (.ref T) σ (upd H T (.tup [x,y])) λj t=>C (D.lp (Pv (i+1))) j t) (hd:∀σ H,Pv xs.length σ H->D.nx σ H) :
 ∃W:Nat->Nat->St->Hp->Prop,(∃m,W 0 m σ H)/\∀i m σ H,W i m σ H ->
  ((PX K a b).stop i H/\D.nx σ H)\/((PX K a b).go i H/\∃N:St->Hp->Prop,(∀l r,N l r->∃I,I<m/\W (i+1) I l r)/\∀x r,(PX K a b).tS i H x r->g x σ r λj t=>C (D.lp N) j t):=by
 refine{λi m σ H=>m=xs.length-i/\i<=xs.length/\Pv i σ H,{xs.length,by simp,waq _,h0},?_};rintro i m σ H ⟨rfl,hi,p⟩;have q:=hl i σ H hi p
 by_cases c:i<xs.length
 .have d:i<ys.length:=();refine .inr {{xs,ys,xs[i],ys[i],q.1,q.2,by simp[c],by simp[d]},Pv (i+1),λl r f=>{xs.length-(i+1),(),rfl,c,f},λx r y=>?_};obtain⟨T,x,z,h,k,n,o,s⟩:=y;subst k n;exact hs i x z σ _ T (o xs q.1) (s ys q.2) p h
 .have e:i=xs.length:=();subst e;exact .inl {{xs,ys,q.1,q.2,.inl (waa _)},hd σ H p}
theorem Fo{K:wa2}(t:X.K=K)(hc:X.calm=true):dH X (.type "set") (λxs H Q=>∃l g,xs=[.ref l]/\aH K H l (wcZ V.int g)/\g.length<=1000/\∀p,H p=none->Q (.ref p) (upd H p (Gv X.prog X.w p (firstMet (λi=>g.getD i 0) g.length).length))):=by
 subst t;intro j s σ H xs C Q I r h;obtain⟨l,g,rfl,n,D,q⟩:=h;obtain⟨u,rfl,v⟩:=vals1 r;cases v;obtain⟨c,m,pl,_⟩:=I.list n;have a:=m.length;rw[wa0]at a;refine call_set_list (I.ok.hd hc) pl.isList (ns:=g) (by simpa using zU m) (by simp;unfold wdk;omega) λx y d kp=>?_;have f:∀b o,s.heap.get? b=some o->x.get? b=some o:=λb o e=>kp b o (wae e) e;rw[show c.toArray.size=g.length by simp[a]]at d;refine{.ref s.heap.objs.size,_,I.laid (t':=y) (o:=Gv X.prog X.w s.heap.objs.size (firstMet (λi=>g.getD i 0) g.length).length) f (waa _) {{_,d},?_,?_},rfl,q _ (I.b9.fresh (waa _))}
 .obtain⟨o,_,_,_,e,_⟩:=d;exact⟨o,e⟩
 .rintro E G ⟨S,o,z,A,B,e,rest⟩ k;exact{S,o,z,A,B,k o e,rest}
theorem zo:dH X (.builtin "len") (λxs H Q=>∃p n,xs=[.ref p]/\H p=some (Gv X.prog X.w p n)/\Q (.int n) H):=by
 intro b s σ H xs g Q I r h;obtain⟨p,n,rfl,c,q⟩:=h;obtain⟨u,rfl,d⟩:=vals1 r;cases d;obtain⟨⟨S,o,i,j,k,e,hex,hd,_,_,f,a,hn⟩,_⟩:=(show bU X.prog X.w H s.heap p (Gv X.prog X.w p n) from I.b9 p _ c);refine call_len_set e hex hd a (by grind [wdk]) {.int n,H,I.tok _,{s.toks+1,?_},q};rw[hn]
end
section
variable{X:Cx}{H:Hp}{scope:wd3}{x x2 x3:Str}{ys:List Str}{ix:List Nat}{cl:List (Str×Addr)}{L:Addr}
theorem AA(hc:X.calm=true)(B:bS X scope x ys ix)(g:bS X scope x2 ys ix)(j:x≠x2)(cl L s H ex pn):PG (bG X scope ([x,x2]++ys) cl L s H ex pn) (.Tuple [.Name x p,.Name x2 l] r pt) (Gj X.K 2 (lD (cK 0) (lD (cK 1) Gi))):=by
 have c:(relabel scope X.env).names.lookup x=some .local:=wcw B.var;have a:(relabel scope X.env).names.lookup x2=some .local:=wcw g.var
 have b:(x::x2::ys).Nodup:=by
  have:=B.nd;have:=g.nd
  grind
 exact dm hc (aN (jF b rfl (.inl c) (.inr c)) (aN (jF b rfl (.inl a) (.inr a)) cA))
theorem eV(hc:X.calm=true)(B:bS X scope x ys ix)(T:bS X scope x2 ys ix)(g:x≠x2)(hi:PI X (.Tuple [.Name x U,.Name x2 j] kt pt) iter wi)
 (ht:∀cl L s H ex pn,Jz (bG X scope (x::x2::ys) cl L s H ex pn) p t) (he:∀cl L s H ex pn,PE (bG X scope (x::x2::ys) cl L s H ex pn) r I)
 (hs:∀v,wbX iter X.env v=pure v:=by intro _;rfl):PE X (.ListComp r [{.Tuple [.Name x U,.Name x2 j] kt pt,iter,p,0}] scope pos) (Nh X.K wi ix t I):=
 uN (C:=λJ l a H Q=>jL X.K J l a t I H Q) (xs:=[x,x2]) hc B (AA hc B T g) (λ_ _ _ _ _=>A6) hi ht he hs
theorem IH(hc:X.calm=true)(B:bS X scope x ys ix)(g:bS X scope x2 ys ix)(j:bS X scope x3 ys ix)(l:x≠x2/\x≠x3/\x2≠x3)(cl L s H ex pn):PG (bG X scope ([x,x2,x3]++ys) cl L s H ex pn) (.Tuple [.Name x t,.Name x2 p,.Name x3 r] C pt) (Gj X.K 3 (lD (cK 0) (lD (cK 1) (lD (cK 2) Gi)))):=by
 have d:(relabel scope X.env).names.lookup x=some .local:=wcw B.var;have b:(relabel scope X.env).names.lookup x2=some .local:=wcw g.var;have c:(relabel scope X.env).names.lookup x3=some .local:=wcw j.var
 have a:(x::x2::x3::ys).Nodup:=by
  have:=B.nd;have:=g.nd;have:=j.nd
  grind
 exact dm hc (aN (jF a rfl (.inl d) (.inr d)) (aN (jF a rfl (.inl b) (.inr b)) (aN (jF a rfl (.inl c) (.inr c)) cA)))
theorem II(hc:X.calm=true)(B:bS X scope x ys ix)(U:bS X scope x2 ys ix)(B3:bS X scope x3 ys ix)(g:x≠x2/\x≠x3/\x2≠x3)(hi:PI X (.Tuple [.Name x px,.Name x2 j,.Name x3 p] kt pt) iter wi)
 (ht:∀cl L s H ex pn,Jz (bG X scope (x::x2::x3::ys) cl L s H ex pn) r I) (he:∀cl L s H ex pn,PE (bG X scope (x::x2::x3::ys) cl L s H ex pn) t T)
 (hs:∀v,wbX iter X.env v=pure v:=by intro _;rfl):PE X (.ListComp t [{.Tuple [.Name x px,.Name x2 j,.Name x3 p] kt pt,iter,r,0}] scope pos) (Ni X.K wi ix I T):=
 uN (C:=λJ l a H Q=>uL X.K J l a I T H Q) (xs:=[x,x2,x3]) hc B (IH hc B U B3 g) (λ_ _ _ _ _=>GZ) hi ht he hs
end
section
variable{X:Cx}{e:Expr}{te:TE}{pos p:Pos}
theorem y8(g:X.mg "len"=none)(h:PE X e te)(j:Gl X "len":=by rfl)(he:starEach [e] X.env=(false,eval e X.env)::starEach [] X.env:=by rfl)(hpl:(backTo pos (starEach [] X.env)).any (·.1)=false:=by rfl) :
 PE X (.Call (.Name "len" p) [e] [] pos) (RV (λxs H Q=>∃z,xs=[.str z]/\z.length<=sizeLine/\Q (.int z.length) H) (rE te yA)):=aT yO j g wdA (a9 h dN he) (he:=he) (hpl:=hpl)
theorem DU(g:X.mg "len"=none)(h:PE X e te)(j:Gl X "len":=by rfl)(he:starEach [e] X.env=(false,eval e X.env)::starEach [] X.env:=by rfl)(hpl:(backTo pos (starEach [] X.env)).any (·.1)=false:=by rfl) :
 PE X (.Call (.Name "len" p) [e] [] pos) (RV (λxs H Q=>∃p ys,xs=[.ref p]/\(aH X.K H p ys\/g8 X.K H p ys)/\Q (.int ys.length) H) (rE te yA)):=aT oU j g wdA (a9 h dN he) (he:=he) (hpl:=hpl)
end
section
variable{P:waC}{w:World}{K:wa2}{mg:Str->Option Value}{base:Heap}{x qual:Str}{st:Stmt}{f:Addr}{fd:wbw}{N ps:List Str}{k:Nat}{sp:Sp}
theorem zS.d8(F:zS K x qual st f fd)
 (l:∀(j:Value) (A:Around) (outer:List Env) (s:Shared) (H:Hp) (vs:List V) (Q:VK) (E:XK),N.Nodup->dF k (A.deeper (envOfC qual (aJ st) s.heap.objs.size f j))->sp vs H Q E ->
   ∃t,wt (ux cO P w K mg base N qual (aJ st) f j A outer s H E).LQ (c9 st) t/\t (Ends.fn Q) (start N vs) H)
 (a:(aJ st).kind=.function:=by rfl) (b:(aJ st).isCoroutine=false:=by rfl) (c:(aJ st).isGenerator=false:=by rfl) (nd:N.Nodup:=by decide+kernel) (e:N.take ps.length=ps:=by rfl)
 (g:∀x∈ps,(aJ st).names.lookup x=some .local\/(aJ st).names.lookup x=some .cell:=by decide+kernel) (h:∀y∈(aJ st).names,y.2≠.free:=by decide+kernel)
 (len:∀vs H Q E,sp vs H Q E->vs.length=ps.length:=by intro _ _ _ _ h;cases h;subst_vars;rfl):aS P w K mg base cO (k+1) f fd ps sp:=
 F.ok ⟨a,b,c,nd,e,g,h⟩ len λj A outer s H vs Q E=>l j A outer s H vs Q E nd
theorem zS.Fp(F:zS K x qual st f fd)
 (l:∀(j:Value) (A:Around) (outer:List Env) (s:Shared) (H:Hp) (vs:List V) (Q:VK) (E:XK),N.Nodup->dF k (A.deeper (envOfC qual (aJ st) s.heap.objs.size f j))->sp vs H Q E ->
   ∃t,wt (ux (Bj P w) P w K mg base N qual (aJ st) f j A outer s H E) (c9 st) t/\t (Ends.fn Q) (start N vs) H)
 (a:(aJ st).kind=.function:=by rfl) (b:(aJ st).isCoroutine=false:=by rfl) (c:(aJ st).isGenerator=false:=by rfl) (nd:N.Nodup:=by decide+kernel) (e:N.take ps.length=ps:=by rfl)
 (g:∀x∈ps,(aJ st).names.lookup x=some .local\/(aJ st).names.lookup x=some .cell:=by decide+kernel) (h:∀y∈(aJ st).names,y.2≠.free:=by decide+kernel)
 (len:∀vs H Q E,sp vs H Q E->vs.length=ps.length:=by intro _ _ _ _ h;cases h;subst_vars;rfl):aS P w K mg base (Bj P w) (k+1) f fd ps sp:=
 F.Yw ⟨a,b,c,nd,e,g,h⟩ len λj A outer s H vs Q E=>l j A outer s H vs Q E nd
end
section
variable{X:Cx}{scope:wd3}{x x2:Str}{ys:List Str}{ix:List Nat}
theorem sf(hc:X.calm=true)(B:bS X scope x ys ix)(hN:X.N.Nodup)(hy:X.N[i]?=some y)(t:X.env.scope.names.lookup y=some .local)(B2:bS X scope x2 ys ix)(I:x≠x2)(hi:PI X (.Tuple [.Name x U,.Name x2 g] kt pt) iter wi)
 (ht:∀cl L s H ex pn,Jz (bG X scope (x::x2::ys) cl L s H ex pn) j tt) (he:∀cl L s H ex pn,PE (bG X scope (x::x2::ys) cl L s H ex pn) p te)
 (T:wcc (.ListComp p [{.Tuple [.Name x U,.Name x2 g] kt pt,iter,j,0}] scope pos) (some (.Name y py)) r.line X.env=pure true:=by rfl)
 (hs:∀v,wbX iter X.env v=pure v:=by intro _;rfl):PS X (.Assign [.Name y py] (.ListComp p [{.Tuple [.Name x U,.Name x2 g] kt pt,iter,j,0}] scope pos) r) (K9 X.K wi ix tt te i):=
 rM (C:=λJ l a H Q=>jL X.K J l a tt te H Q) (xs:=[x,x2]) hc B hN hy t (AA hc B B2 I) (λ_ _ _ _ _=>A6) hi ht he T hs
end
end L2
namespace Bs
theorem vx{α:Type}[DecidableEq α]:∀{g l:List α},g.Nodup->(∀k∈g,k∈l)->g.length<=l.length
 |[],l,_,_=>waq _
 |k::g,l,nd,h=>by
  rw[wbI]at nd;have hk:=h k (wag ..);have:=vx (l:=l.erase k) nd.2 λj a=>(List.mem_erase_of_ne (λz=>nd.1 (by rw[<-z];exact a))).mpr (h j (wac _ a));rw[List.length_erase_of_mem hk]at this;have:0<l.length:=List.length_pos_of_mem hk;rw[waE]
  lia
theorem eu.same{H g:Hp}{l:Addr}{rs:List Addr}{j:List (Str×Str)}(r:eu H l rs j)(s:a8 H g):eu g l rs j:={s _ _ r.l,r.t.same s}
theorem eu.push{H:Hp}{l:Addr}{rs:List Addr}{g:List (Str×Str)}(R:eu H l rs g){r:Addr}(j:H r=none)(q:Str×Str):eu (upd (upd H r (.tup (lQ q))) l (.lst (rs.map V.ref++[.ref r]))) l (rs++[r]) (g++[q]):=by
 have hl:(upd H r (.tup (lQ q))) l=some (.lst (rs.map V.ref)):=a8.upd j _ _ R.l;refine{by rw[a7,wai];rfl,?_};rw[wai];refine bc.keep ((R.t.same (a8.upd j)).snoc a7) λa b h=>?_;rw[af (λz=>by rw[z,hl]at h;cases h)];exact h
theorem vy(p:Str)(z:Str×Nat)(f:Str->List (Str×Nat)):∀hs:List Str,hs.Nodup->gC p z hs (hs.map f)=if p∈hs then(f p).count z else 0
 |[],_=>rfl
 |h::hs,nd=>by
  rw[wbI]at nd;show (if h=p then(f h).count z else 0)+gC p z hs (hs.map f)=_;rw[vy p z f hs nd.2]
  by_cases e:h=p
  .grind
  .grind
theorem CD{g:List (Str×Str)}{hs:List Str}(nd:g.Nodup)(hn:hs.Nodup)(w:Str)(e:Nat) :
 (((g.filter λq=>decide (q.2∈hs)).map λq=>(q.1,hs.idxOf q.2)):List (Str×Nat)).count (w,e)=if e<hs.length/\(w,hs.getD e "")∈g then 1 else 0:=by
 have inj:∀q∈g.filter (λq=>decide (q.2∈hs)),((q.1,hs.idxOf q.2):Str×Nat)=(w,e)↔(e<hs.length/\q=(w,hs.getD e "")):=λq a=>by
  grind
 have gen:∀L:List (Str×Str),L.Nodup->(∀q∈L,((q.1,hs.idxOf q.2):Str×Nat)=(w,e)↔(e<hs.length/\q=(w,hs.getD e "")))->(L.map λq=>((q.1,hs.idxOf q.2):Str×Nat)).count (w,e)=if e<hs.length/\(w,hs.getD e "")∈L then 1 else 0:=by
  intro L
  induction L with
  |nil=>grind
  |cons q L b=>
   grind
 rw[gen _ (nd.filter _) inj];refine RX {λz=>{z.1,(wau.mp z.2).1},λz=>{z.1,wau.mpr {z.2,decide_eq_true ?_}}};rw[wa4,wa1 z.1];exact waK _
theorem CF(ws:List Int)(g:List (Str×Nat)){ns:List Nat}(nd:ns.Nodup)(j:∀n∈ns,n<g.length):bf ws (b7 (ns.map λn:Nat=>(n:Int)) g)=(ns.map λi=>ws.getD (g.getD i ("",0)).2 0).sum:=by
 unfold b7;rw[xT];refine Hq (List.Perm.map _ (C5 ((List.nodup_range' ..).filter _) nd λx=>?_));rw[wau,whu,decide_eq_true_eq,wab];constructor
 .grind
 .grind
theorem Fq{many h w:Int}{hs:List Str}{ws:List Int}{lns:List (List (Str×Nat))}(S:iG many hs ws lns){d i0:Nat}{g:List (Str×Nat)}{ns:List Nat}(T:∀w∈ws,w<=h)(hd:lns[d]?=some g)(hw:ws.getD d 0=h)(m1:1<=many)
 (nd:ns.Nodup) (t:∀n∈ns,n<g.length) (C:ns≠[]) (J:(ns.length:Int)<=many) (r:(ns.length:Int)=many->i0∈ns) (I:ws.getD (g.getD i0 ("",0)).2 0<h)
 (j:(ns.map λi=>ws.getD (g.getD i ("",0)).2 0).sum=many*w):dW ws lns many (d:Int) (ns.map λn:Nat=>(n:Int)) w=true:=by
 have k:=S.w;have q:=S.l;have s:d<lns.length:=(wa6.mp hd).1;have m:lns.getD d []=g:=by rw[wa4,hd];rfl
 have o:g∈lns:=wa8 hd
 have a:∀i,i<g.length->ws.getD (g.getD i ("",0)).2 0∈ws:=λi hi=>by
  have e:g.getD i ("",0)=g[i]:=by rw[wa4,wa1 hi];rfl
  rw[e];exact jb (by rw[k];exact S.e g o _ (waK hi))
 have c:∀n∈ns,1<=ws.getD (g.getD n ("",0)).2 0:=λn hn=>S.p _ (a n (t n hn));have f:∀n∈ns,ws.getD (g.getD n ("",0)).2 0<=h:=λn hn=>T _ (a n (t n hn));have u:=uY ns c C;rw[j]at u
 have x:1<=w:=by
  by_cases z:1<=w
  .exact z
  .have:=Int.mul_nonpos_of_nonneg_of_nonpos (show 0<=many by lia) (show w<=0 by lia)
   lia
 have H:1<=h:=by rw[<-hw];exact S.p _ (jb (by lia))
 have L:w<h:=by
  have lt:many*w<many*h:=by
   rw[<-j]
   by_cases z:(ns.length:Int)=many
   .have:=vp ns f (r z) I;rw[z]at this;exact this
   .have y:=oq ns f;have A:((ns.length:Int)+1)*h<=many*h:=Int.mul_le_mul_of_nonneg_right (by lia) (by lia);rw[wgp]at A
    lia
  exact Int.lt_of_mul_lt_mul_left lt (by lia)
 have c1:=CF ws g nd t;rw[j]at c1;have M:=EE ws (ns.map λn:Nat=>(n:Int)) g;have b:=S.b d g hd;rw[hw]at b
 have B:many*(h-w)<=bf ws (aY (ns.map λn:Nat=>(n:Int)) g):=by
  rw[Int.mul_sub]
  lia
 have part:∀(l:List (Str×Nat)) (v:Int),1<=v->many*v<=bf ws l->eS ws many l v=true:=λl v D hl=>by
  have hn:l≠[]:=λz=>by
   rw[z]at hl;have y:many*v<=0:=hl;have:=wgg (show 0<many by lia) (show 0<v by lia)
   lia
  unfold eS;rw[decide_eq_true D,decide_eq_true hl]
  cases l with
  |nil=>exact absurd rfl hn
  |cons _ _=>rfl
 unfold dW;rw[war,m,hw,part _ w x (Int.le_of_eq c1.symm),part _ (h-w) (by lia) B];have E:eU (d:Int) lns.length=true:=by unfold eU;rw[decide_eq_true (by lia),decide_eq_true (by lia)];rfl
 have G:(ns.map λn:Nat=>(n:Int)).all (λi=>eU i g.length)=true:=waR.mpr λi hi=>by
  obtain⟨n,hn,rfl⟩:=wab.mp hi;have:=t n hn;unfold eU;rw[decide_eq_true (by lia),decide_eq_true (by lia)];rfl
 rw[E,G];rfl
theorem lX{n:Nat}{rs:List Nat}(nd:rs.Nodup)(h:∀r∈rs,r<n):rs.length<=n:=by
 have:=vx nd λr a=>wb7.mpr (h r a);rwa[waJ]at this
theorem CG{many:Int}{p:Nat->Int}{n:Nat}(h0:0<many)(hn:(n:Int)=many)(hd:∀i k,i<k->k<=n->p i%many≠p k%many):False:=by
 have nd:((waD (n+1)).map λi=>(p i%many).toNat).Nodup:=nodup_map_on wfM λa ha b c e=>by
  have ha:=wb7.mp ha;have c:=wb7.mp c;have a0:=wbb (p a) (show many≠0 by lia);have f:=wbb (p b) (show many≠0 by lia);have g:p a%many=p b%many:=by grind
  rcases wfu a b with h |h |h
  .grind
  .exact h
  .grind
 have:=lX (n:=n) nd λr d=>by
  obtain⟨i,_,rfl⟩:=wab.mp d;have a0:=wbb (p i) (show many≠0 by lia);have a1:=wbh (p i) h0;show (p i%many).toNat<n
  lia
 rw[wa0,waJ]at this
 lia
structure uc(g:Str)(ws ss ls:List Str)(many:Int)(n:Nat)(f:Str->Int):Prop where
 gr:∃most:Int,1<=most/\most<=8/\nu g ws ss ls many n most f/\∀(m:Int) (h:Str->Int),1<=m->m<most->nu g ws ss ls many n m h->(ls.map h).sum=0
 ps:0<(ls.map f).sum
 le:(ls.map f).sum<=40
def zp(g:Str)(ws ss ls:List Str)(many:Int)(n:Nat):Prop:=∃most:Int,1<=most/\most<=9/\(∀(m:Int) (h:Str->Int),1<=m->m<most->nu g ws ss ls many n m h->(ls.map h).sum=0)/\(most=9\/∃f,nu g ws ss ls many n most f/\40<(ls.map f).sum)
theorem Fs{f h:Str->Int}(a:nu g ws ss ls many n most f)(b:nu g ws ss ls many n most h):∀p∈ls,f p=h p:=λp c=>by
 have d:=a.top h b.le b.fit p c;have e:=b.top f a.le a.fit p c
 lia
theorem Ft{f h:Str->Int}(a:nu g ws ss ls many n most f)(b:nu g ws ss ls many n most h):(ls.map f).sum=(ls.map h).sum:=congrArg List.sum (waX λp c=>Fs a b p c)
theorem Fu(wl:List (List (Str×Nat)))(b c:Nat)(ts:List Nat):KY wl b c ts=cat (ez wl 0 (gH b c ts)):=by
 unfold KY gH;rw[(jf wl _ _ 0).1,pd,k8,k8]
structure O2(R:Wr)(ts:List Nat)(all:List Str):Prop where
 row:KY R.wl R.b R.c ts=cat all
 u:∀u∈all,u.length=R.n/\∀c∈ch u,c∈ch R.g
 l:all.length=R.b+ts.length+R.c
 r:∀k,k<ts.length->∃bs w us,(all.take (k+(R.b+1+R.c))).drop k=bs++w::us/\bs.length=R.b/\us.length=R.c/\bears R.bw (cat bs)=false/\gQ R.ss R.hk R.wl (cat bs) w us (ts.getD k 0)
section
variable{g:Str}
theorem y9(nd:(ch g).Nodup):∀n,(NK g n).Nodup
 |0=>wbI.mpr {λz=>(nomatch z),wdx}
 |n+1=>by
  show ((ch g).flatMap λc=>(NK g n).map λr=>({#[c]}:Str)++r).Nodup;have l:=y9 nd n
  have key:∀f:List Nat,f.Nodup->(f.flatMap λc=>(NK g n).map λr=>({#[c]}:Str)++r).Nodup:=by
   intro f
   induction f with
   |nil=>intro _;exact wdx
   |cons c f i=>
    intro hn;rw[wbI]at hn;rw[wej];refine wft.mpr {?_,i hn.2,λa ha b m z=>?_}
    .refine List.Pairwise.map _ ?_ l;intro a b j z;have:=congrArg ch z;rw[aX,aX]at this;exact j (cF (List.append_cancel_left this))
    .obtain⟨r,_,rfl⟩:=wab.mp ha;obtain⟨d,hd,k⟩:=wcH.mp m;obtain⟨q,_,rfl⟩:=wab.mp k;have:=congrArg ch z;rw[aX,aX,Cj,Cj]at this
     have e:c=d:=by
      have h:=this;rw[wgE,wgE]at h;exact(wgY h).1
     exact hn.1 (by rw[e];exact hd)
  exact key _ nd
end
end Bs
namespace L2
open PySem.Spec PyProof.Rows PySem.Calls
section
variable{prog:waC}{w:World}{A:Around}
theorem si:∀ns:List Int,preSum (λi=>ns.getD i 0) ns.length=ns.sum
 |[]=>rfl
 |n::ns=>by
  show preSum (λi=>(n::ns).getD i 0) (ns.length+1)=n+ns.sum;rw[PySem.W.kdu_shift,<-si ns];rfl
theorem gF{h h':Heap}{p:Addr}{g:Array Value}(e:h.IsList p g)(hk:∀b o,h.get? b=some o->h'.get? b=some o):h'.IsList p g:=let ⟨o,a,r⟩:=e;{o,hk _ _ a,r}
noncomputable abbrev Ms(t:Tok):List (Str×Value):=[(wcy "start",.int 1 t)]
theorem Fv(l:Addr)(items:Array Value)(n:Nat)(j:Option Addr)(sl:Array (Option Value))(t:Tok) :
 Meets (wey.«enumerate.__new__» {[.type "enumerate",.ref l],Ms t}) (λ_ R s=>s.heap.get? l=some {cls:=.type "list",dict:=j,data:=.seq items n,slots:=sl} /\
  R (.ok (.ret (.ref (s.heap.objs.size+1)))) {s with heap:=(s.heap.push {cls:=.type "list_iterator",data:=.fields #[.ref l,.int 0 0]}).push {cls:=.type "enumerate",data:=.fields #[.none,.bool false,.ref s.heap.objs.size,rawInt 1,.none,.none]}}):=
 .of_wp λprog w A R s h=>by
  obtain⟨a,g,d,i,os⟩:=s;obtain⟨hl,h⟩:=h;have b:(a.push {cls:=.type "list_iterator",data:=.fields #[.ref l,.int 0 0]}).objs.size=a.objs.size+1:=wbS ..;have e:=sub_enumerate;have f:Heap.IsList (Shared.heap ⟨a,g,d,i,os⟩) l items:={_,hl,rfl,n,rfl}
  wp_walk using wdU hl
  refine wpAny_stack_any λst=>waz ?_;split
  .rename_i c _ _ _ _ _;cases(c==weJ "enumerate")<;>(wp_walk using wdU hl,wcR f;exact{_,rfl,by rw[b];exact h})
  .wp_walk using wdU hl,wcR f
   exact{_,rfl,by rw[b];exact h}
theorem IJ(l:Addr)(t:Tok):checkTypeCall "enumerate" {[.ref l],Ms t}=pure .unit:=by kernel_rfl
theorem IK(l:Addr)(t:Tok):wew "enumerate.__new__" {[.type "enumerate",.ref l],Ms t}=pure .unit:=by kernel_rfl
theorem CH(o l:Addr)(t:Tok):argsOk "object.__init__" {[.ref o,.ref l],Ms t}:=by unfold argsOk;kernel_rfl
theorem CI{P:Nat->Value->Prop}{St:Nat->Heap->Prop}(D:Draws prog w A it g n P St):Draws prog w A it g (n+1) (λj v=>∃i,j=i+1/\P i v) (λj h=>∃i,j=i+1/\St i h) where
 live:=λ_ _ {i,_,st}=>D.live i _ st
 frame:=λ_ h a ⟨i,e,st⟩ hk=>{i,e,D.frame i h a st hk}
 item:=λ_ s Q E l ⟨i,e,st⟩ b=>D.item i s Q E (by lia) st λx a c d f sb=>b x a c ⟨i,e,d⟩ {i+1,by lia,f} sb
 done:=λs Q E ⟨i,e,st⟩ k=>D.done s Q E ((show n=i by lia) ▸ st) k
theorem Fw(g:A.handled=none)(it l:Addr)(items:Array Value)(i:Nat)(p:items[i]?=none):Draws prog w A it [it,l] (i+1) (λ_ _=>False) (λj h=>j=i+1/\h.IsListIter it l i/\h.IsList l items) where
 live:=λ_ _ {_,st,_}=>let ⟨o,a,_⟩:=st;⟨o,a⟩
 frame:=λ_ _ _ ⟨e,st,sl⟩ hk=>{e,st.at λo q=>hk it (by simp) o q,sl.at λo q=>hk l (by simp) o q}
 item:=λ_ _ _ _ b {e,_} _=>absurd e (wav b)
 done:=λ_ _ _ {_,st,sl} c=>wpAny_nextOf_list_end g st sl p c
noncomputable def IL(K:wa2)(a:Addr):It:=
 {λi H=>∃xs x,aH K H a xs/\xs[i]?=some x,λi H x H'=>∃T xv,H T=none/\x=.ref T/\H'=upd H T (.tup [.int ((i+1:Nat):Int),xv])/\∀xs,aH K H a xs->xs[i]?=some xv,λi H=>∃xs,aH K H a xs/\xs.length<=i}
def O3(K:wa2)(ta:TA):TI:=λσ H R=>ta σ H λvs H1=>∃a xs,vs=[.ref a]/\aH K H1 a xs/\R (IL K a) H1
theorem Fx{K:wa2}{a:Addr}{xs:List V}{g:TG}{C:TS}{D:Ends}{σ:St}{H:Hp}(Pv:Nat->St->Hp->Prop)(h0:Pv 0 σ H)(hl:∀i σ H,i<=xs.length->Pv i σ H->aH K H a xs)
 (hs:∀i x σ H T,xs[i]?=some x->Pv i σ H->H T=none->g (.ref T) σ (upd H T (.tup [.int ((i+1:Nat):Int),x])) λj t=>C (D.lp (Pv (i+1))) j t) (hd:∀σ H,Pv xs.length σ H->D.nx σ H) :
 ∃W:Nat->Nat->St->Hp->Prop,(∃m,W 0 m σ H)/\∀i m σ H,W i m σ H ->
  ((IL K a).stop i H/\D.nx σ H)\/((IL K a).go i H/\∃N:St->Hp->Prop,(∀l r,N l r->∃I,I<m/\W (i+1) I l r)/\∀x r,(IL K a).tS i H x r->g x σ r λj t=>C (D.lp N) j t):=by
 refine{λi m σ H=>m=xs.length-i/\i<=xs.length/\Pv i σ H,{xs.length,by simp,waq _,h0},?_};rintro i m σ H ⟨rfl,hi,p⟩;have q:=hl i σ H hi p
 by_cases b:i<xs.length
 .refine .inr {{xs,xs[i],q,by simp[b]},Pv (i+1),λl r c=>{xs.length-(i+1),by lia,rfl,b,c},λx r y=>?_};obtain⟨T,d,f,h,k,y⟩:=y;subst h k;exact hs i d σ _ T (y xs q) p f
 .have e:i=xs.length:=by lia
  subst e;exact .inl {{xs,q,waa _},hd σ H p}
end
section
variable{t:TA}
def QM(K:wa2)(t:TA):TE:=λσ H Q=>t σ H λvs H1=>∃(a:Addr) (ps:List Addr),vs=[.ref a]/\aH K H1 a (ps.map V.ref)/\ps≠[]/\(∀q∈ps,∃ys,aH K H1 q ys)/\∀q∈ps,Q (.ref q) H1
theorem CJ{P:waC}{w:World}{K:wa2}{r:List Expr}{k:Nat}{pos:Pos}(a e it:Addr)(g:e≠it)(J:a≠it):Turn P w K (.Tuple r k pos) (IL K a) [e,it] e (λi h=>(∃old,IsEnum h e it ((i+1:Nat):Int) old)/\h.IsListIter it a i) where
 mem:=by simp
 obj:=λi h st b n=>by
  obtain⟨⟨old,c⟩,o,l,hc,hd⟩:=st;rcases waG.mp n with z |n
  .exact{_,z ▸ c,λv q=>by
    have q':wem _=wg8 v:=q
    cases q'}
  .exact{o,wao.mp n ▸ l,λv q=>by rw[hd]at q;cases q}
 keep:=λi h V st k=>{st.1.imp λold c=>k e (by simp) _ c,st.2.at λo q=>k it (by simp) o q}
 item:=by
  intro X G hw L hc i t s σ H E I M st N;subst G hw L;obtain⟨xs,x,D,O⟩:=N;obtain⟨d,Q,p,hz⟩:=I.list D;obtain⟨u,Y,ru⟩:=Q.get O;obtain⟨⟨old,c⟩,hit⟩:=st
  have R:e≠a:=λz=>by
   obtain⟨o,l,S,_⟩:=p.isList;have f:=c;rw[z]at f;rw[f]at l;cases l;have q:weJ "enumerate"=.type "list":=S;injection q with q
   exact absurd q ⋯
  have Yx:i<d.length:=(wa6.mp Y).1;refine wfY (i:=i+1) (CI (Draws.list (A:=X.A.in1) (I.ok.hd hc) it a J d.toArray)) c ⟨i,rfl,hit,p.isList⟩ (by rw[waF];lia) g (by simp[g,R]) λy V tk m l T hT hsz hk=>?_;obtain⟨Z,e1,m⟩:=m;obtain⟨i2,e2,B,Yy⟩:=T;have e1:Z=i:=by lia
  have e2:i2=i+1:=by lia
  subst e1 e2
  have ey:y=u:=by
   rw[List.getElem?_toArray,Y]at m;exact(waf m).symm
  subst ey;refine{_,rfl,wdM l λTL f j=>?_};obtain⟨_,U,_⟩:=id hit;have C:e<s.heap.objs.size:=wae c;obtain⟨fr,I1,hn⟩:=oS (y:=.int ((Z+1:Nat):Int)) (tk+1) I M (λb o h q=>(j.2 b (yC h).1).trans (hk b o (yC h).1 (yC h).2 q)) ((j.2 _ (wc4 C)).trans hT) {_,rfl} ru (MO C (wae U));exact{.ref s.heap.objs.size,_,I1,rfl,{s.heap.objs.size,x,fr,rfl,rfl,λys m=>by rw[I.j6 m D];exact O},{{y,by simpa using f},B.at λo q=>(j.2 it (wbx g)).trans q},hn}
 done:=by
   intro X G hw L hc i t s σ H E I M st N;subst G hw L;obtain⟨xs,D,O⟩:=N;obtain⟨d,Q,p,hz⟩:=I.list D;have hl:=Q.length;obtain⟨⟨old,c⟩,hit⟩:=st;obtain⟨g0,g1,g2,g3,g4,g5⟩:=M it (by simp);exact wgo (Fw (A:=X.A.in1) (I.ok.hd hc) it a d.toArray i (wdu (by simp;lia))) c ⟨rfl,hit,p.isList⟩ λV eb=>{rfl,I.turned (t':=s.toks) (λb o n e=>eb b o n e) g0 g1 g3 g4 g5}
 self:=λ_ _ _ _ _ st h=>let ⟨⟨_,c⟩,_⟩:=st;wcS c h
end
section
variable{X:Cx}
theorem Fy(hc:X.calm=true):dH X (.builtin "sum") (λxs H Q=>∃v d kvs ns,xs=[.ref v]/\H v=some (lE v d)/\H d=some (.dK kvs)/\kvs.map (·.2)=wcZ V.int ns/\Q (.int ns.sum) H):=by
 intro m s σ H xs U Q I r h;obtain⟨v,d,kvs,ns,rfl,D,hd,hn,q⟩:=h;obtain⟨u,rfl,E⟩:=vals1 r;cases E;obtain⟨Y,lo,c,rel,G⟩:=rJ I.b9 hd;obtain⟨ep,f⟩:=G.dictAt;obtain⟨a,_⟩:=(show bU X.prog X.w H s.heap v (lE v d) from I.b9 v _ D);have J:=I.ok.hd hc
 have g:c.length=ns.length:=by
  have:=congrArg wdt hn;rw[wa0,wa0]at this;rw[<-rel.length];exact this
 have L:∀{kvs:List (Key×V)} {c:List (Key×Value)} {ns:List Int},KV kvs c->kvs.map (·.2)=ns.map V.int->∀(i:Nat) (k:Key) (x:Value),c[i]?=some (k,x)->∃t,x=.int (ns.getD i 0) t:=by
  intro kvs c ns r
  induction r generalizing ns with
  |nil=>intro _ i k x e;simp at e
  |@cons p q ps Z h t M=>
   intro e i k x j
   cases ns with
   |nil=>cases e
   |cons n ns=>
    rw[wat,wat]at e;injection e with N O
    cases i with
    |zero=>
     simp at j;have y:=h.2;rw[N,j]at y;exact y
    |succ i=>exact M O i k x (by simpa using j)
 have z:=whe (prog:=X.prog) (w:=X.w) (r:=v) (d:=d) (knd:=bx X.prog X.w) (kvs:=c) (ep:=ep);refine call_sum_walkAnyS ?_;obtain⟨R,St,hit,S,st⟩:=z.iter X.A.in1 s J ⟨a,f⟩;refine hit _ _ {s.heap.objs.size,_,_,_,c.length,_,_,λi=>ns.getD i 0,rfl,S.toS,st,λb l=>?_,λi x ⟨k,e⟩=>L rel hn i k x e,λB t' C=>?_}
 .show b<(s.heap.push R).objs.size;rw[size_push'];rcases waG.mp l with e |l
  .rw[e];exact wbO _
  .rw[wao.mp l];exact weh (z.there _ ⟨a,f⟩).2
 .have hk:∀b o,s.heap.get? b=some o->B.heap.get? b=some o:=λb o e=>
   C.heap b o (λT=>absurd (wae e) (by rw[wao.mp T];exact wbm _)) (wa9 _ e)
  rw[Moved.eq_with C];refine{.int ns.sum,H,I.kept (t':=B.toks) hk,{t',?_},q};rw[g,si]
end
section
variable{prog:waC}{w:World}{A:Around}{s:Shared}{l I S:Addr}{vs:List Value}{R:wek->Shared->Prop}
theorem zq(kf:Nat->Int)(hh:A.handled=none)(hl:s.heap.IsList l vs.toArray)(hI:I=s.heap.objs.size)(O4:S≠I)(Yz:s.heap.objs.size<=S)
 (turn:∀(i:Nat) (v:Value),vs[i]?=some v->∃p items,v=.ref p/\s.heap.IsList p items/\(items.size:Int)=kf i/\(items.size:Int)<2^63)
 (hR:∀(v:Value) (h':Heap) (CK:Nat),v∈vs->(∀b o,s.heap.get? b=some o->h'.get? b=some o)->R (.ok (.ret v)) {s with heap:=h',toks:=CK}) :
 ∀(r j i:Nat) (h:Heap) (tk:Nat) (vb:Value) (tb:Tok) (c:Nat),vs.length-(j+1)=r->j+1<=vs.length->(∀b o,s.heap.get? b=some o->h.get? b=some o) ->
  h.get? S=some (seqObj "list" #[vb,.int (kf i) tb] c)->h.IsListIter I l (j+1)->vs[i]?=some vb ->
  codeAny (model prog w) A (.builtin "min.loop" {[.ref I,.builtin "len",.ref S],[]}) R {s with heap:=h,toks:=tk}:=by
 have AB:(toString "min"++toString ".loop":String)="min.loop":=⋯;have CL:l<s.heap.objs.size:=let ⟨o,ho,_⟩:=hl;wae ho
 have QN:l≠I:=by rw[hI];exact wav CL
 have W:=wfA (prog:=prog) (w:=w) (A:=A.in1) hh I l QN vs.toArray;have hsz:vs.toArray.size=vs.length:=waF ..
 have old:∀{b:Addr} {o:Obj},s.heap.get? b=some o->b≠S/\b≠I:=λ{b o} e=>by
  have hb:b<s.heap.objs.size:=wae e;exact{wav (waw hb Yz),by rw[hI];exact wav hb}
 intro r
 induction r with
 |zero=>
  intro j i h tk vb tb c hr hj mono nS hit U6;have YB:j+1=vs.length:=();refine wbJ wep ?_;rw[wbC wbT _];show wpAny _ A.in1 (weE (.ref S) >>= _) _ _ _;refine wa7 (wcY nS rfl ?_);show wpAny _ A.in1 (tryCatch (pyNext (.ref I)) _ >>= _) _ _ _;refine wa7 (wbU (W.done _ _ _ {by rw[hsz,<-YB];exact hit,gF hl mono} λh' CK JC=>?_));have YC:=JC S _ (by simpa using O4) nS;have s1:=wf4 h' S (wcT λ_=>(#[]:Array Value));show wpAny _ A.in1 (whj S (λ_=>#[]) >>= _) _ _ _;refine wa7 ?_;refine wdp YC rfl (wa7 (wdw (waz ?_)));exact hR vb _ _ (wa8 U6) λb o e=>(s1.2 b (old e).1).trans (JC b o (by simpa using(old e).2) (mono b o e))
 |succ r ih=>
  intro j i h tk vb tb c hr hj mono nS hit U6;have O5:j+1<vs.length:=();refine wbJ wep ?_;rw[wbC wbT _];show wpAny _ A.in1 (weE (.ref S) >>= _) _ _ _;refine wa7 (wcY nS rfl ?_);show wpAny _ A.in1 (tryCatch (pyNext (.ref I)) _ >>= _) _ _ _;refine wa7 (wbU (W.item (j+1) _ _ _ (by rw[hsz];exact O5) {hit,gF hl mono} λv h' CK hP L6 JC=>?_));have hv:vs[j+1]?=some v:=by simpa using hP
  have ya:∀b o,s.heap.get? b=some o->h'.get? b=some o:=λb o e=>JC b o (by simpa using(old e).2) (mono b o e);have OM:=JC S _ (by simpa using O4) nS;obtain⟨p,items,rfl,hp,U7,Fz⟩:=turn (j+1) v hv;show wpAny _ A.in1 (tryCatch (holding [wam p] (call (.builtin "len") [.ref p])) _ >>= _) _ _ _;refine wa7 (wbU (wbt (wf1 (gF hp ya) Fz ?_)));rw[U7];show wpAny _ A.in1 (tryCatch (holding [wam p,.int (kf (j+1)) _] (richCompare .Lt (.int (kf (j+1)) _) (.int (kf i) tb) >>= _)) _ >>= _) _ _ _;refine wa7 (wbU (wbt (wa7 (CmpOf.ints_lt (prog:=prog) (w:=w) (A:=A.in1) (P:=λi v=>∃t,v=.int (kf i) t) kf (λi v h=>h) (j+1) i _ _ _ _ _ {_,rfl} ⟨tb,rfl⟩ ?_))));refine wa7 (wbt (wbW ?_));refine wa7 (wdw (waz ?_))
  by_cases IM:kf (j+1)<kf i
  .simp only[IM,decide_true,if_true];refine wa7 ?_;refine wdp OM rfl (wa7 (wdw ?_));rw[AB];have s1:=wf4 h' S (wcT λ_=>#[wam p,.int (kf (j+1)) (CK+1)]);obtain⟨c2,U8⟩:∃c2,(h'.update S (wcT λ_=>#[wam p,.int (kf (j+1)) (CK+1)])).get? S=some (seqObj "list" #[wam p,.int (kf (j+1)) (CK+1)] c2):={_,get?_update_seq OM λ_=>#[wam p,.int (kf (j+1)) (CK+1)]};refine waz {wck wbT _,ih (j+1) (j+1) _ _ _ _ c2 () O5 (λb o e=>(s1.2 b (old e).1).trans (ya b o e)) U8 ?_ hv};obtain⟨U9,O6,Ua⟩:=id L6.1;exact{U9,(s1.2 I O4.symm).trans O6,Ua}
  .simp only[IM,decide_false,wc5,if_false];refine wa7 (wdw ?_);rw[AB];exact waz {wck wbT _,ih (j+1) i _ _ vb tb c () O5 ya OM L6.1 U6}
end
section
variable{prog:waC}{w:World}{A:Around}{E:Value->Shared->Prop}{s:Shared}{l:Addr}{vs:List Value}{Q:Value->Shared->Prop}
theorem L7(kf:Nat->Int)(hh:A.handled=none)(hl:s.heap.IsList l vs.toArray)(BU:0<vs.length)
 (turn:∀(i:Nat) (v:Value),vs[i]?=some v->∃p items,v=.ref p/\s.heap.IsList p items/\(items.size:Int)=kf i/\(items.size:Int)<2^63)
 (hQ:∀(v:Value) (h':Heap) (CK:Nat),v∈vs->(∀b o,s.heap.get? b=some o->h'.get? b=some o)->Q v {s with heap:=h',toks:=CK}) :
 wpAny (model prog w) A (call (.builtin "min") [.ref l] [(wcy "key",.builtin "len")]) Q E s:=by
 have AB:(toString "min"++toString ".loop":String)="min.loop":=⋯;have CL:l<s.heap.objs.size:=let ⟨o,ho,_⟩:=hl;wae ho
 refine wi8 PySem.F.kind_min PySem.F.plain_min PySem.F.entry_min (kmk_min_key _ _) ?_;show wpAny _ A.in1 (wcN "min" ["key","default"] 0 {[],[(wcy "key",.builtin "len")]} >>= _) _ _ s;refine wa7 (whH (show wcN "min" ["key","default"] 0 {[],[(wcy "key",.builtin "len")]}=pure [some (.builtin "len"),none] from rfl) ?_);refine wa7 (waz ?_);refine wa7 (wcR hl ?_);refine wa7 (wpAny_newList ?_ (waq _));rw[AB];have hS:(s.heap.push {cls:=.type "list_iterator",data:=.fields #[.ref l,.int 0 0]}).objs.size=s.heap.objs.size+1:=size_push' ..;have QN:l≠s.heap.objs.size:=wav CL;have O4:(s.heap.push {cls:=.type "list_iterator",data:=.fields #[.ref l,.int 0 0]}).objs.size≠s.heap.objs.size:=by rw[hS];exact wc4 (wbO _)
 refine waz {wck wbT _,?_}
 have gI:((s.heap.push {cls:=.type "list_iterator",data:=.fields #[.ref l,.int 0 0]}).push (seqObj "list" #[] 0)).get? s.heap.objs.size=some {cls:=.type "list_iterator",data:=.fields #[.ref l,.int 0 0]}:=
  wa9 _ (wap _ rfl)
 have gS:((s.heap.push {cls:=.type "list_iterator",data:=.fields #[.ref l,.int 0 0]}).push (seqObj "list" #[] 0)).get? (s.heap.push {cls:=.type "list_iterator",data:=.fields #[.ref l,.int 0 0]}).objs.size=some (seqObj "list" #[] 0):=wap _ rfl;have Mt:∀b o,s.heap.get? b=some o->((s.heap.push {cls:=.type "list_iterator",data:=.fields #[.ref l,.int 0 0]}).push (seqObj "list" #[] 0)).get? b=some o:=λb o e=>wa9 _ (wa9 _ e)
 have old:∀{b:Addr} {o:Obj},s.heap.get? b=some o->b≠s.heap.objs.size+1/\b≠s.heap.objs.size:=λ{b o} e=>by
  have hb:b<s.heap.objs.size:=wae e;exact{wav (weh hb),wav hb}
 have W:=wfA (prog:=prog) (w:=w) (A:=A.in1) hh s.heap.objs.size l QN vs.toArray;have hsz:vs.toArray.size=vs.length:=waF ..;refine wbJ wep ?_;rw[wbC wbT _];show wpAny _ A.in1 (weE (.ref _) >>= _) _ _ _;refine wa7 (wcY gS rfl ?_);show wpAny _ A.in1 (tryCatch (pyNext (.ref s.heap.objs.size)) _ >>= _) _ _ _;refine wa7 (wbU (W.item 0 _ _ _ (by rw[hsz];exact BU) {{_,gI,rfl,rfl},gF hl Mt} λv h' CK hP L6 JC=>?_));have hv:vs[0]?=some v:=by simpa using hP
 have ya:∀b o,s.heap.get? b=some o->h'.get? b=some o:=λb o e=>JC b o (by simpa using(old e).2) (Mt b o e);have OM:=JC _ _ (by simpa using O4) gS;obtain⟨p,items,rfl,hp,U7,Fz⟩:=turn 0 v hv;show wpAny _ A.in1 (tryCatch (holding [wam p] (call (.builtin "len") [.ref p])) _ >>= _) _ _ _;refine wa7 (wbU (wbt (wf1 (gF hp ya) Fz ?_)));rw[U7];have s1:=wf4 h' (s.heap.push {cls:=.type "list_iterator",data:=.fields #[.ref l,.int 0 0]}).objs.size (wcT λ_=>#[wam p,.int (kf 0) (CK+1)]);obtain⟨c2,U8⟩:∃c2,(h'.update (s.heap.push {cls:=.type "list_iterator",data:=.fields #[.ref l,.int 0 0]}).objs.size (wcT λ_=>#[wam p,.int (kf 0) (CK+1)])).get? (s.heap.push {cls:=.type "list_iterator",data:=.fields #[.ref l,.int 0 0]}).objs.size=some (seqObj "list" #[wam p,.int (kf 0) (CK+1)] c2):={_,get?_update_seq OM λ_=>#[wam p,.int (kf 0) (CK+1)]};show wpAny _ A.in1 (whj (s.heap.push {cls:=.type "list_iterator",data:=.fields #[.ref l,.int 0 0]}).objs.size (λ_=>#[wam p,.int (kf 0) (CK+1)]) >>= _) _ _ _;refine wa7 ?_;refine wdp OM rfl ?_;rw[AB];obtain⟨U9,O6,Ua⟩:=id L6.1;refine waz {wck wbT _,zq kf hh hl rfl O4 (by rw[hS];exact wbR _) turn hQ _ 0 0 _ _ _ _ c2 rfl BU (λb o e=>(s1.2 b (by rw[hS];exact(old e).1)).trans (ya b o e)) U8 {U9,(s1.2 _ O4.symm).trans O6,Ua} hv}
end
section
variable{X:Cx}{e:Expr}{t:TA}{p p2 kp pos:Pos}
theorem L8(hc:X.calm=true)(J:Gl X "min")(T:X.mg "min"=none)(l:Gl X "len")(C:X.mg "len"=none)(ha:PA X [e] t)(hs:starEach [e] X.env=[(false,eval e X.env)]:=by rfl):PE X (.Call (.Name "min" p) [e] [{some "key",.Name "len" p2,kp}] pos) (QM X.K t):=by
 refine{?_};intro f s σ H Q I h;refine wbr (eR I J T (show waV "min"=some (.builtin "min") from Sx.Km) ?_ ⋯ ⋯);refine wfQ (bN (ha pos f s σ H _ I h) λO z ⟨R,A,g,B,D⟩=>?_) (by rw[hs];rfl) (by rw[hs];rfl);refine weF (eR g l C (show waV "len"=some (.builtin "len") from wdA) (weX ?_) ⋯ ⋯);obtain⟨a,ps,rfl,E,m,n,q⟩:=D;obtain⟨u,rfl,G⟩:=vals1 B;cases G;obtain⟨b,k,pl,w⟩:=g.list E;have hl:b.length=ps.length:=by have:=k.length;rw[wa0]at this;exact this.symm
 have j:∀{ps:List Addr} {b:List Value},Vals (ps.map V.ref) b->b=ps.map wam:=by
  intro ps
  induction ps with
  |nil=>intro b r;cases r;rfl
  |cons x ps L=>
   intro b r
   cases r with
   |cons h t=>rw[L t];cases h;rfl
 have e:=j k;subst e
 have sz:∀q∈ps,∃b:List Value,z.heap.IsList q b.toArray/\b.length<=sizeLine:=λq c=>by
  obtain⟨S,M⟩:=n q c;obtain⟨b,k,pl,w⟩:=g.list M;exact{b,pl.isList,by rw[<-k.length];exact w}
 have hn:=o6;refine L7 (kf:=λi=>match ps[i]? with |some q=>if c:q∈ps then((whS (sz q c)).length:Int) else 0 |none=>0) (g.ok.hd hc) pl.isList (by rw[wa0];cases ps with |nil=>exact absurd rfl m |cons _ _=>exact Nat.succ_pos _) (λi v d=>?_) λv U o d hk=>?_
 .rw[wa3]at d
  cases e:ps[i]? with
  |none=>rw[e]at d;cases d
  |some q=>
   rw[e]at d;cases d;have c:q∈ps:=wa8 e;obtain⟨N,Y⟩:=wgF (sz q c);refine{q,_,rfl,N,?_,?_}
   .show _=if c:q∈ps then _ else _
    rw[dif_pos c,waF]
   .rw[waF]
    lia
 .obtain⟨y,c,rfl⟩:=wab.mp d;exact{.ref y,A,g.kept (t':=o) hk,rfl,q y c}
end
end L2
namespace AC
section
variable{W:List (List Nat)}{P:List Nat->Bool}{l:List Nat}{c:Nat}
def Good(W:List (List Nat))(l:List Nat):Prop:=∀w∈W,¬w <:+: l
noncomputable def kc(P:List Nat->Bool):List Nat->List Nat
 |[]=>[]
 |a::l=>if P (a::l)=true then a::l else kc P l
theorem jh:∀l,kc P l <:+ l
 |[]=>wfR _
 |a::l=>by
  unfold kc;split
  .exact wfR _
  .exact(jh l).trans (List.suffix_cons a l)
theorem vz(h0:P []=true):∀l,P (kc P l)=true
 |[]=>h0
 |a::l=>by
  unfold kc;split
  .assumption
  .exact vz h0 l
theorem CM(h:w <:+: l++[c]):w <:+: l\/w <:+ l++[c]:=by
 obtain⟨a,b,e⟩:=h;rcases wgG b with f |⟨g,d,f⟩
 .grind
 .grind [whU]
end
section
variable{W:List (List Nat)}{p l u:List Nat}{c:Nat}{P:List Nat->Bool}{q:List Nat}
def Pl(W:List (List Nat))(p:List Nat):Prop:=p=[]\/((∃w∈W,p <+: w/\p.length<w.length)/\Good W p)
theorem IP(g:p <:+ q)(j:q <:+ p):p=q:=g.eq_of_length (wi4 g.length_le j.length_le)
end
section
variable{W:List (List Nat)}{l m:List Nat}
theorem Good.sub(h:Good W l)(hs:m <:+: l):Good W m:=λw hw hi=>h w hw (hi.trans hs)
end
section
variable{W:List (List Nat)}{u:List Nat}{c:Nat}{P:List Nat->Bool}{l q:List Nat}
theorem Pl.init(h:Pl W (u++[c])):Pl W u:=by
 rcases h with h |⟨⟨w,hw,a,hl⟩,b⟩
 .simp at h
 .by_cases e:u=[]
  .exact .inl e
  .refine .inr {{w,hw,(web u [c]).trans a,?_},b.sub (web u [c]).isInfix};rw[wa5]at hl;simp at hl
   lia
theorem ji(g:P q=true):∀{l},q <:+ l->q <:+ kc P l
 |[],h=>h
 |a::l,h=>by
  unfold kc;split
  .exact h
  .rename_i hn;rcases List.suffix_cons_iff.mp h with e |h
   .grind
   .exact ji g h
end
section
variable{l q u:List Nat}{c:Nat}
theorem AD:∀{q l:List Nat},q <:+ l++[c]->q=[]\/∃u,q=u++[c]/\u <:+ l:=λ{q l} h=>by
 rcases wgG q with e |⟨u,d,e⟩
 .exact .inl e
 .right
  rw[List.concat_eq_append]at e;obtain⟨t,a⟩:=h;subst e;rw[<-waQ]at a;have b:=whU a rfl;have hd:d=c:=by grind
  exact{u,by rw[hd],t,b.1}
end
section
variable{W:List (List Nat)}{P:List Nat->Bool}{l:List Nat}{c:Nat}
theorem FA(r:∀x,P x=true↔Pl W x)(j:Good W l)(g:∀w∈W,w≠[]):Good W (kc P l++[c])↔Good W (l++[c]):=by
 have f:=jh (P:=P) l;constructor
 .intro h w hw hi;rcases CM hi with z |z
  .exact j w hw z
  .rcases AD z with e |⟨u,rfl,d⟩
   .exact g w hw e
   .have a:Pl W u:=by
     by_cases e:u=[]
     .exact .inl e
     .exact .inr {{_,hw,web u [c],by simp},j.sub d.isInfix}
    have:=ji ((r u).mpr a) d;obtain⟨t,b⟩:=this;exact h _ hw (show u++[c] <:+ kc P l++[c] from {t,by rw[<-waQ,b]}).isInfix
 .intro h;obtain⟨t,b⟩:=f;exact h.sub (show kc P l++[c] <:+ l++[c] from {t,by rw[<-waQ,b]}).isInfix
theorem CQ(g:∀x,P x=true↔Pl W x)(j:Good W l):kc P (kc P l++[c])=kc P (l++[c]):=by
 have d:=jh (P:=P) l;have h0:P []=true:=(g []).mpr (.inl rfl)
 have b:kc P l++[c] <:+ l++[c]:=by
  obtain⟨t,f⟩:=d;exact{t,by grind}
 refine IP (ji (vz h0 _) ((jh _).trans b)) (ji (vz h0 _) ?_);rcases AD (jh (P:=P) (l++[c])) with e |⟨u,e,h⟩
 .rw[e];exact List.nil_suffix
 .have a:=(g _).mp (vz h0 (l++[c]));rw[e]at a ⊢;obtain⟨t,f⟩:=ji ((g u).mpr a.init) h;exact{t,by grind}
end
end AC
open AC
namespace Bs
theorem dg(ws:List Str)(r:Str):bears ws r=false↔Good (wl ws) (ch r):=by simp_all [bears,Good,wl,wfm,Kr,ch]
theorem mem_keys:k∈bJ ws "" ws↔Pl (wl ws) (ch k):=by
 rw[iV];constructor
 .rintro(rfl |⟨w,hw,i,hi,e,a⟩)
  .exact .inl rfl
  .right
   refine{{ch w,wab.mpr ⟨w,hw,rfl⟩,?_,?_},(dg ws k).mp a}
   .rw[e,fI];exact wdJ _ _
   .rw[e,fI,wad,aE];omega
 .rintro(h |⟨⟨v,b,c,hl⟩,d⟩)
  .exact .inl (cF h)
  .by_cases h0:ch k=[]
   .exact .inl (cF h0)
   obtain⟨w,hw,rfl⟩:=wab.mp b
   right
   rw[aE,aE]at hl;have f:k.length≠0:=λz=>h0 (qU z);refine{w,hw,k.length-1,(),cF ?_,(dg ws k).mpr d};rw[fI,show 1+(k.length-1)=k.length by omega,<-aE k];exact(wg0.mp c)
theorem IQ(g:ss.Perm (bJ ws "" ws))(l:List Nat):QF ss l=true↔Pl (wl ws) l:=by
 have e:ch ⟨l.toArray⟩=l:=rfl;rw[<-e,jT,g.mem_iff,mem_keys]
theorem yc{P:List Nat->Bool}(h0:P []=true):∀{l:List Nat} {n:Nat},P (l.drop n)=true->(∀m,m<n->P (l.drop m)=false)->kc P l=l.drop n
 |[],n,_,_=>by simp[kc]
 |a::l,0,b,_=>by
  unfold kc;rw[wdz]at b;rw[if_pos b];rfl
 |a::l,n+1,b,c=>by
  have:=c 0 (by lia);rw[wdz]at this;unfold kc;rw[this,if_neg (by simp),List.drop_succ_cons];exact yc h0 (by grind) λm d=>by grind
theorem kd(he:("":Str)∈ss)(r:Str):ch (lend ss r)=kc (QF ss) (ch r):=by
 have c:∃n,n<=r.length/\bq r n∈ss/\∀m,m<n->bq r m∉ss:=by
  have f:∃n,bq r n∈ss:={r.length,by rw[hF];exact he}
  have key:∀k,(∃n,n<k/\bq r n∈ss/\∀m,m<n->bq r m∉ss)\/∀m,m<k->bq r m∉ss:=by
   intro k
   induction k with
   |zero=>right;intro m a;lia
   |succ k d=>
    rcases d with⟨n,hn,h⟩ |h
    .exact .inl {n,by lia,h}
    .by_cases hk:bq r k∈ss
     .exact .inl {k,by lia,hk,h}
     .right
      intro m a
      by_cases e:m=k
      .rw[e];exact hk
      .exact h m (by lia)
  rcases key (r.length+1) with⟨n,hn,h⟩ |h
  .exact{n,by lia,h}
  .exact absurd (by rw[hF];exact he) (h r.length (by lia))
 obtain⟨n,hn,a,hl⟩:=c;unfold lend;rw[oW a hl hn,eD];refine(yc (jT (k:="").mpr he) ?_ λm b=>?_).symm
 .rw[<-eD];exact jT.mpr a
 .rw[<-eD];have:=hl m b;rw[<-jT]at this;simpa using this
theorem pw(he:("":Str)∈ss)(r:Str):lend ss r∈ss:=by
 rw[<-jT,kd he];exact vz (jT (k:="").mpr he) _
theorem FC(hw:∀w∈ws,1<=w.length):bears ws ""=false:=by
 refine(dg ws "").mpr λw a hi=>?_;obtain⟨v,b,rfl⟩:=wab.mp a;have d:=hw v b;have c:=hi.length_le;rw[aE]at c;have:(ch ("":Str)).length=0:=rfl
 lia
theorem CT(he:("":Str)∈ss)(h:r∈qX g ws ss q):r.2∈ss/\r.1.length=q.1.length+1:=by
 unfold qX at h;obtain⟨c,_,e⟩:=wdW.mp h;split at e
 .cases e
 .cases e;exact{pw he _,len_app _ _}
theorem vA(he:("":Str)∈ss)(j:p∈ss):∀n,∀r∈vm g ws ss p n,r.2∈ss/\r.1.length=n
 |0,r,h=>by
  rw[wao.mp h];exact⟨j,rfl⟩
 |n+1,r,h=>by
  obtain⟨q,a,b⟩:=wcH.mp h;have:=CT he b;have:=(vA he j n q a).2;exact{‹r.2∈ss/\_›.1,by lia}
theorem wD.line{B:Str->List (Str×Str)}(h:wD B hs lns)(hl:lns.length=hs.length)(g:∀p,(B p).length<=b):∀l∈lns,l.length<=b*hs.length:=by
 intro l j;obtain⟨i,hi,e⟩:=wbZ j;have f:lns[i]?=some l:=by rw[wa1 hi,e]
 have a:hs[i]?=some (hs[i]'()):=wa1 _;generalize hs[i]'()=p at a
 have one:∀z,l.count z<=1:=λz=>by
  have c:=k6 (z:=z) a f;have d:=h p z.1 z.2;rw[show ((z.1,z.2):Str×Nat)=z from rfl]at d;rw[d]at c;split at c<;>omega
 have nd:l.Nodup:=List.nodup_iff_count.mpr one
 have sub:∀z∈l,z∈((B p).map (·.1)).flatMap λw=>(waD hs.length).map λe=>(w,e):=λz k=>by
  have c:=k6 (z:=z) a f;have d:=h p z.1 z.2;rw[show ((z.1,z.2):Str×Nat)=z from rfl]at d;rw[d]at c;have m:0<l.count z:=wc8.mpr k
  by_cases hc:z.2<hs.length/\p∈hs/\(z.1,hs.getD z.2 "")∈B p
  .exact wcH.mpr {z.1,wab.mpr {_,hc.2.2,rfl},wab.mpr {z.2,wb7.mpr hc.1,rfl}}
  .rw[if_neg hc]at c;omega
 have c:=vx nd sub
 have d:(((B p).map (·.1)).flatMap λw=>(waD hs.length).map λe=>(w,e)).length<=(B p).length*hs.length:=by
  have:=uP (λw=>(waD hs.length).map λe=>((w,e):Str×Nat)) hs.length ((B p).map (·.1)) λw _=>by rw[wa0,waJ];exact waa _
  rwa[wa0]at this
 exact wal c (wal d (weU _ (g p)))
structure Above(lns:List (List (Str×Nat)))(many:Int)(ks:List Nat):Prop where
 sub:ks.Sublist (waD lns.length)
 top:∀S,DF lns many S->∀d∈S,d∈ks
theorem Above.start(lns:List (List (Str×Nat)))(many:Int):Above lns many (waD lns.length):={wfr _,λS h d hd=>wb7.mpr (h d hd).1}
theorem Above.next(h:Above lns many g):Above lns many (uX lns many g):=by
 refine{wdN.trans h.sub,λS a d hd=>wau.mpr {h.top S a d hd,decide_eq_true ?_}};have b:=(a d hd).2;have c:=xZ (h.top S a) (lns.getD d [])
 lia
theorem Above.stays(h:Above lns many g)(e:uX lns many g=g):DF lns many g:=λd hd=>by
 refine{wb7.mp (h.sub.subset hd),?_};rw[<-e]at hd;exact of_decide_eq_true (wau.mp hd).2
structure oy(lns:List (List (Str×Nat)))(many:Int)(ks:List Nat):Prop where
 ab:Above lns many ks
 st:DF lns many ks
theorem AF{many h:Int}{hs:List Str}{ws:List Int}{lns:List (List (Str×Nat))}(S:iG many hs ws lns)(K:oy lns many [])(t:h∈ws)(C:∀w∈ws,w<=h)(m1:1<=many) :
 ∃(d i:Nat) (g:List (Str×Nat)) (q:Str×Nat),lns[d]?=some g/\g[i]?=some q/\ws.getD d 0=h/\ws.getD q.2 0<h:=by
 have f:=S.w;have v:=S.l
 by_cases s:∃(d i:Nat) (g:List (Str×Nat)) (q:Str×Nat),lns[d]?=some g/\g[i]?=some q/\ws.getD d 0=h/\ws.getD q.2 0<h
 .exact s
 exfalso
 have all:∀(d:Nat) (g:List (Str×Nat)),lns[d]?=some g->ws.getD d 0=h->∀q∈g,ws.getD q.2 0=h:=λd g hd hw q c=>by
  obtain⟨i,hi,e⟩:=wbZ c;have x:¬ws.getD q.2 0<h:=λz=>s {d,i,g,q,hd,by rw[wa1 hi,e],hw,z};have o:=C _ (jb (ws:=ws) (i:=q.2) (by rw[f];exact S.e g (wa8 hd) q c))
  lia
 obtain⟨y,j,A⟩:=wbZ t;have x:1<=h:=S.p h t
 have r:DF lns many ((waD ws.length).filter λd=>decide (ws.getD d 0=h)):=λd hd=>by
  obtain⟨u,n⟩:=wau.mp hd;have u:=wb7.mp u;have n:ws.getD d 0=h:=of_decide_eq_true n;have k:d<lns.length:=by lia
  have c:lns[d]?=some (lns.getD d []):=by rw[wa4,wa1 k];rfl
  refine{k,?_};have m:=all d _ c n;have B:cR ((waD ws.length).filter λd=>decide (ws.getD d 0=h)) (lns.getD d [])=lns.getD d []:=wb1.mpr λq a=>decide_eq_true (wau.mpr {wb7.mpr (by rw[f];exact S.e _ (wa8 c) q a),decide_eq_true (m q a)});rw[B];have o:=S.b d _ c;have D:=oo (lns.getD d []) λq a=>Int.le_of_eq (m q a);rw[n]at o;have E:many*h<=((lns.getD d []).length:Int)*h:=we8 o D;exact wfj E (by lia)
 have:=K.ab.top _ r y (wau.mpr {wb7.mpr j,decide_eq_true (by rw[wa4,wa1 j,A];rfl)});cases this
theorem La{many h:Int}{hs:List Str}{ws:List Int}{lns:List (List (Str×Nat))}(S:iG many hs ws lns)(m1:1<=many){d i0:Nat}{g:List (Str×Nat)}{q:Str×Nat}(D:Down ws lns h d i0 g q){i j:Nat}(p:i<j)(C:j<=(numsOf g.length i0 (many-1).toNat).length)
 (r:((((numsOf g.length i0 (many-1).toNat).take j).drop i).map λn=>(g.map λq=>ws.getD q.2 0).getD n 0).sum%many=0) :
 dW ws lns many (d:Int) (nI (((numsOf g.length i0 (many-1).toNat).take j).drop i)) (((((numsOf g.length i0 (many-1).toNat).take j).drop i).map λn=>(g.map λq=>ws.getD q.2 0).getD n 0).sum/many)=true:=by
 have b:i0<g.length:=(wa6.mp D.s).1;have hl:=y4 S D;have u:=Ax (k:=(many-1).toNat) b (by lia);have c:=C6 g.length i0 (many-1).toNat;have f:=yZ (k:=(many-1).toNat) b;have m:i0∈numsOf g.length i0 (many-1).toNat:=wag ..;generalize numsOf g.length i0 (many-1).toNat=a at *;have sub:((a.take j).drop i).Sublist a:=(whB _ _).trans (wbp _ _);have len:((a.take j).drop i).length=j-i:=by rw[waW,wad];lia
 have o:∀n∈(a.take j).drop i,n<g.length:=λn hn=>f n (sub.subset hn);have e:((a.take j).drop i).map (λn=>(g.map λq=>ws.getD q.2 0).getD n 0)=((a.take j).drop i).map λn=>ws.getD (g.getD n ("",0)).2 0:=waX λn hn=>Nu ws (o n hn);rw[e]at r ⊢;have v:g.getD i0 ("",0)=q:=by rw[wa4,D.s];rfl
 refine Fq S (i0:=i0) D.t D.l D.e m1 (c.sublist sub) o (λz=>?_) ?_ (λz=>?_) (by rw[v];exact D.lt) ?_
 .rw[z]at len;have:(0:Nat)=j-i:=len
  lia
 .rw[len];lia
 .have w:(a.take j).drop i=a:=sub.eq_of_length (by grind);rw[w];exact m
 .have:=wgD ((((a.take j).drop i).map λn=>ws.getD (g.getD n ("",0)).2 0).sum) many
  lia
theorem f9.whole{f:Str->Int}(h:f9 g bw ss ls many n f r hs ws lns)(t:(ls.map f).sum<=40)(j:g.length^n<=64):Mh hs ws lns:=by
 have hl:=h.len;refine{h.b.w,h.b.l,h.b.e,by lia,λl a=>?_};have c:=h.cv.line h.b.l (b:=64) (λp=>wal (gm g bw ss ls n p) j) l a;have d:64*hs.length<=64*40:=wcd _ (by lia)
 lia
theorem wD.word(h:wD (aU g bw ss ls n) hs lns)(hl:lns.length=hs.length)(j:∀p∈hs,p∈ss)(he:("":Str)∈ss):∀l∈lns,∀q∈l,q.1.length=n:=by
 intro l d q f;obtain⟨i,hi,e⟩:=wbZ d;have a:i<hs.length:=by lia
 have b:0<gC hs[i] (q.1,q.2) hs lns:=by
  have k:hs[i]?=some hs[i]:=wa1 a;have m:lns[i]?=some l:=by rw[wa1 hi,e]
  have:=k6 (z:=(q.1,q.2)) k m;have hc:0<l.count (q.1,q.2):=wc8.mpr f
  lia
 rw[h hs[i] q.1 q.2]at b
 by_cases c:q.2<hs.length/\hs[i]∈hs/\(q.1,hs.getD q.2 "")∈aU g bw ss ls n hs[i]
 .exact(vA he (j _ (waK a)) n _ (wau.mp c.2.2).1).2
 .rw[if_neg c]at b
  lia
section
variable{ws ss:List Str}{r:Str}{c:Nat}
theorem IU(he:("":Str)∈ss):lend ss ""="":=by
 refine cF ?_;rw[kd he];rfl
theorem n7(g:ss.Perm (bJ ws "" ws))(j:bears ws r=false):lend ss (lend ss r++{#[c]})=lend ss (r++{#[c]}):=by
 have a:("":Str)∈ss:=g.mem_iff.mpr (bP ws);refine cF ?_;rw[kd a,aX,kd a,kd a,aX];exact CQ (IQ g) ((dg ws r).mp j)
theorem ke(g:ss.Perm (bJ ws "" ws))(j:bears ws r=false)(hw:∀w∈ws,1<=w.length):bears ws (lend ss r++{#[c]})=bears ws (r++{#[c]}):=by
 have b:("":Str)∈ss:=g.mem_iff.mpr (bP ws)
 have a:∀w∈wl ws,w≠[]:=by
  intro w d z;obtain⟨v,e,rfl⟩:=wab.mp d;have:=hw v e;rw[<-aE,z]at this;simp at this
 have:=FA (c:=c) (IQ g) ((dg ws r).mp j) a;rw[show [c]=ch ({#[c]}:Str) from rfl,<-kd b,<-aX,<-aX,<-dg,<-dg]at this;cases f:bears ws (lend ss r++⟨#[c]⟩)<;>cases h:bears ws (r++⟨#[c]⟩)<;>simp[f,h]at this ⊢
theorem hH(h:ch a <:+: ch b)(g:bears ws b=false):bears ws a=false:=(dg ws a).mpr (((dg ws b).mp g).sub h)
theorem vB(j:ss.Perm (bJ ws "" ws))(l:bears ws e=false)(g:e.length≠0):jO ws e=true↔e∈ss:=by
 rw[j.mem_iff,mem_keys];unfold jO;rw[wbN];constructor
 .rintro⟨w,hw,h⟩;rw[wbc,decide_eq_true_iff,ou]at h;exact .inr {{ch w,wab.mpr ⟨w,hw,rfl⟩,h.2,by rw[aE,aE];exact h.1},(dg ws e).mp l}
 .rintro(h |⟨⟨v,b,c,a⟩,_⟩)
  .rw[<-aE,h]at g;exact absurd rfl g
  .obtain⟨w,hw,rfl⟩:=wab.mp b;refine{w,hw,?_};rw[wbc,decide_eq_true_iff,ou];exact{by rw[aE,aE]at a;exact a,c}
theorem AG(g:ss.Perm (bJ ws "" ws))(hw:∀w∈ws,w.length<=5)(j:bears ws r=false)(h0:n0<=r.length-5)(hn:n<=r.length)(hl:∀m,n0<=m->m<n->jO ws (bq r m)=false)(h:n=r.length\/jO ws (bq r n)=true):lend ss r=bq r n:=by
 have d:("":Str)∈ss:=g.mem_iff.mpr (bP ws);have f:∀m,bears ws (bq r m)=false:=λm=>hH (by rw[eD];exact(whQ _ _).isInfix) j;have len:∀m,(bq r m).length=r.length-m:=λm=>by rw[<-aE,eD,waW,aE]
 unfold lend;rw[oW (n:=n) ?_ ?_ hn]
 .rcases h with rfl |h
  .rw[hF];exact d
  .by_cases e:n=r.length
   .subst e;rw[hF];exact d
   .exact(vB g (f n) (by rw[len];omega)).mp h
 .intro m i a
  by_cases b:n0<=m
  .have:=hl m b i;rw[(vB g (f m) (by rw[len];omega)).mpr a]at this;cases this
  .rw[g.mem_iff,mem_keys]at a;rcases a with z |⟨⟨v,k,o,l⟩,_⟩
   .have:=congrArg wdt z;rw[aE,len]at this;simp at this;omega
   .obtain⟨w,c,rfl⟩:=wab.mp k;rw[aE,aE,len]at l;have:=hw w c;omega
theorem oz(j:ss.Perm (bJ ws "" ws))(hw:∀w∈ws,1<=w.length)(h:p∈ss):bears ws p=false/\lend ss p=p:=by
 have a:("":Str)∈ss:=j.mem_iff.mpr (bP ws);constructor
 .rcases mem_keys.mp (j.mem_iff.mp h) with z |z
  .have:p="":=cF (by rw[z];exact(qU rfl).symm);rw[this];exact FC hw
  .exact(dg ws p).mpr z.2
 .refine cF ?_;rw[kd a];have b:QF ss (ch p)=true:=jT.mpr h;exact IP (jh _) (ji b (wfR _))
theorem AH(g:ss.Perm (bJ ws "" ws))(hw:∀w∈ws,1<=w.length)(l:bears ws r=false)(w:Str):∀i,i<=w.length->bears ws (lend ss r++bZ w i)=bears ws (r++bZ w i)/\(bears ws (r++bZ w i)=false->lend ss (lend ss r++bZ w i)=lend ss (r++bZ w i))
 |0,_=>by
  have n:("":Str)∈ss:=g.mem_iff.mpr (bP ws);rw[take_zero,jU,jU];obtain⟨o,p⟩:=oz g hw (pw n r);exact{by rw[o,l],λ_=>p}
 |i+1,hi=>by
  obtain⟨f,j⟩:=AH g hw l w i ();have hc:(ch w)[i]?=some ((ch w)[i]'(by rw[aE];omega)):=wa1 _;generalize (ch w)[i]'(by rw[aE];omega)=c at hc;rw[take_snoc hc,<-eE,<-eE]
  cases d:bears ws (r++bZ w i) with
  |true=>
   have up:∀q:Str,bears ws q=true->bears ws (q++{#[c]})=true:=λq s=>by
    cases e:bears ws (q++⟨#[c]⟩) with
    |true=>rfl
    |false=>
     have:=hH (a:=q) (b:=q++({#[c]}:Str)) (by rw[aX];exact(web _ _).isInfix) e;rw[s]at this;cases this
   rw[up _ d,up _ (f.trans d)];exact{rfl,λz=>by cases z}
  |false=>
   have hl:=j d;have h:=f.trans d;have t:=ke (c:=c) g d hw;have k:=ke (c:=c) g h hw;have u:=n7 (c:=c) g d;have m:=n7 (c:=c) g h;rw[hl]at k m;exact{k.symm.trans t,λ_=>m.symm.trans u}
theorem O7(g:ss.Perm (bJ ws "" ws))(hw:∀w∈ws,1<=w.length)(j:bears ws r=false){w:Str}(h:bears ws (lend ss r++w)=false):bears ws (r++w)=false/\lend ss (r++w)=lend ss (lend ss r++w):=by
 obtain⟨a,b⟩:=AH g hw j w w.length (waa _);rw[take_all]at a b;rw[h]at a;exact{a.symm,(b a.symm).symm}
end
section
variable{g:Str}{ws ss ls:List Str}{p:Str}
theorem IV(h:bears ws (p++a)=true):jW ws ss p (a++c)=none:=by
 unfold jW;rw[if_pos]
 cases e:bears ws (p++(a++c)) with
 |true=>rfl
 |false=>
  have:=hH (a:=p++a) (b:=p++(a++c)) (by rw[<-eE,aX (p++a) c];exact{[],ch c,by simp}) e;rw[h]at this;cases this
theorem yd(l:ss.Perm (bJ ws "" ws))(hw:∀w∈ws,1<=w.length)(h:bears ws (p++r)=false):∀j:List Nat,(j.filterMap λc=>if bears ws (lend ss (p++r)++{#[c]})=true then none else some (r++({#[c]}:Str),lend ss (lend ss (p++r)++({#[c]}:Str))))=(j.map λc=>r++({#[c]}:Str)).filterMap (jW ws ss p)
 |[]=>rfl
 |c::j=>by
  rw[wat,wbl,wbl,yd l hw h j]
  have e:(if bears ws (lend ss (p++r)++{#[c]})=true then none else some (r++({#[c]}:Str),lend ss (lend ss (p++r)++({#[c]}:Str))))=jW ws ss p (r++{#[c]}):=by
   unfold jW;rw[ke l h hw,n7 l h,eE]
  rw[e]
theorem AI(j:ss.Perm (bJ ws "" ws))(hw:∀w∈ws,1<=w.length):∀L:List Str,fJ g ws ss (L.filterMap (jW ws ss p))=(L.flatMap λr=>(ch g).map λc=>r++({#[c]}:Str)).filterMap (jW ws ss p)
 |[]=>rfl
 |r::L=>by
  rw[wej,wgH,<-AI j hw L,wbl]
  cases h:bears ws (p++r) with
  |true=>
   have e:jW ws ss p r=none:=by unfold jW;rw[if_pos h]
   rw[e,uT (l:=(ch g).map λc=>r++({#[c]}:Str)) λa ha=>by grind [IV]];rfl
  |false=>
   have e:jW ws ss p r=some (r,lend ss (p++r)):=by unfold jW;rw[if_neg (by rw[h];exact wan)]
   rw[e,<-yd j hw h];exact wej ..
theorem vC(l:ss.Perm (bJ ws "" ws))(hw:∀w∈ws,1<=w.length)(j:p∈ss):∀n,vm g ws ss p n=(JA g n).filterMap (jW ws ss p)
 |0=>by
  obtain⟨b,a⟩:=oz l hw j;show [(("":Str),p)]=[("":Str)].filterMap (jW ws ss p);have e:jW ws ss p ""=some (("":Str),p):=by unfold jW;rw[jU,a,if_neg (by grind)]
  rw[wbl,e];rfl
 |n+1=>by
  show fJ g ws ss (vm g ws ss p n)=((JA g n).flatMap λr=>(ch g).map λc=>r++({#[c]}:Str)).filterMap (jW ws ss p);rw[vC l hw j n,AI l hw]
theorem CU(l:ss.Perm (bJ ws "" ws))(hw:∀w∈ws,1<=w.length)(j:p∈ss)(n:Nat):(JA g n).filterMap (Kv ws ss ls p)=aU g ws ss ls n p:=by
 unfold aU;rw[vC l hw j]
 have:∀L:List Str,L.filterMap (Kv ws ss ls p)=(L.filterMap (jW ws ss p)).filter λq=>decide (q.2∈ls):=by
  intro L
  induction L with
  |nil=>rfl
  |cons r L a=>
   rw[wbl,wbl,a];unfold Kv jW
   cases h:bears ws (p++r) with
   |true=>rfl
   |false=>
    rw[if_neg wan,if_neg wan]
    by_cases hl:lend ss (p++r)∈ls
    .rw[if_pos hl,wb5 (by exact decide_eq_true hl)]
    .rw[if_neg hl,wba (by simpa using hl)]
 exact this _
end
theorem zr(nd:(ch g).Nodup)(l:ss.Perm (bJ ws "" ws))(hw:∀w∈ws,1<=w.length)(j:p∈ss)(n:Nat):((aU g ws ss ls n p).map (·.1)).Nodup:=by
 rw[<-CU l hw j n];refine List.Nodup.sublist (iU (λr x e=>?_) _) (by rw[u9];exact y9 nd n);unfold Kv at e;split at e
 .cases e
 .grind
theorem wD.first{g:Str}{ws ss ls:List Str}{n:Nat}{hs:List Str}(nd:(ch g).Nodup)(l:ss.Perm (bJ ws "" ws))(hw:∀w∈ws,1<=w.length)(j:∀p∈hs,p∈ss)(hn:hs.Nodup):wD (aU g ws ss ls n) hs (bD g ws ss ls n hs):=by
 intro p w e;unfold bD;rw[vy p (w,e) _ hs hn]
 by_cases h:p∈hs
 .rw[if_pos h];unfold gn;rw[CD (yW (zr nd l hw (j p h) n)) hn];exact RX {λz=>⟨z.1,h,z.2⟩,λz=>⟨z.1,z.2.2⟩}
 .rw[if_neg h,if_neg (λz=>h z.2.1)]
theorem iG.first{f:Str->Int}(hn:∀p∈ls,0<=f p)(j:G9 g ws ss ls many n f):iG many (av ls f) ((av ls f).map f) (bD g ws ss ls n (av ls f)):=by
 have a:∀p∈av ls f,p∈ls/\0<f p:=λp b=>{(wau.mp b).1,of_decide_eq_true (wau.mp b).2};refine{wa0 _,wa0 _,λw hw=>?_,λl hl q c=>?_,λi l hl=>?_}
 .obtain⟨p,b,rfl⟩:=wab.mp hw;have:=(a p b).2
  lia
 .obtain⟨p,b,rfl⟩:=wab.mp hl;obtain⟨z,d,rfl⟩:=wab.mp c;exact List.idxOf_lt_length_of_mem (of_decide_eq_true (wau.mp d).2)
 .unfold bD at hl;rw[wa3]at hl
  cases e:(av ls f)[i]? with
  |none=>rw[e]at hl;cases hl
  |some p=>
   rw[e]at hl;cases hl;rw[HF hn,wa4,wa3,e];exact j p (a p (wa8 e)).1
theorem f9.start{f:Str->Int}(nd:(ch g).Nodup)(j:ss.Perm (bJ bw "" bw))(hw:∀w∈bw,1<=w.length)(l:∀p∈ls,p∈ss)(hl:ls.Nodup)(hn:∀p∈ls,0<=f p)(r:G9 g bw ss ls many n f) :
 f9 g bw ss ls many n f [] (av ls f) ((av ls f).map f) (bD g bw ss ls n (av ls f)):=
 {.nil,iG.first hn r,wD.first nd j hw (λp j=>l p (wau.mp j).1) (hl.filter _),xS hn,whi _,λp j=>(wau.mp j).1}
noncomputable def lY(p b:Addr)(many wide:Int)(h l:Addr)(o:Str)(i:Int):List (Str×V):=[("scheme",.ref p),("band",.ref b),("many",.int many),("wide",.int wide),("homes",.ref h),("lines",.ref l),("opening",.str o),("first",.int i)]
structure AJ(K:wa2)(C CP CS:Addr)(H:Hp)(x xb:Addr)(many:Int)(n:Nat)(m:List (Str×Int))(qB:List z4)(ks:List Nat)(hs:List Str)(ws:List Int)(lns:List (List (Str×Nat)))(b:Nat):Prop where
 ex:∃dx p a l,H x=some (.ins C dx (lY p xb many (n:Int) a l (cH (f7 lns ks many.toNat) 0 (waj b 0)).1 ((cH (f7 lns ks many.toNat) 0 (waj b 0)).2:Int)))/\ow K CP CS H p m qB ks hs ws lns/\bK K H (se (ks.map λd=>hs.getD d "")) (.ref a)/\bK K H (jY (f7 lns ks many.toNat)) (.ref l)
theorem wD.Er{g:Str}{bw ss ls:List Str}{n:Nat}{hs:List Str}{lns:List (List (Str×Nat))}(h:wD (aU g bw ss ls n) hs lns)(hl:lns.length=hs.length)(j:∀p∈hs,p∈ss)(l:ss.Perm (bJ bw "" bw))(hw:∀w∈bw,1<=w.length){i:Nat}(hi:i<hs.length){q:Str×Nat}(r:q∈lns.getD i []):bears bw (hs.getD i ""++q.1)=false/\lend ss (hs.getD i ""++q.1)=hs.getD q.2 ""/\q.1∈JA g n:=by
 have k:hs.getD i ""=hs[i]:=by rw[wa4,wa1 hi];rfl
 have m:hs[i]?=some hs[i]:=wa1 hi;have o:lns[i]?=some (lns.getD i []):=by rw[wa4,wa1 (by lia)];rfl
 have a:0<gC hs[i] (q.1,q.2) hs lns:=by
  have:=k6 (z:=(q.1,q.2)) m o;have hc:0<(lns.getD i []).count (q.1,q.2):=wc8.mpr r
  lia
 rw[h hs[i] q.1 q.2]at a
 by_cases c:q.2<hs.length/\hs[i]∈hs/\(q.1,hs.getD q.2 "")∈aU g bw ss ls n hs[i]
 .have e:=(wau.mp c.2.2).1;rw[vC l hw (j _ (waK hi))]at e;obtain⟨z,s,d⟩:=wdW.mp e;unfold jW at d;rw[k]
  by_cases b:bears bw (hs[i]++z)=true
  .rw[if_pos b]at d;cases d
  .rw[if_neg b]at d;have f:=waf d;have t:z=q.1:=congrArg Prod.fst f;have u:lend ss (hs[i]++z)=hs.getD q.2 "":=congrArg Prod.snd f;subst t;exact{by simpa using b,u,s}
 .rw[if_neg c]at a
  lia
theorem dY.start{H:Hp}(h:H a=none):dY H (upd H a (.dK [])) a []:=
 {a8.upd h,h,[],a7,waa _,λ_=>.inl ⟨rfl,rfl⟩,λ_ _ _ h=>nomatch h}
section
variable(p b h l:Addr)(many wide i:Int)(o:Str)
theorem QO:cL "first" (.int i) (OI p b many wide h l o)=lY p b many wide h l o i:=fk (by show ("first":Str)∉[("scheme":Str),"band","many","wide","homes","lines","opening"];decide+kernel)
theorem zt:(lY p b many wide h l o i).lookup ("scheme":Str)=some (.ref p):=dI (fs:=[]) ∅
theorem kg:(lY p b many wide h l o i).lookup ("band":Str)=some (.ref b):=dI (fs:=Nv p) (by show ("band":Str)∉[("scheme":Str)];decide+kernel)
theorem CV:(lY p b many wide h l o i).lookup ("many":Str)=some (.int many):=dI (fs:=OH p b) (by show ("many":Str)∉[("scheme":Str),"band"];decide+kernel)
theorem ic:(lY p b many wide h l o i).lookup ("wide":Str)=some (.int wide):=dI (fs:=Nw p b many) (by show ("wide":Str)∉[("scheme":Str),"band","many"];decide+kernel)
theorem sj:(lY p b many wide h l o i).lookup ("homes":Str)=some (.ref h):=dI (fs:=Mj p b many wide) (by show ("homes":Str)∉[("scheme":Str),"band","many","wide"];decide+kernel)
theorem sq:(lY p b many wide h l o i).lookup ("lines":Str)=some (.ref l):=dI (fs:=Ml p b many wide h) (by show ("lines":Str)∉[("scheme":Str),"band","many","wide","homes"];decide+kernel)
theorem nv:(lY p b many wide h l o i).lookup ("opening":Str)=some (.str o):=dI (fs:=Hu p b many wide h l) (by show ("opening":Str)∉[("scheme":Str),"band","many","wide","homes","lines"];decide+kernel)
theorem AK:(lY p b many wide h l o i).lookup ("first":Str)=some (.int i):=dI (fs:=OI p b many wide h l o) (by show ("first":Str)∉[("scheme":Str),"band","many","wide","homes","lines","opening"];decide+kernel)
theorem bE(hn:n∉[("scheme":Str),"band","many","wide","homes","lines","opening","first"]):(lY p b many wide h l o i).lookup n=none:=i7 hn
end
section
variable{ws ss:List Str}
theorem ye(g:ss.Perm (bJ ws "" ws))(hw:∀w∈ws,w.length<=5)(j:bears ws r=false)(h0:n0<=r.length-4)(hn:n<=r.length)(hl:∀m,n0<=m->m<n->jO ws (bq r m)=false)(h:n=r.length\/jO ws (bq r n)=true):lend ss r=bq r n:=by
 by_cases d:r.length<=4
 .exact AG g hw j (n0:=0) (waq _) hn (λm _ a=>hl m (by lia) a) h
 .refine AG g hw j (n0:=r.length-5) (waa _) hn (λm c a=>?_) h
  by_cases e:m=r.length-5
  .subst e;unfold jO;rw[wfm];intro w b;have dl:(bq r (r.length-5)).length=5:=by rw[<-aE,eD,waW,aE];lia
   have:=hw w b;rw[dl,decide_eq_false (by lia)];exact λz=>nomatch z
  .exact hl m (by lia) a
end
end Bs
namespace L2
open PySem.Spec PyProof.Rows
section
variable{X:Cx}{tg:Expr}
theorem Lb(g:ss.Perm (bJ ws "" ws))(hw:∀w∈ws,1<=w.length)(j:bears ws r=false) :
 ua ws ss (lend ss r) c=if bears ws (r++{#[c]})=true then .non else .str (lend ss (r++{#[c]})):=by grind [ua,ke,n7]
theorem CW(he:("":Str)∈ss)(h:t∈gJ g ws ss p):t∈ss:=by grind [gJ,pw]
theorem CY{g:List (Addr×Obj)}{σ:St}{H:Hp}{s:Shared}{R:It->Hp->Prop}{E:Value->Shared->Prop}{lo hi:Int}{t u v:Tok}(I:Inv X g σ H s)(j:0<=lo)(l:lo<=1000000)(p:0<=hi)(r:hi<=1000000)
 (q:R (Bu lo (-1) (lo-hi).toNat) H):wpAny (model X.prog X.w) X.A (pyIter (.ref s.heap.objs.size)) (MZ X g σ tg R) E {s with heap:=s.heap.push {cls:=.type "range",data:=.fields #[.int lo t,.int hi u,.int (-1) v]}}:=by
 have a:wd4 lo hi (-1)=true:=by
  unfold wd4;rw[xt];simp only[wdC,wbc,weO,decide_eq_true_eq,beq_iff_eq,show ¬((-1:Int)>0) by decide,if_false]
  lia
 refine we3 (wgl ..) a ?_;have c:Inv X g σ H {s with heap:=s.heap.push {cls:=.type "range",data:=.fields #[.int lo t,.int hi u,.int (-1) v]}}:=I.kept (t':=s.toks) λb o e=>wa9 _ e
 refine{(s.heap.push {cls:=.type "range",data:=.fields #[.int lo t,.int hi u,.int (-1) v]}).objs.size,[(s.heap.push {cls:=.type "range",data:=.fields #[.int lo t,.int hi u,.int (-1) v]}).objs.size],_,_,H,rfl,
  c.kept (t':=s.toks) λb o e=>wa9 _ e,lO _ lo (-1) (lo-hi).toNat,?_,λb d=>?_,q}
 .have f:lo+((0:Nat):Int)*(-1)=lo:=by simp
  have h:(((lo-hi).toNat:Nat):Int)-((0:Nat):Int)=wb9 lo hi (-1):=by rw[xt];simp
  show wel _ _ (lo+((0:Nat):Int)*(-1)) ((((lo-hi).toNat:Nat):Int)-((0:Nat):Int)) (-1);rw[f,h];exact wap _ rfl
 .have e:b=(s.heap.push {cls:=.type "range",data:=.fields #[.int lo t,.int hi u,.int (-1) v]}).objs.size:=by simpa using d
  subst e;exact c.tH (waa _) (c.b9.fresh (waa _))
theorem FD(C:Gl X "range")(J:X.mg "range"=none)(ha:PA X [a,b,c] T)(hs:starEach [a,b,c] X.env=[(false,eval a X.env),(false,eval b X.env),(false,eval c X.env)]:=by rfl)(g:starEach [b,c] X.env=[(false,eval b X.env),(false,eval c X.env)]:=by rfl) :
 PI X tg (.Call (.Name "range" p) [a,b,c] [] pos) (PB T):=by
 refine{?_};intro d s σ H R I h;refine Call_ (eR I C J wfz (waZ (bN (ha pos d s σ H _ I h) λy z ⟨A,B,m,n,k⟩=>?_) (by rw[hs,g]) (by rw[g];rfl)));obtain⟨i,j,e,⟨k,o,u,v⟩,q⟩:=k;subst e
 cases n with
 |cons r f=>
  cases f with
  |cons w f=>
   cases f with
   |cons l f=>
    cases f;obtain⟨t,rfl⟩:=r;obtain⟨D,rfl⟩:=w;obtain⟨x,rfl⟩:=l;exact whk (by lia) (CY m k o u v q) (.inl (wds (by lia)))
mutual
theorem bK.same{K:wa2}{H g:Hp}(s:a8 H g):∀(d:jE) (v:V),bK K H d v->bK K g d v
 |.at _,_,h=>h
 |.tup c,_,h=>by
  obtain⟨a,b,e,f,hl⟩:=h;exact{a,b,e,s _ _ f,bu.same s c b hl}
 |.lst c,_,h=>by
  obtain⟨a,b,e,f,hl⟩:=h;exact{a,b,e,oM s f,bu.same s c b hl}
theorem bu.same{K:wa2}{H j:Hp}(s:a8 H j):∀(g:List jE) (xs:List V),bu K H g xs->bu K j g xs
 |[],_,h=>h
 |d::g,_,h=>by
  obtain⟨v,a,e,b,hl⟩:=h;exact{v,a,e,bK.same s d v b,bu.same s g a hl}
end
theorem vD{K:wa2}{J:It}{Ok:Hp->Prop}{xs:List V}{l:Addr}{t:St}{U:TE}{H:Hp}{Q:Hp->Prop}(p:List jE)(hJ:lB J Ok xs)(hl:H l=none)(hz:xs.length<=sizeLine)(C:p.length=xs.length)(I:∀g,a8 H g->Ok g)
 (he:∀(i:Nat) (x:V) (d:jE) j T,xs[i]?=some x->p[i]?=some d->a8 H j->(∀y g,a8 j g->bK K (aL j g) d y->T y g)->U (some x::t) j T)
 (hd:∀g,a8 H g->bK K (aL H g) (.lst p) (.ref l)->Q g):nj J l t wx U H Q:=by
 refine uH (λi y g=>∀d,p[i]?=some d->∃j o,a8 H j/\j l=some o/\bK K (aL j g) d y) ?_ hJ hl hz I (λi x j f T k b c m=>?_) (λf g h n e q=>?_)
 .intro i y v w f r s kp d a;obtain⟨j,o,b,c,r⟩:=r d a;exact{j,o,b,c,bK.same (bL c kp) d y r}
 .have hi:i<p.length:=by rw[C];exact(wa6.mp k).1
  refine he i x p[i] j _ k (wa1 hi) b λy g h r=>m y g h λd a=>?_;rw[wa1 hi]at a;cases a;exact{j,_,b,c,r}
 .refine hd g h {l,f,rfl,.inl (bT hl n),bu.qI p f (by rw[C,e]) λi d y a u=>?_};obtain⟨j,o,b,c,r⟩:=q i y u d a;exact bK.same (eF b) d y r
theorem jl{K:wa2}{J:It}{Ok:Hp->Prop}{xs:List V}{prs:List (V×V)}{l:Addr}{I:St}{tt:TT}{te:TE}{H:Hp}{Q:Hp->Prop}(p:V×V->Bool)(D:V×V->jE)(hJ:lB J Ok xs)(C:xs.length=prs.length)
 (hT:∀(i:Nat) (q:V×V),prs[i]?=some q->∃r,xs[i]?=some (.ref r)/\g8 K H r [q.1,q.2]) (hl:H l=none) (hz:xs.length<=sizeLine) (T:∀t,a8 H t->Ok t)
 (ht:∀q g U,q∈prs->a8 H g->(∀t,a8 g t->U (p q) t)->tt (some q.1::some q.2::I) g U)
 (he:∀q g U,q∈prs->p q=true->a8 H g->(∀y t,a8 g t->bK K (aL g t) (D q) y->U y t)->te (some q.1::some q.2::I) g U)
 (hd:∀t,a8 H t->bK K (aL H t) (.lst ((prs.filter p).map D)) (.ref l)->Q t):jL K J l I tt te H Q:=by
 refine{λi m c s=>m=xs.length-i/\i<=xs.length/\a8 H s/\s l=some (.lst c)/\c.length=((prs.take i).filter p).length/\∀(j:Nat) (d:jE) (y:V),(((prs.take i).filter p).map D)[j]?=some d->c[j]?=some y->∃g o,a8 H g/\g l=some o/\bK K (aL g s) d y,
  {xs.length,by simp,waq _,a8.upd hl,a7,by simp,λj d y h=>by simp at h},?_}
 rintro i m c s ⟨rfl,hi,k,N,f,Z⟩;refine{N,?_}
 by_cases n:i<xs.length
 .have hfl:((prs.take i).filter p).length<=i:=wal (wb6 _ _) (by rw[wad];omega);refine .inr {hJ.go i s (T _ k) n,(),λx g y=>?_};obtain⟨e,hx⟩:=hJ.tS i s x g (T _ k) n y;subst e;have hq:prs[i]?=some prs[i]:=wa1 ();obtain⟨r,A,hr⟩:=hT i _ hq;rw[hx]at A;cases A;have mem:prs[i]∈prs:=waK _;have tk:prs.take (i+1)=prs.take i++[prs[i]]:=by rw[waM,hq];rfl
  refine{r,prs[i].1,prs[i].2,rfl,k.JU hr,ht prs[i] _ _ mem k λH4 v=>?_}
  have B:∀(j:Nat) (d:jE) (y:V),(((prs.take i).filter p).map D)[j]?=some d->c[j]?=some y->∃g o,a8 H g/\g l=some o/\bK K (aL g H4) d y:=λj d y h1 h3=>by
   obtain⟨O,o,E,h5,R⟩:=Z j d y h1 h3;exact{O,o,E,h5,bK.same (hV v) d y R}
  cases S:p prs[i] with
  |false=>
   rw[if_neg wan];have G:(prs.take (i+1)).filter p=(prs.take i).filter p:=by rw[tk,wbB];simp[S]
   exact{xs.length-(i+1),(),rfl,n,k.trans v,v _ _ N,by rw[G];exact f,by rw[G];exact B}
  |true=>
   rw[if_pos rfl];have G:(prs.take (i+1)).filter p=(prs.take i).filter p++[prs[i]]:=by rw[tk,wbB];simp[S]
   have w:=v _ _ N;refine he prs[i] _ _ mem S (k.trans v) λy O E R=>{E _ _ w,xs.length-(i+1),(),rfl,n,λb o e=>?_,a7,by rw[G,wa5,wa5,f];rfl,λj d z u a=>?_}
   .rw[af (ag e hl)];exact E _ _ (v _ _ (k _ _ e))
   .have kp:∀b o,O b=some o->b≠l->(upd O l (.lst (c++[y]))) b=some o:=λb o e hb=>by rw[af hb];exact e
    rw[G,wai]at u;have X:(((prs.take i).filter p).map D).length=c.length:=by rw[wa0,f]
    by_cases Y:j<c.length
    .rw[waA ()]at u;rw[waA Y]at a;obtain⟨H6,o,s6,h6,r6⟩:=B j d z u a;exact{H6,o,s6,h6,bK.same ((hV E).trans (bL h6 kp)) d z r6}
    .rw[waB ()]at u a
     have L:j-c.length=0:=by
      have:=(wa6.mp a).1;simp at this;omega
     rw[X,L]at u;rw[L]at a;cases u;cases a;exact{H4,_,k.trans v,w,bK.same (bL w kp) _ _ R}
 .have e:i=xs.length:=();subst e;refine .inl {hJ.stop s (T _ k),hd s k {l,c,rfl,.inl (bT hl N),bu.qI _ c ?_ λj d y u hy=>?_}}
  .rw[C,waH]at f;rw[wa0,f]
  .have M:=Z j d y;rw[C,waH]at M;obtain⟨g,o,s3,h3,r3⟩:=M u hy;exact bK.same (eF s3) d y r3
theorem IW{g:List (Addr×Obj)}{σ:St}{H:Hp}{s:Shared}{R:It->Hp->Prop}{E:Value->Shared->Prop}{c:Int}{m:Nat}{t u v:Tok}(I:Inv X g σ H s)(j:1<=c)(l:c<=1000)(p:c*(m:Int)<=1000000)(r:m<=1000000)
 (q:R (Bu 0 c m) H):wpAny (model X.prog X.w) X.A (pyIter (.ref s.heap.objs.size)) (MZ X g σ tg R) E {s with heap:=s.heap.push {cls:=.type "range",data:=.fields #[.int 0 t,.int (c*(m:Int)) u,.int c v]}}:=by
 have h0:0<=c*(m:Int):=wgI (by lia) (by lia)
 have a:wd4 0 (c*(m:Int)) c=true:=by
  unfold wd4;rw[Dq (by lia)];simp only[wdC,wbc,weO,decide_eq_true_eq,beq_iff_eq,show c>0 by lia,if_true]
  lia
 refine we3 (wgl ..) a ?_;have d:Inv X g σ H {s with heap:=s.heap.push {cls:=.type "range",data:=.fields #[.int 0 t,.int (c*(m:Int)) u,.int c v]}}:=I.kept (t':=s.toks) λb o e=>wa9 _ e
 refine{(s.heap.push {cls:=.type "range",data:=.fields #[.int 0 t,.int (c*(m:Int)) u,.int c v]}).objs.size,[(s.heap.push {cls:=.type "range",data:=.fields #[.int 0 t,.int (c*(m:Int)) u,.int c v]}).objs.size],_,_,H,rfl,
  d.kept (t':=s.toks) λb o e=>wa9 _ e,lO _ 0 c m,?_,λb f=>?_,q}
 .have h:(0:Int)+((0:Nat):Int)*c=0:=by simp
  have i:((m:Nat):Int)-((0:Nat):Int)=wb9 0 (c*(m:Int)) c:=by rw[Dq (by lia)];simp
  show wel _ _ ((0:Int)+((0:Nat):Int)*c) (((m:Nat):Int)-((0:Nat):Int)) c;rw[h,i];exact wap _ rfl
 .have e:b=(s.heap.push {cls:=.type "range",data:=.fields #[.int 0 t,.int (c*(m:Int)) u,.int c v]}).objs.size:=by simpa using f
  subst e;exact d.tH (waa _) (d.b9.fresh (waa _))
theorem FE(l:Gl X "range")(C:X.mg "range"=none)(ha:PA X [a,b,c] J)(hs:starEach [a,b,c] X.env=[(false,eval a X.env),(false,eval b X.env),(false,eval c X.env)]:=by rfl)(g:starEach [b,c] X.env=[(false,eval b X.env),(false,eval c X.env)]:=by rfl) :
 PI X tg (.Call (.Name "range" p) [a,b,c] [] pos) (PD J):=by
 refine{?_};intro d s σ H R I h;refine Call_ (eR I l C wfz (waZ (bN (ha pos d s σ H _ I h) λy z ⟨A,B,k,n,i⟩=>?_) (by rw[hs,g]) (by rw[g];rfl)));obtain⟨c,m,e,i,o,u,v,q⟩:=i;subst e
 cases n with
 |cons r f=>
  cases f with
  |cons w f=>
   cases f with
   |cons j f=>
    cases f;obtain⟨t,rfl⟩:=r;obtain⟨D,rfl⟩:=w;obtain⟨x,rfl⟩:=j;exact whk () (IW k i o u v q) (.inl (wds ()))
theorem FG(C:Gl X "range")(J:X.mg "range"=none)(ha:PA X [a,b,c] T)(hs:starEach [a,b,c] X.env=[(false,eval a X.env),(false,eval b X.env),(false,eval c X.env)]:=by rfl)(g:starEach [b,c] X.env=[(false,eval b X.env),(false,eval c X.env)]:=by rfl) :
 PI X tg (.Call (.Name "range" p) [a,b,c] [] pos) (PH T):=by
 refine{?_};intro d s σ H R I h;refine Call_ (eR I C J wfz (waZ (bN (ha pos d s σ H _ I h) λz f ⟨A,n,v,w,u⟩=>?_) (by rw[hs,g]) (by rw[g];rfl)));obtain⟨lo,c,m,e,u,B,D,E,G,q⟩:=u;subst e
 cases w with
 |cons r i=>
  cases i with
  |cons x i=>
   cases i with
   |cons j i=>
    cases i;obtain⟨t,rfl⟩:=r;obtain⟨t',rfl⟩:=x;obtain⟨k,rfl⟩:=j;have h0:0<=c*(m:Int):=wgI (by lia) (by lia);have sz:=JV (show 0<c by omega) lo m;have L:lo<=lo+c*(m:Int):=();generalize lo+c*(m:Int)=top at *;refine whk () ?_ (.inl (wds ()));refine we3 (wgl ..) ?_ ?_
    .unfold wd4;rw[sz];simp only[wdC,wbc,weO,decide_eq_true_eq,beq_iff_eq,show ¬(0-c>0) by lia,if_false]
     lia
    generalize M:({cls:=.type "range",data:=.fields #[.int top t,.int lo t',.int (0-c) k]}:Obj)=o;have l:Inv X d σ n {f with heap:=f.heap.push o}:=v.kept (t':=f.toks) λb o e=>wa9 _ e;refine{(f.heap.push o).objs.size,[(f.heap.push o).objs.size],_,_,n,rfl,l.kept (t':=f.toks) λb o e=>wa9 _ e,lO _ top (0-c) m,?_,λb y=>?_,q}
    .show wel _ _ (top+((0:Nat):Int)*(0-c)) (((m:Nat):Int)-((0:Nat):Int)) (0-c);rw[show top+((0:Nat):Int)*(0-c)=top by simp,show ((m:Nat):Int)-((0:Nat):Int)=wb9 top lo (0-c) by rw[sz];simp];exact wap _ rfl
    .have e:b=(f.heap.push o).objs.size:=by simpa using y
     subst e;exact l.tH (waa _) (l.b9.fresh (waa _))
end
theorem O8{X:Cx}{tg l:Expr}{ta:TA}{p pos:Pos}(hg:Gl X "reversed")(hm:X.mg "reversed"=none)(ha:PA X [l] ta)(hs:starEach [l] X.env=[(false,eval l X.env)]:=by rfl) :
 PI X tg (.Call (.Name "reversed" p) [l] [] pos) (Ta X.K ta):=by
 refine{?_};intro pins s σ H R I h;refine Call_ (eR I hg hm PyProof.Rows.boot_reversed (waZ (bN (ha pos pins s σ H _ I h) λus s1 ⟨vs,H1,I1,r1,q1⟩=>?_) hs rfl));obtain⟨a,xs,e,hq,q⟩:=q1;subst e;obtain⟨u,rfl,ru⟩:=vals1 r1;cases ru;obtain⟨its,rv,pl,hz⟩:=I1.list hq;have hl:its.toArray.size=xs.length:=by rw[waF];exact rv.length.symm
 refine call_reversed_list pl.isList ?_
 have hit:(s1.heap.push (revObj a ((its.toArray.size:Int)-1))).IsRevIter s1.heap.objs.size a ((xs.length:Int)-1-((0:Nat):Int)):=by
  refine{_,wap _ rfl,rfl,?_};show wem _=_;rw[hl];rw[show (xs.length:Int)-1-((0:Nat):Int)=(xs.length:Int)-1 by lia]
 refine wgR hit ?_;refine{s1.heap.objs.size,[s1.heap.objs.size],_,_,H1,rfl,I1.kept (t':=s1.toks) λb o e=>wa9 _ e,Ie a _ _,hit,λb hb=>?_,q};have e:b=s1.heap.objs.size:=by simpa using hb
 subst e;exact I1.tH (waa _) (I1.b9.fresh (waa _))
section
variable{X:Cx}{o e f:Expr}{apos eP:Pos}{td ty tx:TE}
theorem CZ(t:PE X o td)(he:PE X e ty)(C:PE X f tx)(m:M2 X o "setdefault" apos e f eP):PE X (.Call (.Attribute o "setdefault" apos) [e,f] [] eP) (Qg td ty tx):=by
 refine{?_};intro b s σ H Q I h;refine wpAny_Call_method m.base m.few m.line wd8 wf9 PySem.F.type_dict_setdefault (bN (t b s σ H _ I h) λu A ⟨x,B,j,D,a,ex,d,E⟩=>?_);subst ex;obtain rfl:u=wam a:=D;obtain⟨G,J,_⟩:=GK j d;refine{G,J,?_};rw[m.trees]
 refine wdv rfl (weR (wdm (bN (he b A σ B _ j E) λiv L ⟨y,M,N,O,R⟩=>
  wdm (bN (C b L σ M _ N R) λS s3 ⟨z,T,i,l,U⟩=>wfn ?_))))
 obtain⟨c,k,n,V,Y,Z,qb⟩:=U;subst V;obtain⟨z0,hd,vs,rel,p⟩:=rJ i.b9 n;refine wfI wf9 p.typeIs PySem.F.entry_dict_setdefault (PySem.F.args_dict_setdefault_3 _ _ _) (kt_meets_setdefault (bx X.prog X.w) a (rF O) hd S) {vs,p,by rw[<-rel.length];exact z0,λv hv=>?_,λhn h' g hs=>?_}
 .have r:=rel.val k;rw[hv]at r
  cases q:bC c k with
  |none=>rw[q]at r;exact(show False from r).elim
  |some x=>rw[q]at r;exact{x,T,i.tok _,r,Z x q}
 .have r:=rel.val k;rw[hn]at r
  have q:bC c k=none:=by
   cases q:bC c k with
   |none=>rfl
   |some x=>rw[q]at r;exact(show False from r).elim
  have hx:∃q,h'.get? a=some q:=let ⟨q,_,_,hq,_⟩:=g;⟨q,hq⟩
  exact{z,_,tZ i (by rw[n];exact wbz) hs hx (BC Y hd (rel.put k l) g),l,qb q}
end
end L2
namespace K51
section
variable{w:World}
structure Txt(mg:Str->Option Value):Prop where
 «all»:mg "all"=none
 «any»:mg "any"=none
 «bool»:mg "bool"=none
 «dict»:mg "dict"=none
 «enum»:mg "enumerate"=none
 «int»:mg "int"=none
 «Lc»:mg "isinstance"=none
 «len»:mg "len"=none
 «list»:mg "list"=none
 «max»:mg "max"=none
 «min»:mg "min"=none
 «range»:mg "range"=none
 «reversed»:mg "reversed"=none
 «set»:mg "set"=none
 «sorted»:mg "sorted"=none
 «str»:mg "str"=none
 «sum»:mg "sum"=none
 «zip»:mg "zip"=none
structure FH(K:wa2)(C:Addr):Prop where
 cl:zQ K C
 pz:bQ K C "scheme"
 vE:bQ K C "band"
 IX:bQ K C "many"
 rj:bQ K C "wide"
 fM:bQ K C "homes"
 cP:bQ K C "lines"
 rk:bQ K C "opening"
 DV:bQ K C "first"
inductive YD(g:Str)(ws ss:List Str)(ev:List (Str×Addr))(o:Obj)(x de lt:Addr)(n:Int)(H:Hp)(i:Nat)(σ:St)(H4:Hp):Prop
 |mk (ts:List Addr) (dc:Addr) (v4 v6 v7:Option V) (_:σ=[some (.ref x),some (.int n),some (.ref de),some (.ref dc),v4,some (.ref lt),v6,v7]) (_:ts.length=i+1) (_:ts[i]?=some dc) (_:H4 lt=some (.lst (ts.map V.ref))) (_:∀j t,ts[j]?=some t->H4 t=some (.dK (NU g ws ss j))) (_:H4 de=some (.frz o (.dK (ck ev)))) (_:∀m∈ev,H4 m.2=some (.lst ((gJ g ws ss m.1).map V.str))) (_:a8 H H4)
inductive Ld(C:Addr)(vs:List V)(H:Hp)(Q:VK)(dq:XK):Prop
 |mk (x r g ws ss ls) (_:vs=[.ref x,.str r]) (_:b4 C H x g ws ss ls) (_:(∀c∈ch r,c∈ch g)) (_:ws.length<=1000) (_:∀H',a8 H H'->Q (.bl (!bears ws r)) H')
theorem D0{ws:List Str}{g:Str}(h:∀u∈ws,∀c∈ch u,c∈ch g):∀c∈ch (cat ws),c∈ch g:=λc hc=>by
 rw[Ct]at hc;obtain⟨l,a,b⟩:=whR.mp hc;obtain⟨u,d,rfl⟩:=wab.mp a;exact h u d c b
theorem IY{X:Cx}{x:Str}{i:Nat}{g:List Expr}{ps:List (Int×Int)}{rest:List Stmt}{b:TS}{j l p:Pos}(r:X.N.Nodup)(hi:X.N[i]?=some x)(t:Loc X.env.scope x)(C:∀X,PA X g (uk ps))(I:wt X rest b)
 (hs:wcc (.List g l) (some (.Name x j)) p.line X.env=pure false:=by rfl) (J:X.fn x=true\/X.env.scope.names.lookup x=some .local:=by first |exact .inl rfl |exact .inr rfl |assumption) :
 wt X (.Assign [.Name x j] (.List g l) p::rest) (N8 (JY (PN (uk ps)) (cK i)) b):=a6 (GI (i:=i) r hi t (bY (C _)) hs J) I
theorem QP{R:Wr}{x:Str}{i:Nat}(h:W3 R x i):EX R x:=by
 obtain⟨bs,w,e,rfl,a,d,hc,_⟩:=h;exact{by rw[dX λu h=>(a u h).1,wa5,waE,d,hc,show R.b+(R.c+1)=R.b+1+R.c by lia],D0 λu h=>(a u h).2}
theorem Le{z g:Str}(j:z.length=0){ts:List Str}(h:∀t∈ts,∃c,t=({#[c]}:Str)/\c∈ch g):(wd2 z ts).length=ts.length/\(∀c∈ch (wd2 z ts),c∈ch g)/\(ts.map (·.length)).sum=ts.length:=by
 rw[<-aE,mW j ts]
 induction ts with
 |nil=>exact{rfl,λc h=>(nomatch h),rfl}
 |cons t ts a=>
  obtain⟨c,rfl,hc⟩:=h t (wag ..);obtain⟨b,d,e⟩:=a λt f=>h t (wac _ f);rw[wat,wbV,wa5,b,waE,wat,wbu,e];refine{weL 1 _,λk hk=>?_,weL 1 _};rcases wax.mp hk with h |h
  .rw[wao.mp h];exact hc
  .exact d k h
theorem D1(sz:Nat)(e:Str)(he:e.length=sz)(ws:List Str):(ws.map V.str).map (DR sz e)=(ws.map λw=>decide (e.length<w.length)&&wee w e).map V.bl:=by
 rw[wah,wah];refine waX λw _=>?_;subst he;show V.bl _=V.bl (decide (e.length<w.length)&&wee w e);congr 1
 by_cases h:e.length<w.length
 .rw[decide_eq_true h,decide_eq_true (show (w.length:Int)>(e.length:Int) by omega),wcA,wcA,wdf,decide_eq_true_iff,ou];have a:ch (bZ w e.length)=(ch w).take e.length:=by unfold bZ;rw[p7]
  constructor
  .intro z;have b:bZ w e.length=e:=V.str.inj z;rw[<-b,a];exact wdJ _ _
  .intro z;have:(ch w).take (ch e).length=ch e:=(wg0.mp z).symm;rw[aE]at this;exact congrArg V.str (cF (by rw[a,this]))
 .rw[decide_eq_false h,decide_eq_false (show ¬(w.length:Int)>(e.length:Int) by omega)];rfl
theorem O9{xs ys:List V}(e:xs.length=ys.length){i:Nat}{x y:V}(g:(xs++xs.take 1)[i]?=some x)(l:(ys++ys.take 1)[i]?=some y):∃j:Nat,xs[j]?=some x/\ys[j]?=some y:=by
 by_cases c:i<xs.length
 .exact{i,by rw[<-g,waA c],by rw[<-l,waA (by lia)]}
 .rw[waB (by lia)]at g l;have a:=(wa6.mp g).1;rw[wad]at a;rw[wd1 (by lia)]at g l;exact{i-xs.length,g,by rw[<-l,e]}
end
end K51
namespace Bs
theorem cb.same(h:cb K C H x hs ws lns)(s:a8 H g):cb K C g x hs ws lns:=by
 obtain⟨d,a,b,c,e,f,i,j⟩:=h;exact{d,a,b,c,s _ _ e,bK.same s _ _ f,bK.same s _ _ i,bK.same s _ _ j}
theorem ow.same(h:ow K C j H x m g l hs ws lns)(s:a8 H p):ow K C j p x m g l hs ws lns:=by
 obtain⟨e,a,b,c,d,f,i,k,n,o⟩:=h;exact{e,a,b,c,d,s _ _ f,s _ _ i,bK.same s _ _ k,bK.same s _ _ n,o.same s}
theorem FI(x:Str){i j:Nat}(h:i<=j)(g:j<=x.length):ch (waU x (some (i:Int)) (some (j:Int)))=((ch x).take j).drop i:=by
 rw[lT,StrLaws.sliceText_nat x h g,wgJ]
theorem ud{n:Nat}{ws:List Str}(h:∀w∈ws,w.length=n){i j:Nat}(g:i<=j)(l:j<=ws.length):waU (cat ws) (some ((n*i:Nat):Int)) (some ((n*j:Nat):Int))=cat ((ws.take j).drop i):=by
 refine cF ?_;rw[FI _ (wcd _ g) (by rw[dX h];exact wcd _ l),An h,Am λw hw=>h w (wbP hw)]
theorem IZ{n:Nat}{ws:List Str}(h:∀w∈ws,w.length=n)(j:Nat):waU (cat ws) none (some ((n*j:Nat):Int))=cat (ws.take j):=by
 refine cF ?_;rw[p7,An h]
theorem J0{n:Nat}{ws:List Str}(h:∀w∈ws,w.length=n)(j:Nat):waU (cat ws) (some ((n*j:Nat):Int)) none=cat (ws.drop j):=by
 refine cF ?_;rw[jS,Am h]
theorem yf{n:Nat}:∀(m:Nat) (x:Str),x.length=n*m->∃all,x=cat all/\all.length=m/\∀u∈all,u.length=n
 |0,x,h=>{[],cF (by rw[qU h];rfl),rfl,λu h=>nomatch h}
 |m+1,x,h=>by
  have h:x.length=n*m+n:=by rw[h,wci,whG]
  have b:=p7 x n;have c:=jS x n;have d:(waU x (some (n:Int)) none).length=n*m:=by rw[<-aE,c,waW,aE];lia
  obtain⟨all,a1,a2,a3⟩:=yf m _ d;refine{waU x none (some (n:Int))::all,cF ?_,by rw[waE,a2],λu a=>?_}
  .show _=ch (_++cat all);rw[aX,<-a1,b,c,wbi]
  .rcases waG.mp a with rfl |a
   .rw[<-aE,b,wad,aE];lia
   .exact a3 u a
theorem O2.win{R:Wr}{ts:List Nat}{all:List Str}(r:O2 R ts all){k:Nat}(hk:k<ts.length):W3 R (waU (cat all) (some ((R.n*k:Nat):Int)) (some ((R.n*(k+(R.b+1+R.c)):Nat):Int))) (ts.getD k 0):=by
 obtain⟨bs,w,a,e,b,c,g,f⟩:=r.r k hk;refine{bs,w,a,?_,λu h=>r.u u (wbP (wgS (e ▸ h))),b,c,g,f};rw[ud (λu h=>(r.u u h).1) () (by rw[r.l];omega),<-e]
end Bs
namespace L2
structure cI(K:wa2)(C:Addr)(nm qual:Str)(st:Stmt)(ps:List Str)(f:Addr)(fd:wbw):Prop where
 F:zS K nm qual st f fd
 b:Binds K fd ps []
 m:K0 K C nm f
theorem yg:∀(rs:List Addr) (g:List (Str×Str)),bc H rs (g.map lQ)->bu K H (g.map M8) (rs.map V.ref)
 |[],[],_=>rfl
 |[],_::_,h=>by have:=h.1;simp at this
 |_::_,[],h=>by have:=h.1;simp at this
 |r::rs,q::g,h=>by
  refine{.ref r,rs.map V.ref,rfl,{r,lQ q,rfl,h.2 0 r (lQ q) rfl rfl,?_},yg rs g {by have:=h.1;simpa using this,λi a b c d=>h.2 (i+1) a b c d}};exact{.str q.1,[.str q.2],rfl,⟨rfl,rfl⟩,{.str q.2,[],rfl,⟨rfl,rfl⟩,rfl}}
theorem Ub.Bs.eu.rds(R:eu H l rs g):bK K H (.lst (g.map M8)) (.ref l):={l,_,rfl,.inl R.l,yg rs g R.t}
theorem Lf{X:Cx}(g:X.K=K):OD X (Pu K):=by
 subst g;exact eQ
theorem FJ{Ok:Hp->Prop}{Q:Hp->Prop}(R:Nat->V->Hp->Prop)(I:∀i y T g ys,R i y T->T l=some (.lst ys)->(∀b o,T b=some o->b≠l->g b=some o)->R i y g)(U:lB J Ok xs)(hl:H l=none)(hz:xs.length<=sizeLine)(t:∀r,a8 H r->Ok r)
 (he:∀i x C ys,xs[i]?=some x->a8 H C->C l=some (.lst ys)->∃p a b c,x=.ref p/\g8 K C p [a,b,c]/\∀Q',(∀y r,a8 C r->R i y r->Q' y r)->te (some a::some b::some c::σf) C Q')
 (hd:∀ys r,a8 H r->r l=some (.lst ys)->ys.length=xs.length->(∀i y,ys[i]?=some y->R i y r)->Q r):uL K J l σf wx te H Q:=by
 refine{λi m d g=>m=xs.length-i/\i<=xs.length/\a8 H g/\g l=some (.lst d)/\d.length=i/\∀j y,d[j]?=some y->R j y g,{xs.length,by simp,waq _,a8.upd hl,a7,rfl,λj y h=>by simp at h},?_};rintro i m d g ⟨rfl,hi,n,q,f,E⟩;refine{q,?_}
 by_cases k:i<xs.length
 .refine .inr {U.go i g (t _ n) k,by rw[f];lia,λx C y=>?_};obtain⟨e,G⟩:=U.tS i g x C (t _ n) k y;subst e;obtain⟨p,a,b,c,rfl,L,M⟩:=he i x _ d G n q;refine{p,a,b,c,rfl,L,?_};unfold wx;dsimp only;rw[if_pos rfl];refine M _ λy v w A=>{w _ _ q,xs.length-(i+1),by lia,rfl,k,λb o e=>?_,a7,by rw[wa5,f];rfl,λj z s=>?_}
  .rw[af (ag e hl)];exact w _ _ (n _ _ e)
  .have u:=w _ _ q;have kp:∀b o,v b=some o->b≠l->(upd v l (.lst (d++[y]))) b=some o:=λb o e N=>by rw[af N];exact e
   by_cases B:j<d.length
   .rw[waA B]at s;exact I j z v _ _ (I j z _ _ _ (E j z s) q λb o e _=>w _ _ e) u kp
   .rw[waB (by lia)]at s
    have D:j-d.length=0:=by
     have:=(wa6.mp s).1;simp at this
     lia
    rw[D]at s;cases s;have:j=i:=by lia
    rw[this];exact I i y v _ _ A u kp
 .have e:i=xs.length:=by lia
  subst e;exact .inl {U.stop g (t _ n),hd d g n q f E}
theorem J1{Ok:Hp->Prop}{Q:Hp->Prop}(t:List jE)(hJ:lB J Ok xs)(hl:H l=none)(hz:xs.length<=sizeLine)(C:t.length=xs.length)(T:∀g,a8 H g->Ok g)
 (he:∀(i:Nat) (x:V) (d:jE) j,xs[i]?=some x->t[i]?=some d->a8 H j->∃p a b c,x=.ref p/\g8 K j p [a,b,c]/\∀I,(∀y g,a8 j g->bK K (aL j g) d y->I y g)->te (some a::some b::some c::U) j I)
 (hd:∀g,a8 H g->bK K (aL H g) (.lst t) (.ref l)->Q g):uL K J l U wx te H Q:=by
 refine FJ (λi y g=>∀d,t[i]?=some d->∃j o,a8 H j/\j l=some o/\bK K (aL j g) d y) ?_ hJ hl hz T (λi x j n s h k=>?_) (λn g q u m v=>?_)
 .intro i y E G n r w kp d f;obtain⟨j,o,h,k,r⟩:=r d f;exact{j,o,h,k,bK.same (bL k kp) d y r}
 .have hi:i<t.length:=by rw[C];exact(wa6.mp s).1
  obtain⟨p,a,b,c,e,z,A⟩:=he i x t[i] j s (wa1 hi) h;refine{p,a,b,c,e,z,λI B=>A I λy g q r=>B y g q λd f=>?_};rw[wa1 hi]at f;cases f;exact{j,_,h,k,r}
 .refine hd g q {l,n,rfl,.inl (bT hl u),bu.qI t n (by rw[C,m]) λi d y f D=>?_};obtain⟨j,o,h,k,r⟩:=v i y D d f;exact bK.same (eF h) d y r
theorem AO(a b:Addr):(Gs a b).lookup ("pairs":Str)=some (.ref b):=by
 rw[<-Gu,aF,if_pos rfl]
theorem bo(a b:Addr):(Gs a b).lookup ("writer":Str)=some (.ref a):=by
 rw[<-Gu,aF,if_neg ∅,<-M0,aF,if_pos rfl]
end L2
namespace K51
section
variable{w:World}
theorem J4{n:Nat}{ws:List Str}(h:∀w∈ws,w.length=n){i:Nat}(hi:i<ws.length):waU (cat ws) (some ((n*i:Nat):Int)) (some ((n*(i+1):Nat):Int))=ws[i]:=by
 rw[ud h (wbR i) hi,waM,wa1 hi,wc3 (by rw[wad];lia),wbs (by rw[wad];lia)];exact zc _
noncomputable abbrev FK(R:Wr)(x a:Addr)(win:Str)(v5 v6 v7 v8 v9 v10 v11 HS HU:Option V):St:=[some (.ref x),some (.str win),some (.ref a),some (.int (R.n:Int)),some (.int ((R.n*R.b:Nat):Int)),v5,v6,v7,v8,v9,v10,v11,HS,HU]
inductive Uc(R:Wr)(x a:Addr)(win:Str)(us:List Str)(H1:Hp)(i:Nat)(σ:St)(H':Hp):Prop
 |mk (_:i<=us.length) (_:a8 H1 H') (l) (_:H' l=some (.lst ((JB R (us.drop (us.length-i))).map V.bl))) (v6 v7 v8 v9) (_:σ=FK R x a win (some (.ref l)) v6 v7 v8 v9 none none none none)
inductive Ud(R:Wr)(x a:Addr)(win S2:Str)(rest:List Str)(l ln:Addr)(v6:Option V)(H1:Hp)(i:Nat)(σ:St)(H':Hp):Prop
 |mk (_:∀b o,b≠ln->H1 b=some o->H' b=some o) (_:H' ln=some (.lst (((waD i).map (HV R (S2::rest))).map V.bl))) (v9) (_:σ=FK R x a win (some (.ref l)) v6 (some (.str S2)) (some (.ref ln)) v9 none none none none)
inductive Ue(R:Wr)(x a:Addr)(win pl w:Str)(us:List Str)(lg lf:Addr)(v6 v7 v8 v9:Option V)(H1:Hp)(i:Nat)(σ:St)(H':Hp):Prop
 |mk (_:i<=R.wl.length) (_:∀b o,b≠lf->H1 b=some o->H' b=some o) (ds) (_:H' lf=some (.lst ((nI ds).map V.int))) (_:∀j:Nat,j∈ds↔∃d e,d<i/\R.hk.getD d ""=pl/\(R.wl.getD d [])[j]?=some (w,e)/\gD R.wl e us) (_:ds.length<=i*8) (v11 HS HU) (_:σ=FK R x a win (some (.ref lg)) v6 v7 v8 v9 (some (.ref lf)) v11 HS HU)
inductive Ug(R:Wr)(x a:Addr)(win w:Str)(us:List Str)(ds:List Nat)(lg lf yb:Addr)(d:Nat)(v6 v7 v8 v9:Option V)(H1:Hp)(j:Nat)(σ:St)(H':Hp):Prop
 |mk (_:∀b o,b≠lf->H1 b=some o->H' b=some o) (QQ) (_:H' lf=some (.lst ((nI QQ).map V.int))) (_:∀n:Nat,n∈QQ↔n∈ds\/n<j/\∃e,(R.wl.getD d [])[n]?=some (w,e)/\gD R.wl e us) (_:QQ.length<=d*8+j) (HU) (_:σ=FK R x a win (some (.ref lg)) v6 v7 v8 v9 (some (.ref lf)) (some (.int (d:Int))) (some (.ref yb)) HU)
theorem EX.cut{R:Wr}{s:Str}(h:EX R s):∃(bs:List Str) (w:Str) (us:List Str),s=cat (bs++w::us)/\(∀u∈bs++w::us,u.length=R.n/\∀c∈ch u,c∈ch R.g)/\bs.length=R.b/\us.length=R.c:=by
 obtain⟨l,g⟩:=h;obtain⟨all,rfl,f,e⟩:=yf (n:=R.n) (R.b+1+R.c) s l;have a:R.b<all.length:=by lia
 refine{all.take R.b,all[R.b],all.drop (R.b+1),?_,?_,by rw[wad];lia,by rw[waW];lia}
 .rw[<-wcq a,wbi]
 .rw[<-wcq a,wbi];exact λu d=>{e u d,λc hc=>g c (Kt d c hc)}
end
end K51
namespace L2
open PySem.Spec PyProof.Rows PySem.W Builtin Builtin.ObjectAttr
section
variable{name:Str}
noncomputable abbrev Uh:List Value:=[.type "ValueError",.type "Exception",.type "BaseException",.type "object"]
noncomputable abbrev oJ(CB:Addr):List Value:=.ref CB::Uh
theorem FL{fs:List (Str×V)}{g:Str->Option Value}(r:∀f,iS (fs.lookup f) (g f)):we0 g (fs.map (·.1)):=by grind [iS,we0,wag,wac]
theorem AQ(h:fs.lookup name=none)(f:Str):(fs++[(name,y)]).lookup f=if f=name then some y else fs.lookup f:=by
 grind
end
section
variable{prog:waC}{w:World}{A:Around}{s:Shared}{K:wa2}{x C CB f:Addr}{name:Str}{v:Value}{R:wek->Shared->Prop}
theorem yh(X:K.In s.heap)(I:InstAt s.heap x ox C od)(hc:clsIn K C=some cd)(hm:cd.mro=.ref C::oJ CB)(ha:findIn K (.ref C) name=some none)
 (h:wpAny (model prog w) A.in1 (storeInOwnDict (.ref x) (.ref C) (.str name tk) name v false)
   (λfin s'=>match fin with |.done f=>R (.ok f) s' |.again c'=>c'.quiet=true/\codeAny (model prog w) A c' R s') (λe s'=>R (.error e) s') s) :
 codeAny (model prog w) A (.call (.builtin "object.__setattr__") {[.ref x,.str name tk,v],[]}) R s:=by
 have SF:=PySem.F.store_object;have sub:Looks (model prog w) s.heap (isInstance (.ref x) (.type "object")) true:=I.type.andThen (looks_mroIn X (by unfold mroIn;rw[hc,Option.bind_some,hm];rfl));refine wcV SF.slot.plain SF.entry (@check_slot (model prog w) _ _ s "object.__setattr__" "object" "__setattr__" (.ref x) [.str name tk,v] [] _ SF.kind SF.split sub (SF.args (.ref x) (.str name tk) v) ?_);have Mu:Looks (model prog w) s.heap (mroOf (.ref C)) cd.mro:=(wei X hc).andThen .now;have L3:Looks (model prog w) s.heap (storeTaker? none) none:=.now;rw[osa_eq,refuse_eq];refine wa7 (wa7 (I.type.here (wa7 (Mu.here ?_))));rw[hm,refuseLoop_ref,refuseLoop_ref,PySem.F.store_ValueError.passes];refine waz (wa7 (I.type.here (wa7 ((wf8 X ha).here (wa7 (L3.here ?_))))));exact h
end
section
variable{prog:waC}{w:World}{A:Around}{E:Value->Shared->Prop}{s:Shared}{K:wa2}{x C CB:Addr}{mA:Str->Option Value}{name:Str}{v:Value}
theorem FN{Q:Unit->Shared->Prop}(X:K.In s.heap)(hx:s.heap.get? x=some (tV C d t))(hd:s.heap.Ns1 d mA)(hw:we0 mA ns)(hl:ns.length<=100)(hc:clsIn K C=some cd)(hm:cd.mro=.ref C::oJ CB)(hh:cd.hasDict=true)(ha:findIn K (.ref C) name=some none)
 (hs:findIn K (.ref C) "__setattr__"=some (some (.builtin "object.__setattr__")))
 (h:∀h' tk,(∀b,b≠d->h'.get? b=s.heap.get? b)->h'.Ns1 d (λy=>if y=name then some v else mA y)->Q .unit {s with heap:=h',toks:=tk}) :
 wpAny (model prog w) A (setAttr (.ref x) name v) Q E s:=by
 obtain⟨od,es,ep,e1,_⟩:=id hd;have J:InstAt s.heap x (tV C d t) C (some od):=⟨hx,rfl,rfl,e1⟩;refine wfs X J hs (yh (s:={s with toks:=s.toks+1}) X J hc hm ha ?_);unfold storeInOwnDict;refine wa7 (waz ?_);rw[if_neg (by simp)];unfold ownDictForStores instanceDict;refine wa7 (wa7 (wgz hx ?_));dsimp only;refine wa7 (wfc (s:={s with toks:=s.toks+1}) (wei X hc) ?_);rw[hh];simp only[wgZ,wc5,if_false];refine waz ?_;show wpAny _ _ (storeInDict d (.str name s.toks) name v) _ _ _;unfold storeInDict newKeyGuard;refine wa7 (waz (wa7 (whf hd λh' Bk Mf=>?_)));obtain⟨oD,YF,YG,Ui,W8,Wa⟩:=Bk.count (wgb name v hw);refine wa7 (wfJ Ui (by grind [wfK,wal,wcg]) ?_)
 wp_walk
 exact h h' _ (λb hb=>Mf.2 b hb) Bk
end
end L2
namespace L2
open PySem.Spec PyProof.Rows
section
variable{prog:waC}{w:World}{A:Around}{R:wek->Shared->Prop}{h:Heap}{g:Array wdD}{d:Drawn}{t:Nat}{os:wc2}{nm q:Str}{C CB N:Addr}{bs:List Value}{hdct:Bool}{sn:List Str}{sub:List Value}{ab:Bool}{col:Option Bool}{dd:Option Addr}{k0 k1 k2 k3 k5:Option Value}
theorem Lg{M:Model}{E:Value->Shared->Prop}{rest:List Value}{Q:Unit->Shared->Prop}(j:h.get? C=some (wbL nm q C N bs (oJ CB) hdct sn sub ab col dd k0 k1 k2 k3 k5 "ValueError.__new__"))
 (l:Q .unit ⟨h,g,d,t,os⟩):wpAny M A (wew "ValueError.__new__" {.ref C::rest,[]}) Q E ⟨h,g,d,t,os⟩:=by
 have F:=wcl;have a:(wam C::oJ CB).contains (.type "ValueError")=true:=rfl;have b:=F.noStar;simp only[wew,F.newKind,F.newSplit,F.newRow]
 repeat (first |refine wbd j ?_ |(refine wc0 j ?_;rw[a]) |refine wpAny_staticBase_exc j ?_ |refine wpAny_madeBy_exc j ?_ |simp only[bne_self_eq_false,wc5,if_false] |wp_step)
 exact l
theorem Lh{rest:List Value}(j:h.get? C=some (wbL nm q C N bs (oJ CB) hdct sn sub ab col dd k0 k1 k2 k3 k5 "ValueError.__new__"))
 (r:R (.ok (.ret (.ref (h.objs.size+1)))) {(h.push {cls:=.type "tuple",data:=.seq rest.toArray}).push
   {cls:=.ref C,data:=.fields #[.ref h.objs.size,.none,.none,.none,.bool false,.none]},g,d,t,os}) (l:rest.length<=sizeLine:=by size_fits) :
 codeAny (model prog w) A (.builtin "ValueError.__new__" {.ref C::rest,[]}) R ⟨h,g,d,t,os⟩:=by
 have F:=wcl;have a:=F.ends;have b:(wam C::oJ CB).contains (.type "ValueError")=true:=rfl;have c:(wam C::oJ CB).contains (.type "AttributeError")=false:=rfl;have e:(wam C::oJ CB).contains (.type "NameError")=false:=rfl;refine codeAny_builtinAt F.entry ?_;unfold wey.«BaseException.__new__»;refine wi6 ?_;show PySem.wpAt _ _ _ (PySem.stack >>= _) _ _ _;refine wi6 (PySem.wpAt_stack λp f=>wh4 ?_)
 wp_walk
 refine wh4 ?_;rw[F.owner]
 repeat (first |with_reducible refine wpAny_madeHere_exc F.canon j ?_ |with_reducible refine wbd j ?_ |(with_reducible refine wc0 j ?_;first |rw[b] |rw[c] |rw[e]) |wp_step)
 show R _ _;rw[wbS];exact r
theorem sr{E:Value->Shared->Prop}{Q:Flow->Shared->Prop}(p:A.handled=none)
 (h:wpAny M A (eval x env) (λv j=>∃e l t,v=.ref e/\j.heap.get? C=some (wbL nm q C N bs (oJ CB) hdct sn sub ab col dd k0 k1 k2 k3 k5 "ValueError.__new__") /\
   j.heap.get? e=some {cls:=.ref C,dict:=l,data:=.fields #[.ref t,.none,.none,.none,.bool false,.none]}/\E (.ref e) j) E s) :
 wpAny M A (exec (.Raise (some x) none pos) env) Q E s:=by
 have key:wpAny M A (raiseStmt env (some (do let v <-eval x env;standAt pos;pure v)) none) Q E s:=by
  have b:(wam C::oJ CB).contains (.type "BaseException")=true:=rfl;unfold raiseStmt;refine wa7 (wa7 (wb8 h (λv j a=>wa7 (wdL (waz ?_))) λ_ _ x=>x));obtain⟨e,l,t,rfl,c,f,i⟩:=a;obtain⟨k,g,d,m,os⟩:=j
  repeat (first |with_reducible refine wbd f ?_ |with_reducible refine wbd c ?_ |(with_reducible refine wc0 c ?_;rw[b]) |wp_step)
  exact wpAny_raiseNew_none p i
 rw[arm_exec_Raise];exact wa7 (wdL key)
end
structure fb(K:wa2)(C CB:Addr)(nm:Str):Prop where
 lk:∃(q:Str) (N:Addr) (bs:List Value) (sn:List Str) (sub:List Value) (ab:Bool) (col:Option Bool) (dd:Option Addr) (k0 k1 k2 k3 k5:Option Value),
  K.lookup C=some (wbL nm q C N bs (oJ CB) true sn sub ab col dd k0 k1 k2 k3 k5 "ValueError.__new__")
 sa:findIn K (.ref C) "__setattr__"=some (some (.builtin "object.__setattr__"))
 ga:findIn K (.ref C) "__getattribute__"=some (some (.builtin "BaseException.__getattribute__"))
 gh:findIn K (.ref C) "__getattr__"=some none
 kp:keepIn K (.ref C)=true
structure Oa(K:wa2)(CB:Addr)(nm:Str):Prop where
 lk:∃(q:Str) (N:Addr) (bs:List Value) (hd:Bool) (sn:List Str) (sub:List Value) (ab:Bool) (col:Option Bool) (dd:Option Addr) (k0 k1 k2 k3 k5:Option Value),
  K.lookup CB=some (wbL nm q CB N bs Uh hd sn sub ab col dd k0 k1 k2 k3 k5 "ValueError.__new__")
section
variable{X:Cx}{e o:Expr}{es:List Expr}{ta:TE}{t:TA}{pos apos:Pos}{C f:Addr}{q:Str}{st:Stmt}{ps:List Str}{k:Nat}{sp:Sp}
theorem ie{m:Str}{fd:wbw}{pl:Sem Bool}(he:PE X o ta)(c:zQ X.K C)(g:cI X.K C m q st ps f fd)(F:aS X.prog X.w X.K X.mg X.base cO k f fd ps sp)(l:dF k X.A:=by exact dF.mono (by assumption) ⋯)
 (r:eval (.Call (.Attribute o m apos) [] [] pos) X.env=(do
   let j <-eval o X.env
   standAt apos.atName
   let (f,first) <-holding [j] (weC j m pl)
   callWith pos f first (backTo pos (starEach [] X.env)) (backToKw pos (wcI [] X.env))):=by rfl) :
 PE X (.Call (.Attribute o m apos) [] [] pos) (Dm C m sp [] E0 ta yA):=Hj he c g.m F l g.b .nil oR r
theorem yi{m:Str}{fd:wbw}{pl:Sem Bool}(he:PE X o ta)(c:zQ X.K C)(j:cI X.K C m q st ps f fd)(F:aS X.prog X.w X.K X.mg X.base cO k f fd ps sp)(ha:PA X (e::es) t)(r:dF k X.A:=by exact dF.mono (by assumption) ⋯)
 (g:starEach (e::es) X.env=(false,eval e X.env)::starEach es X.env:=by rfl) (hpl:(backTo pos (starEach es X.env)).any (·.1)=false:=by rfl)
 (I:eval (.Call (.Attribute o m apos) (e::es) [] pos) X.env=(do
   let l <-eval o X.env
   standAt apos.atName
   let (f,first) <-holding [l] (weC l m pl)
   callWith pos f first (backTo pos (starEach (e::es) X.env)) (backToKw pos (wcI [] X.env))):=by rfl) :
 PE X (.Call (.Attribute o m apos) (e::es) [] pos) (Dm C m sp [] E0 ta t):=Ke he c j.m F r j.b .nil oR ha g hpl I
end
section
variable{M:Model}{A:Around}{E:Value->Shared->Prop}{e C C1 CB:Addr}{nm q:Str}{N:Addr}{bs:List Value}{hdct:Bool}{sn:List Str}{sub:List Value}{ab:Bool}{col:Option Bool}{dd:Option Addr}{k0 k1 k2 k3 k5:Option Value}{Uj q':Str}{N':Addr}{Uk:List Value}{QR:Bool}{YH:List Str}{Ul:List Value}{YJ:Bool}{Um:Option Bool}{YK:Option Addr}{YL YM YN YQ YR:Option Value}
theorem su{h:Heap}{g:Array wdD}{d:Drawn}{t:Nat}{os:wc2}{p:Obj}{Q:Bool->Shared->Prop}(l:h.get? C=some (wbL nm q C N bs (oJ CB) hdct sn sub ab col dd k0 k1 k2 k3 k5 "ValueError.__new__"))
 (he:h.get? e=some p) (j:p.cls=.ref C) (r:Q true ⟨h,g,d,t,os⟩) :
 wpAny M A (wgU (.ref e) (.ref C)) Q E ⟨h,g,d,t,os⟩:=by
 have a:(wam C::oJ CB).contains (.type "BaseException")=true:=by grind
 have b:(wam C::oJ CB).contains (.ref C)=true:=by grind
 have f:=tc_notTuple;unfold wgU
 repeat (first |(with_reducible refine wbd he ?_;rw[j]) |with_reducible refine wbd l ?_ |(with_reducible refine wc0 l ?_;rw[b]) |(with_reducible refine wc0 l ?_;rw[a]) |wp_step)
 exact r
theorem zu{h:Heap}{g:Array wdD}{d:Drawn}{t:Nat}{os:wc2}{I:Obj}{Q:Bool->Shared->Prop}(j:h.get? C1=some (wbL Uj q' C1 N' Uk (oJ CB) QR YH Ul YJ Um YK YL YM YN YQ YR "ValueError.__new__"))
 (J:h.get? C=some (wbL nm q C N bs (oJ CB) hdct sn sub ab col dd k0 k1 k2 k3 k5 "ValueError.__new__"))
 (he:h.get? e=some I) (l:I.cls=.ref C) (p:C1≠C) (r:C1≠CB) (T:Q false ⟨h,g,d,t,os⟩) :
 wpAny M A (wgU (.ref e) (.ref C1)) Q E ⟨h,g,d,t,os⟩:=by
 have a:(wam C1::oJ CB).contains (.type "BaseException")=true:=by simp[whl,oJ]
 have b:(wam C::oJ CB).contains (.ref C1)=false:=by simp[whl,oJ,p,r]
 have f:=tc_notTuple;unfold wgU
 repeat (first |(with_reducible refine wbd he ?_;rw[l]) |with_reducible refine wbd j ?_ |with_reducible refine wbd J ?_ |(with_reducible refine wc0 J ?_;rw[b]) |(with_reducible refine wc0 j ?_;rw[a]) |wp_step)
 exact T
end
section
variable{X:Cx}{CB C1 C2:Addr}{Sd Se x nm Uj:Str}{body:List Stmt}{tb:OG}{i jj jk:Nat}{p1 p2 p3 p4 Uo q1 q2 q3 q4 Up pos:Pos}
theorem Li(l:X.stack=X.env::X.outer/\X.env.frame=some X.env.locals)(g:Q6 X body tb)(hg:Gl X Sd)(hm:X.mg Sd=some (.ref C1))(YS:Gl X Se)(Mu:X.mg Se=some (.ref C2))(U:fb X.K C1 CB nm)(U':fb X.K C2 CB Uj)(BU:C1≠C2)(YT:C1≠CB)(hN:X.N.Nodup)(hi:X.N[i]?=some x)
 (hx:Loc X.env.scope x) (J:(Sd==("__debug__":Str))=false:=by decide) (T:(Se==("__debug__":Str))=false:=by decide)
 (hf:X.fn x=true\/X.env.scope.names.lookup x=some .local:=by first |exact .inl rfl |exact .inr rfl |assumption) (TU:wcc (.Constant .none jj p3) (some (.Name x p2)) p4.line X.env=pure false:=by rfl) (Uq:wcc (.Constant .none jk q3) (some (.Name x q2)) q4.line X.env=pure false:=by rfl) :
 PS X (.Try body [.ExceptHandler (some (.Name Sd p1)) none [.Assign [.Name x p2] (.Constant .none jj p3) p4] Uo,.ExceptHandler (some (.Name Se q1)) none [.Assign [.Name x q2] (.Constant .none jk q3) q4] Up] [] [] pos) (Qb C1 C2 tb i):=by
 refine{?_};intro a s σ H D I h;refine wpAny_Try_except (wb8 (g a s σ H D _ I h) (λf s1 q=>?_) λY s1 q=>?_)
 .cases f with
  |next=>exact wcu q
  |ret v=>exact q
  |brk=>exact q
  |cont=>exact q
 obtain⟨r,H0,G,d,e,C',od,m,rfl,k,bare,un,b9,F,c,hD⟩:=q;have I1:Inv X a r m s1:=d.xC k un b9 bare λb z=>absurd z (by simp);have YV:(X.env::X.outer).filterMap (·.frame)=rB X.stack:=by rw[l.1];rfl
 have t:=I1.tX
 have L:G.heap.objs.size<=s1.heap.objs.size:=whV λz=>by
  obtain⟨Qj,_,vs,sl,he,_⟩:=F;exact absurd (waw (wbg Qj (wae he)) (weN z)) (wbm _)
 refine A0 (lo:=G.heap.objs.size) (H:=m) (base:=X.base) (outer:=X.outer) (by rw[<-l.1];exact d.ok.frames) (by rw[<-l.1];exact I1.stack) l.2 L (λb g=>b9.fresh g) F λZ F2 p=>?_;rw[YV]at p;obtain⟨M,n,J2⟩:=d.BP k bare un b9 p t;have u:=J2 s1.toks;obtain⟨qC,NC,bsC,snC,YW,abC,YX,ddC,c0,c1,c2,c3,c5,O⟩:=U.lk;obtain⟨qD,ND,bsD,snD,YY,abD,YZ,ddD,e0,e1,e2,e3,e5,Q⟩:=U'.lk;obtain⟨Z0,sl2,w,_⟩:=id F2.ob;rcases c with c |c
 .cases c;refine wf5 (weG (gu (X:=X.marked e) (u.marked (e:=e)) hg hm ?_ J)) (by intro z;cases z);refine su (u.gT _ _ O) w rfl ?_;refine wgs ?_;refine uI F2 λR F3 S=>?_;have A:Et G.heap.objs.size m (rB X.stack) Z R:={λb o q g _=>S b o q g,λb o q g=>{o.slots,S b o q (.inl ?_)}}
  rotate_left
  .have:∃o,G.heap.get? b=some o:=by
    obtain⟨_,o,B,_⟩:=d.stack.mem g;exact⟨o,B⟩
   obtain⟨o,B⟩:=this;exact wae B
  obtain⟨Z1,V,J3⟩:=d.BP (s1:={s1 with heap:=Z}) k bare M n A t;have I3:=J3 s1.toks;have Y:=fC (X:=(X.marked e).LQ) (j:=jj) (pos:=p3) a {s1 with heap:=R} r m (λv C=>v=.non/\C=m) ((I3.marked (e:=e)).o1 _) ⟨rfl,rfl⟩;refine wd0 (weg (Ng (bN Y λv s5 ⟨y,H5,E,r5,ey,eH⟩=>?_)) TU);subst ey;subst eH;have E:=(E.gi).unmarked d.ok;refine j7 E hN hi hx r5 (λs6 I6=>wcu ?_) hf;exact{_,_,I6,hD}
 .cases c;refine wf5 (weG (gu (X:=X.marked e) (u.marked (e:=e)) hg hm ?_ J)) (by intro z;cases z);refine zu (u.gT _ _ O) (u.gT _ _ Q) w rfl BU YT ?_;refine wf5 (weG (gu (X:=X.marked e) (u.marked (e:=e)) YS Mu ?_ T)) (by intro z;cases z);refine su (u.gT _ _ Q) w rfl ?_;refine wgs ?_;refine uI F2 λR F3 S=>?_;have A:Et G.heap.objs.size m (rB X.stack) Z R:={λb o q g _=>S b o q g,λb o q g=>{o.slots,S b o q (.inl ?_)}}
  rotate_left
  .have:∃o,G.heap.get? b=some o:=by
    obtain⟨_,o,B,_⟩:=d.stack.mem g;exact⟨o,B⟩
   obtain⟨o,B⟩:=this;exact wae B
  obtain⟨Z1,V,J3⟩:=d.BP (s1:={s1 with heap:=Z}) k bare M n A t;have I3:=J3 s1.toks;have Y:=fC (X:=(X.marked e).LQ) (j:=jk) (pos:=q3) a {s1 with heap:=R} r m (λv C=>v=.non/\C=m) ((I3.marked (e:=e)).o1 _) ⟨rfl,rfl⟩;refine wd0 (weg (Ng (bN Y λv s5 ⟨y,H5,E,r5,ey,eH⟩=>?_)) Uq);subst ey;subst eH;have E:=(E.gi).unmarked d.ok;refine j7 E hN hi hx r5 (λs6 I6=>wcu ?_) hf;exact{_,_,I6,hD}
end
end L2
namespace Sx
structure Ur(K:wa2)(C CB:Addr)(nm:Str):Prop where
 lk:∃(q:Str) (N:Addr) (bs:List Value) (sn:List Str) (sub:List Value) (ab:Bool) (col:Option Bool) (dd:Option Addr) (k0 k1 k2 k3 k5:Option Value),
  K.lookup C=some (wbL nm q C N bs (oJ CB) true sn sub ab col dd k0 k1 k2 k3 k5 "ValueError.__new__")
theorem DW
 (l:K.lookup C=some (wbL nm q C N bs (oJ CB) true sn sub ab col dd k0 k1 k2 k3 k5 "ValueError.__new__")):Ur K C CB nm:=⟨q,N,bs,sn,sub,ab,col,dd,k0,k1,k2,k3,k5,l⟩
theorem Lj
 (l:K.lookup CB=some (wbL nm q CB N bs Uh hd sn sub ab col dd k0 k1 k2 k3 k5 "ValueError.__new__")):Oa K CB nm:=⟨q,N,bs,hd,sn,sub,ab,col,dd,k0,k1,k2,k3,k5,l⟩
inductive Ob(K:wa2)(C:Addr)(vs:List V)(H:Hp)(Q:VK)(dq:XK):Prop
 |mk (x many hs ws lns) (_:vs=[.ref x,.int many]) (_:cb K C H x hs ws lns) (_:lns.length<=1000) (_:(∀l∈lns,l.length<=10000)) (_:∀(l:Addr) (ks:List Nat) (H':Hp),a8 H H'->H l=none->H' l=some (.lst ((nI ks).map V.int))->oy lns many ks->Q (.ref l) H')
inductive Oc(K:wa2)(C:Addr)(vs:List V)(H:Hp)(Q:VK)(dq:XK):Prop
 |mk (x many hs ws lns) (_:vs=[.ref x,.int many]) (_:cb K C H x hs ws lns) (_:iG many hs ws lns) (_:oy lns many []) (_:hs≠[]) (_:hs.length<=1000) (_:(∀l∈lns,l.length<=10000)) (_:1<=many) (_:many<=1000) (_:∀(t l:Addr) (d:Nat) (ns:List Nat) (w:Int) (H':Hp),a8 H H'->H l=none->H t=none->H' t=some (.tup [.int (d:Int),.ref l,.int w])->H' l=some (.lst ((nI ns).map V.int))->dW ws lns many (d:Int) (nI ns) w=true->d<hs.length->ns.length<=1000->Q (.ref t) H')
inductive J5(C CO:Addr)(vs:List V)(H:Hp)(Q:VK)(E:XK):Prop
 |mk (x:Addr) (many:Int) (n:Nat) (g:Str) (ws ss ls:List Str) (_:vs=[.ref x,.int many,.int (n:Int)]) (_:b4 C H x g ws ss ls) (_:2<=g.length) (_:g.length<=10) (_:ss.length<=900) (_:gj g.length many n) (_:(∀(d:Addr) (f:Str->Int) (H':Hp),a8 H H'->H d=none->H' d=some (.dK (bH (cy f ls)))->uc g ws ss ls many n f->Q (.ref d) H')) (_:(zp g ws ss ls many n->∀H',a8 H H'->E (.ref CO) none H'))
end Sx
namespace PySem
section
variable{P:waC}{W0:World}{B:Around}{R:wek->Shared->Prop}{I:Addr}{fp wr:List Addr}{n:Nat}{Pr:Nat->Value->Prop}{St:Nat->Heap->Prop}
theorem wH(W:Walks P W0 B.in1 I fp wr n Pr St)(bt:Nat->Nat->Bool)(cmp:CmpOf P W0 B.in1 .Gt Pr bt)(S:Addr)(nS:S∉fp)(kw:List (Str×Value)) :
 ∀(k j:Nat) (z:Shared) (best:Value) (c:Nat),n-(j+1)=k->j+1<=n->St (j+1) z.heap->Pr (argBest bt j) best->z.heap.get? S=some {cls:=.type "list",dict:=none,data:=.seq #[best,best] c,slots:=#[]} ->
 (∀v h' tk,Pr (argBest bt (n-1)) v->(∀b o,b∉wr->b≠S->z.heap.get? b=some o->h'.get? b=some o)->R (.ok (.ret v)) {z with heap:=h',toks:=tk}) ->
 codeAny (model P W0) B (.builtin "max.loop" {[.ref I,.none,.ref S],kw}) R z:=by
 have Sf:S∉wr:=λh=>nS (W.sub _ h);have nm:(toString "max"++toString ".loop":String)="max.loop":=⋯;intro k
 induction k with
 |zero=>
  intro j z best c hk hj st pb gS fin;have last:j+1=n:=();refine wbJ wex ?_;rw[wbC wc9 _];show wpAny _ B.in1 (weE (.ref S) >>= _) _ _ z;refine wa7 (wcY gS rfl ?_);show wpAny _ B.in1 (tryCatch (pyNext (.ref I)) _ >>= _) _ _ z;refine wa7 (wbU (W.done z _ _ (last ▸ st) λh' tk kp=>?_));have Mv:=kp S _ Sf gS;show wpAny _ B.in1 (whj S (λ_=>#[]) >>= _) _ _ _;refine wa7 (wdp Mv rfl (wa7 (wdw (waz ?_))));exact fin best _ tk (by rw[<-last];exact pb) λb o h1 h2 e=>(waO _ _ (wbx h2)).trans (kp b o h1 e)
 |succ k ih=>
  intro j z best c hk hj st pb gS fin;have more:j+1<n:=();refine wbJ wex ?_;rw[wbC wc9 _];show wpAny _ B.in1 (weE (.ref S) >>= _) _ _ z;refine wa7 (wcY gS rfl ?_);show wpAny _ B.in1 (tryCatch (pyNext (.ref I)) _ >>= _) _ _ z;refine wa7 (wbU (W.item (j+1) z _ _ more st λv h' tk hP Sg kp=>?_));have Mv:=kp S _ Sf gS;show wpAny _ B.in1 (tryCatch (holding [v,v] (richCompare .Gt v best >>= _)) _ >>= _) _ _ _;refine wa7 (wbU (wbt (wa7 (cmp (j+1) (argBest bt j) v best _ _ _ hP pb ?_))));refine wa7 (wbt (wbW (wa7 (wdw (waz ?_)))))
  cases hb:bt (j+1) (argBest bt j) with
  |true=>
   simp only[if_true];refine wa7 (wdp Mv rfl (wa7 (wdw ?_)));rw[nm];refine waz {wck wc9 _,ih (j+1) _ v _ () more (W.frame _ _ _ Sg λb Wb o e=>?_) (by simp only[argBest,hb,if_true];exact hP) (wbG _ Mv rfl) λv' h2 QS QT QU=>?_}
   .exact(waO _ _ (λh:S=b=>nS (by rw[h];exact Wb))).trans e
   .exact fin v' h2 QS QT λb o h1 h3 e=>QU b o h1 h3 ((waO _ _ (wbx h3)).trans (kp b o h1 e))
  |false=>
   simp only[wc5,if_false];refine wa7 (wdw ?_);rw[nm];refine waz {wck wc9 _,ih (j+1) _ best c () more Sg (by simp only[argBest,hb,wc5,if_false];exact pb) Mv λv' h2 QS QT QU=>?_};exact fin v' h2 QS QT λb o h1 h3 e=>QU b o h1 h3 (kp b o h1 e)
theorem vF(W:Walks P W0 B.in1 I fp wr n Pr St)(bt:Nat->Nat->Bool)(cmp:CmpOf P W0 B.in1 .Gt Pr bt)(S:Addr)(nS:S∉fp)(kw:List (Str×Value))(pos:0<n)(st:St 0 z.heap)(gS:z.heap.get? S=some {cls:=.type "list",dict:=none,data:=.seq #[] c,slots:=#[]})
 (fin:∀v h' tk,Pr (argBest bt (n-1)) v->(∀b o,b∉wr->b≠S->z.heap.get? b=some o->h'.get? b=some o)->R (.ok (.ret v)) {z with heap:=h',toks:=tk}):codeAny (model P W0) B (.builtin "max.loop" {[.ref I,.none,.ref S],kw}) R z:=by
 have Sf:S∉wr:=λh=>nS (W.sub _ h);have nm:(toString "max"++toString ".loop":String)="max.loop":=⋯;refine wbJ wex ?_;rw[wbC wc9 _];show wpAny _ B.in1 (weE (.ref S) >>= _) _ _ z;refine wa7 (wcY gS rfl ?_);show wpAny _ B.in1 (tryCatch (pyNext (.ref I)) _ >>= _) _ _ z;refine wa7 (wbU (W.item 0 z _ _ pos st λv h' tk hP Sg kp=>?_));have Mv:=kp S _ Sf gS;show wpAny _ B.in1 (whj S (λ_=>#[v,v]) >>= _) _ _ _;refine wa7 (wdp Mv rfl ?_);rw[nm];refine waz {wck wc9 _,wH W bt cmp S nS kw _ 0 _ v _ rfl pos (W.frame _ _ _ Sg λb Wb o e=>?_) hP (wbG _ Mv rfl) λv' h2 QS QT QU=>?_}
 .exact(waO _ _ (λh:S=b=>nS (by grind))).trans e
 .exact fin v' h2 QS QT λb o h1 h3 e=>QU b o h1 h3 ((waO _ _ (wbx h3)).trans (kp b o h1 e))
theorem wI(W:Walks P W0 B.in1 I fp wr n Pr St)(S:Addr)(nS:S∉fp)(dv:Value)(QV:n=0)(st:St 0 z.heap)(gS:z.heap.get? S=some {cls:=.type "list",dict:=none,data:=.seq #[] c,slots:=#[]})
 (fin:∀h' tk,(∀b o,b∉wr->b≠S->z.heap.get? b=some o->h'.get? b=some o)->R (.ok (.ret dv)) {z with heap:=h',toks:=tk}):codeAny (model P W0) B (.builtin "max.loop" {[.ref I,.none,.ref S],[(wcy "default",dv)]}) R z:=by
 refine wbJ wex ?_;rw[wbC wc9 _];show wpAny _ B.in1 (weE (.ref S) >>= _) _ _ z;refine wa7 (wcY gS rfl ?_);show wpAny _ B.in1 (tryCatch (pyNext (.ref I)) _ >>= _) _ _ z;refine wa7 (wbU (W.done z _ _ (QV ▸ st) λh' tk kp=>?_));have done:=fin h' tk λb o h1 _ e=>kp b o h1 e
 wp_walk
 exact done
theorem wJ(a v:Value):argsOk "max" {[a],[(wcy "default",v)]}:=by unfold argsOk;kernel_rfl
end
section
variable{P:waC}{W0:World}{B:Around}{E:Value->Shared->Prop}{z:Shared}
theorem wK{Q:Value->Shared->Prop}(hh:B.handled=none)(il:z.heap.IsList l (intItems xs))
 (he:xs.size=0->∀h' tk,(∀b o,z.heap.get? b=some o->h'.get? b=some o)->Q dv {z with heap:=h',toks:=tk})
 (hn:0<xs.size->∀v h' tk,(intItems xs)[argBest (λi j=>decide (numAt xs i>numAt xs j)) (xs.size-1)]?=some v->(∀b o,z.heap.get? b=some o->h'.get? b=some o)->Q v {z with heap:=h',toks:=tk}) :
 wpAny (model P W0) B (call (.builtin "max") [.ref l] [(wcy "default",dv)]) Q E z:=by
 have nm:(toString "max"++toString ".loop":String)="max.loop":=⋯;refine wi8 F.kind_max F.plain_max F.entry_max (wJ _ _) ?_;show wpAny _ B.in1 (wcN "max" ["key","default"] 0 {[],[(wcy "default",dv)]} >>= _) _ _ z;refine wa7 (whH (show wcN "max" ["key","default"] 0 {[],[(wcy "default",dv)]}=pure [none,some dv] from rfl) ?_);refine wa7 (waz (wa7 (iter_intList il λs₂ e st Z2 QN=>?_)));subst e;refine wa7 (wfq ?_);rw[nm];have W:=wfA (prog:=P) (w:=W0) (A:=B.in1) hh z.heap.objs.size l QN (intItems xs);have nS:(z.heap.push {cls:=.type "list_iterator",data:=.fields #[.ref l,.int 0 0]}).objs.size∉[z.heap.objs.size,l]:=λhm=>wbm _ (Z2 _ hm)
 have keep:∀{h':Heap},(∀b o,b∉[z.heap.objs.size]->b≠(z.heap.push {cls:=.type "list_iterator",data:=.fields #[.ref l,.int 0 0]}).objs.size->((z.heap.push {cls:=.type "list_iterator",data:=.fields #[.ref l,.int 0 0]}).push {cls:=.type "list",data:=.seq #[]}).get? b=some o->h'.get? b=some o)->∀b o,z.heap.get? b=some o->h'.get? b=some o:=λ{h'} hk b o e=>by
  have lt:=wae e;refine hk b o (λhm=>?_) (λh=>?_) (wa9 _ (wa9 _ e))
  .rw[wao.mp hm]at lt;exact wbm _ lt
  .rw[wbS]at h;rw[h]at lt;exact absurd (show z.heap.objs.size+1<z.heap.objs.size from lt) (by lia)
 by_cases h0:xs.size=0
 .refine waz {wck wc9 _,wI W _ nS dv (by simp[intItems,h0]) (W.frame _ _ _ st λb _ o e=>wa9 _ e) (wap _ rfl) λh' tk hk=>?_};exact he h0 h' tk (keep hk)
 .refine waz {wck wc9 _,vF W _ (CmpOf.ints_gt (numAt xs) (λ_ _=>whF)) _ nS _ (by simp[intItems];lia) (W.frame _ _ _ st λb _ o e=>wa9 _ e) (wap _ rfl) λv h' tk hP hk=>?_};exact hn (by lia) v h' tk (by simpa [intItems] using hP) (keep hk)
end
end PySem
namespace L2
open PySem.Spec PyProof.Rows PySem.Calls
section
variable{prog:waC}{w:World}{A:Around}{E:Value->Shared->Prop}{s:Shared}
theorem D2(o l:Addr)(t:Tok):Meets (wey.«object.__init__» {[.ref o,.ref l],Ms t}) (λ_ R s=>s.TypeIs (.ref o) "enumerate"/\R (.ok (.ret .none)) s):=by
 have hl:=wfd.init.lookup;have c:=wfd.made;have a:(some "enumerate.__new__" != some "object.__new__")=true:=⋯;refine Meets.of_wp λprog w A R s ⟨d,b⟩=>?_
 repeat (any_goals (first |assumption |wp_step))
 exact{_,rfl,b}
theorem D3{Q:Value->Shared->Prop}(C:s.heap.IsList l items)
 (h:∀h',IsEnum h' (s.heap.objs.size+1) s.heap.objs.size 1 .none->h'.IsListIter s.heap.objs.size l 0->(∀b o,s.heap.get? b=some o->h'.get? b=some o)->Q (.ref (s.heap.objs.size+1)) {s with heap:=h'}) :
 wpAny (model prog w) A (call (.type "enumerate") [.ref l] (Ms t)) Q E s:=by
 obtain⟨⟨c,f,x,sl⟩,hl,hc,n,hd⟩:=C;have y:c=.type "list":=hc;have z:x=.seq items n:=hd;subst y z;have B:(s.heap.push {cls:=.type "list_iterator",data:=.fields #[.ref l,.int 0 0]}).objs.size=s.heap.objs.size+1:=wbS ..;have a:=wfd;obtain⟨c,J,k⟩:=a.mro;have g:=a.made;have m:=a.sub;have L:=a.notType;have M:=a.canCreate;have D:=IJ l t;refine wdn (wgc (show wpAny _ _ (callAny (.type "enumerate") _) _ _ _ from waz {we6 _ ∅,wbJ wgM ?_}));rw[whh (wgA "enumerate" [.ref l] (Ms t)) (units_type_call_type "enumerate" [.ref l] (Ms t))]
 repeat (any_goals (first |assumption |wp_step))
 have p:((s.heap.push {cls:=.type "list_iterator",data:=.fields #[.ref l,.int 0 0]}).push {cls:=.type "enumerate",data:=.fields #[.none,.bool false,.ref s.heap.objs.size,rawInt 1,.none,.none]}).get? (s.heap.objs.size+1)=some {cls:=.type "enumerate",data:=.fields #[.none,.bool false,.ref s.heap.objs.size,rawInt 1,.none,.none]}:=by
  rw[<-B];exact wap _ rfl
 refine wch (wcV a.plain F.entry_enumerate_new (whH (IK l t) ((Fv l items n f sl t) prog w A.in1 (wants (λv i=>v=.ref (s.heap.objs.size+1)/\i={s with heap:=(s.heap.push {cls:=.type "list_iterator",data:=.fields #[.ref l,.int 0 0]}).push {cls:=.type "enumerate",data:=.fields #[.none,.bool false,.ref s.heap.objs.size,rawInt 1,.none,.none]}}) E) s ⟨hl,rfl,rfl⟩))) λr q j=>?_
 cases r with
 |error e=>exact j
 |ok fl=>
  cases fl with
  |ret obj=>
   obtain⟨rfl,rfl⟩:=j;have u:wib {s with heap:=(s.heap.push {cls:=.type "list_iterator",data:=.fields #[.ref l,.int 0 0]}).push {cls:=.type "enumerate",data:=.fields #[.none,.bool false,.ref s.heap.objs.size,rawInt 1,.none,.none]}} (.ref (s.heap.objs.size+1)) "enumerate":={_,p,rfl};have G:=a.init.lookup;have H:=a.init.bind (.ref (s.heap.objs.size+1));have N:=h _ p {_,wa9 _ (wap _ rfl),rfl,rfl} λb o e=>wa9 _ (wa9 _ e)
   repeat (any_goals (first |assumption |wp_step))
   refine wch (wcV a.init.plain F.entry_object_init (a.init.check _ _ _ _ _ _ _ _ u (CH _ l t) ((D2 (s.heap.objs.size+1) l t) prog w A.in1 (wants (λv i=>v=.none/\i={s with heap:=(s.heap.push {cls:=.type "list_iterator",data:=.fields #[.ref l,.int 0 0]}).push {cls:=.type "enumerate",data:=.fields #[.none,.bool false,.ref s.heap.objs.size,rawInt 1,.none,.none]}}) E) _ ⟨u,rfl,rfl⟩))) λI O d=>?_
   cases I with
   |error e=>exact d
   |ok OJ=>
    cases OJ with
    |ret r=>
     obtain⟨rfl,rfl⟩:=d
     repeat (any_goals (first |assumption |wp_step))
    |_=>exact d.elim
  |_=>exact j.elim
end
section
variable{X:Cx}
theorem zv{E:Value->Shared->Prop}{Q:Value->Shared->Prop}(l:args.any (·.1)=false)(p:j.any (·.1.isNone)=false)
 (h:wpAny M A (evalArgs (.type T) true args j) (λa g=>wpAny M A (call (.type T) (first++a.pos) a.kw) Q E g) E s):wpAny M A (callWith pos (.type T) first args j) Q E s:=by
 unfold callWith;refine wa7 (wbt (wb8 h (λa g b=>wa7 (wdL ?_)) λ_ _ x=>x));simp only[l,p,Bool.or_false];exact wa7 (waz (wa7 (wb8 b (λr c d=>wa7 (wbt (wpAny_point (waz d)))) λ_ _ x=>x)))
theorem J6{g:List Expr}{k j:Nat}{r:Pos}{l:Expr}{C:TA}{p J kp pos:Pos}(T:Gl X "enumerate")(U:X.mg "enumerate"=none)(ha:PA X [l] C)(hs:starEach [l] X.env=[(false,eval l X.env)]:=by rfl) :
 PI X (.Tuple g k r) (.Call (.Name "enumerate" p) [l] [{some "start",.Constant (.int 1) j J,kp}] pos) (O3 X.K C):=by
 refine{?_};intro c s σ H R I h;refine wbr (eR I T U gG ?_ ⋯ ⋯);refine zv (by rw[hs];rfl) rfl ?_
 have w:backTo pos (starEach [l] X.env)=(false,(backTo pos (starEach [l] X.env)).head (by rw[hs];exact λz=>nomatch z) |>.2)::[]:=by
  simp only[hs];rfl
 rw[w];refine evalArgs_kwB rfl ?_;rw[<-w];refine bN (ha pos c s σ H _ I h) λus E ⟨vs,A,G,L,M⟩=>?_;refine weF (bN (ao (X:=X) (i:=1) c E σ A (λx m=>x=.int 1/\m=A) G ⟨rfl,rfl⟩) λv d ⟨y,m,n,N,O,Q⟩=>weX ?_);subst O Q;obtain⟨t,rfl⟩:=N;obtain⟨a,xs,e,S,q⟩:=M;subst e;obtain⟨u,rfl,V⟩:=vals1 L;cases V;obtain⟨Y,rv,pl,hz⟩:=n.list S;refine D3 pl.isList λZ B hit kp=>wcS B ?_;have I3:Inv X c σ m {d with heap:=Z}:=n.kept (t':=d.toks) kp;have o:a<d.heap.objs.size:=let ⟨_,ho,_⟩:=pl.isList;wae ho
 refine{d.heap.objs.size+1,[d.heap.objs.size+1,d.heap.objs.size],_,_,m,rfl,I3,CJ a _ _ (wc4 (wbO _)) (wav o),{{_,B},hit},λb D=>?_,q}
 have f:d.heap.objs.size<=b:=by
  rcases waG.mp D with rfl |D
  .grind
  .grind
 exact n.tH f (n.b9.fresh f)
end
end L2
namespace Wc
open PyProof.Rows PySem.W PySem.Calls
theorem tK:∀(ns:List Int) (vs:List Value),WellAll P h vs (ns.map WData.int)->IntsAre vs ns:=by
 intro ns
 induction ns with
 |nil=>
  intro vs w;rw[wdY]at w;cases w;exact .nil
 |cons n ns c=>
  intro vs w;rw[wat]at w
  cases w with
  |cons a b=>
   cases a;exact .cons _ _ (c _ b)
theorem FO{l:wf0}{n:Nat}(hn:l.most=some n){P:Params}{h:Heap}{args:List WData}{g:List Value}
 (j:l.row.toRowW.claim.pre args=true) (p:WellAll P h g args) :
 ∃a vs ns,g=[wam a]/\args=[WData.list (ns.map WData.int)]/\h.get? a=some {cls:=.type "list",data:=.seq vs.toArray}/\IntsAre vs ns/\ns.length<=n:=by
 have i:WShape.hasAll [] args [.list .int]=true:=(pre_splitW j).1;have hc:l.pre.holds [] {args:=args}=true:=(pre_splitW j).2;obtain⟨d,r,rfl,k,m⟩:=hasAllW_cons i;obtain rfl:=hasAllW_nil m;obtain⟨w,rfl,o⟩:=hasW_list k;obtain⟨ns,rfl⟩:=items_int o
 have b:ns.length<=n:=by
  unfold OpenLaw.pre at hc
  have e:(WTm.not (.lt (.lit (.int (n:Int))) (.len (.arg 0)))).holds [] {args:=[.list (ns.map .int)]}=true:=by
   have e:=(holds_andW hc).1;rw[hn]at e;exact e
  have f:=condW_of e (w_not (w_lt w_lit (w_len_list (w_arg rfl))));rw[wa0]at f;refine whV λq=>?_;have s:(n:Int)<((ns.length:Nat):Int):=()
  first
   |(rw[decide_eq_true s]at f;exact absurd f ⋯)
   |(simp at f;omega)
 cases p with
 |cons t u=>
  cases u
  cases t with
  |list v c=>exact{_,_,ns,rfl,rfl,v,tK ns _ c,b}
theorem FP(l:wf0)(args:List WData):l.row.toRowW.claim.post args (.bool true) args=true:=
 postW_of (r:=l.row.toRowW) (X:=(true==true))
  (show WShape.has [] (.bool true) .bool=true by first |rfl |decide |simp[WShape.has,WShape.arms,WShape.armsAll])
  (show (WTm.eq .res (.lit (.bool true))).value [] {args:=args,res:=some (.bool true),after:=args}=some (.bool (true==true)) from w_eq_bool (w_res rfl) w_lit) rfl
theorem AR{l:wf0}{n:Nat}{q:waC}{loose:List Str}{XP:(Str->Option Value)->Heap->Prop}{YP:World->Heap->Prop}{d:DefRec}
 (hn:l.most=some n) (p:d.params.defaults=[])
 (call:∀(w:World) (s₀ g:Shared) (mg t:Str->Option Value) (fa:Addr) (o:Obj) (pm cd j:Value) (a:Addr) (vs:List Value) (ns:List Int),
   Ground q loose [] XP w s₀ mg t g.heap->YP w g.heap ->
   g.heap.get? fa=some o->o.data=.func (docDef d.name d.params d.body d.scope pm cd j)->g.heap.CodeRec cd d.name->mg d.name=some (.ref fa) ->
   g.heap.get? a=some {cls:=.type "list",data:=.seq vs.toArray}->IntsAre vs ns->ns.length<=n->g.gens=#[] ->
   codeAny (model l.prog w) callerA (.call (.ref fa) {[.ref a],[]}) (λr s'=>r=.ok (.ret (.bool true))/\OldK g.heap s'.heap/\s'.os=g.os/\AllBare s'.gens) g) :
 whX q loose XP YP l.row.toRowW d [] (λf vs=>wi7 f vs):=by
 intro w s₀ g mg t G Y fa o pm cd j x kV y hd i s k z args u as c v A m B;obtain rfl:x=.none:=Dflts.none s p;obtain rfl:kV=.none:=Dflts.noKw s;obtain⟨a,vs,ns,rfl,rfl,e,b,h⟩:=FO hn c m;refine enter_call (wch (call w s₀ g mg t fa o pm cd j a vs ns G Y y (fd_plain hd) i k e b h z) λr s' C=>?_);obtain⟨rfl,D,E,H⟩:=C;exact{.inl {.bool true,.bool true,[],rfl,λ_=>rfl,.bool true,FP l _,λ_=>{List.Pairwise.nil,λ_ I=>(nomatch I)}},D,E,H}
end Wc
namespace PySem.SeqAt
open MeetsSeq
theorem wL{M:Model}{A:Around}{E:Value->Shared->Prop}{s:Shared}{Q:Bool->Shared->Prop}{id:String}{l:Addr}{ep:Nat}{dd:Option Addr}{sl:Array (Option Value)}(j:(l==wcb)=false)
 (hl:s.heap.get? l=some {cls:=.type "dict",dict:=dd,data:=.dict #[] ep,slots:=sl}) (h:Q true s):wpAny M A (wgt id l l) Q E s:=by
 obtain⟨a,g,d,b,os⟩:=s;unfold wgt;simp only[wh5]
 wp_walk using wdU hl,wpAny_load hl
 exact h
theorem wM(l:Addr)(ep:Nat)(dd:Option Addr)(sl:Array (Option Value))(j:(l==wcb)=false) :
 Meets (wey.«dict.__eq__» {[.ref l,.ref l],[]}) (λ_ R s=>s.heap.get? l=some {cls:=.type "dict",dict:=dd,data:=.dict #[] ep,slots:=sl}/\R (.ok (.ret (.bool true))) s):=
 .of_wp λprog w A R s h=>by obtain⟨a,g,d,b,os⟩:=s;obtain⟨hl,h⟩:=h;have f1:=F.sub_dict_dict;wp_walk using wL j hl,wdU hl,wpAny_load hl;exact{_,rfl,h}
section
variable{A:Around}{s:Shared}
theorem RcAt.FQ(g:s.heap.get? l=some o)(p:o.cls=.type "dict")(hd:o.data=.dict #[] ep)(j:(l==wcb)=false)(r:A.units<wcJ):RcAt A s (.ref l) (.ref l) true:=λprog w E Q h=>by
 obtain⟨cls,a,data,sl⟩:=o;simp only at p hd;subst p hd
 exact richCompare_meets_room (op:=.Eq) {_,g,rfl} {_,g,rfl} F.slot_dict_eq F.entry_dict_eq (F.args_dict_eq_2 _ _) (wM l ep a sl j)
  {g,show wfx true≠Value.notImplemented/\Q (.bool true) s from {(λx=>nomatch x),h}} r
end
end PySem.SeqAt
namespace L2
open PySem.Spec PyProof.Rows
section
variable{X:Cx}
theorem Ln{l:wf0}{n k:Nat}{q:waC}{loose:List Str}{XP:(Str->Option Value)->Heap->Prop}{YP:World->Heap->Prop}{d:DefRec}{K:Params->wa2}{CX:World->G7}{sp:World->Sp}{x:Str}
 (hn:l.most=some n) (p:n<=sizeLine) (r:d.params.defaults=[]) (I:dF k callerA)
 (J:∀(w:World) (h:Heap),YP w h->(K w.params).In h)
 (F:∀(w:World) (mg:Str->Option Value) (fa:Addr) (h:Heap),(K w.params).In h->h.Ns wb2 mg->mg d.name=some (.ref fa) ->
   ∃fd:wbw,(∀(s:Shared) (u:Value),BindsTo s fd {[u],[]} [(x,u)]) /\
    ∀base:Heap,(K w.params).In base->base.Ns wb2 mg->aS l.prog w (K w.params) mg base (CX w) k fa fd [x] (sp w))
 (t:∀(w:World) (H:Hp) (a:Addr) (ns:List Int),ns.length<=n->Only H->aH (K w.params) H a (ns.map V.int)->sp w [.ref a] H (λv _=>v=.bl true) λ_ _ _=>False)
 (C:∀(w:World) (H:Hp) (s:Shared) (e:Value) (s':Shared),CX w [] H s (λ_ _ _=>False) e s'->False) :
 whX q loose XP YP l.row.toRowW d [] (λf vs=>wi7 f vs):=by
 refine Wc.AR hn r λw z j mg Q fa o pm R B a vs ns G Y S hd D y m i c E=>?_;have A:=J w _ Y;obtain⟨fd,L,M⟩:=F w mg fa _ A G.T.g y;exact GL A G.T.g G.T.b G.T.builtins G.T.nolimit E m i (wal c p) I M L (λH N O=>t w H a ns c N O) λH e s'=>C w H j e s'
theorem Od(l:X.A.units<wcJ):lH X (wbo .Eq) (λx y H Q=>x=y/\Thing H x/\Q (.bl true) H):=by
 intro i s σ H x y v u Q I d g h;obtain⟨rfl,m,q⟩:=h;have fin:EP X i σ Q (.bool true) s:={.bl true,H,I,rfl,q}
 cases m with
 |flat f=>
  cases x with
  |non=>cases d;cases g;exact SeqAt.RcAt.none_none _ _ _ _ fin
  |bl b=>cases d;cases g;exact SeqAt.RcAt.bool_bool b b _ _ _ _ (by simpa using fin)
  |int b=>obtain⟨t,rfl⟩:=d;obtain⟨k,rfl⟩:=g;exact SeqAt.RcAt.int_int b t b k _ _ _ _ (by simpa using fin)
  |str b=>obtain⟨t,rfl⟩:=d;obtain⟨k,rfl⟩:=g;exact SeqAt.RcAt.str_str b t b k _ _ _ _ (by simpa using fin)
  |_=>exact absurd (show false=true from f) wan
 |@lst a n ha f=>
  cases d;cases g;obtain⟨c,r,pl,p⟩:=I.list (aH.of (K:=X.K) ha);exact whZ (e:=λ_=>true) pl.isList pl.isList rfl l (λj _ _=>wg7 _) (by rw[show ((waD c.toArray.size).all λ_=>true)=true from waR.mpr λ_ _=>rfl];exact fin)
 |@tup a n ha f=>
  cases d;cases g;obtain⟨c,r,pl,p⟩:=I.tuple (g8.of (K:=X.K) ha);exact SeqAt.eq_tupleAt (e:=λ_=>true) pl pl l (λj _ _=>wg7 _) (by rw[show ((waD (min c.toArray.size c.toArray.size)).all λ_=>true)=true from waR.mpr λ_ _=>rfl,beq_self_eq_true];exact fin)
 |@dic a ha=>
  cases d;cases g;obtain⟨o,D,w,z,B,C⟩:=N9 I ha;exact SeqAt.RcAt.FQ w z B C l _ _ _ _ fin
theorem FR(hc:X.calm=true)(I:Inv X g σ H s)(l:RelV (.int d) v)(C:aH X.K H a (wcZ V.int ns))(h0:ns=[]->Q (.int d) H)(J:∀M,M∈ns->(∀a∈ns,a<=M)->Q (.int M) H) :
 wpAny (model X.prog X.w) X.A (call (.builtin "max") [.ref a] [(wcy "default",v)]) (EP X g σ Q) X.xe s:=by
 obtain⟨f,r,pl,q⟩:=I.list C;obtain⟨c,e,rfl⟩:=jB r
 have hl:s.heap.IsList a (intItems c.toArray):=by
  have:intItems c.toArray=f.toArray:=by rw[e];unfold intItems;simp
  rw[this];exact pl.isList
 refine wK (I.ok.hd hc) hl (λh i k hk=>?_) (λh u i k m hk=>?_)
 .have:c=[]:=by
   rw[waF]at h;exact wbE h
  subst this;exact{.int d,H,I.kept hk,l,h0 rfl}
 .obtain⟨t,rfl⟩:=whF m;obtain⟨x,n⟩:=argBest_gt (numAt c.toArray) (c.toArray.size-1);refine{.int _,H,I.kept hk,⟨t,rfl⟩,J _ ?_ λb o=>?_}
  .rw[numAt_eq];exact getD_mem (by rw[wa0];simp only[waF]at *;omega)
  .obtain⟨j,p,rfl⟩:=mem_getD o;rw[wa0]at p;have:=n j (by simp only[waF]at *;omega);rw[numAt_eq]at this;exact this
end
section
variable{X:Cx}{e e2:Expr}{t:TA}{t2:TE}{p kp pos:Pos}
theorem Lp(hc:X.calm=true)(g:Gl X "max")(j:X.mg "max"=none)(ha:PA X [e] t)(hd:PE X e2 t2)(hs:starEach [e] X.env=[(false,eval e X.env)]:=by rfl):PE X (.Call (.Name "max" p) [e] [{some "default",e2,kp}] pos) (PV X.K t t2):=by
 refine{?_};intro b s σ H Q I h;refine wbr (eR I g j (show waV "max"=some (.builtin "max") from Hx) ?_ ⋯ ⋯);refine wfQ (bN (ha pos b s σ H _ I h) λx c ⟨z,f,i,k,l⟩=>?_) (by rw[hs];rfl) (by rw[hs];rfl);refine weF (bN (hd b c σ f _ i l) λv A ⟨y,B,m,n,o⟩=>weX ?_);obtain⟨a,ns,d,rfl,rfl,q,h0,r⟩:=o;obtain⟨u,rfl,w⟩:=vals1 k;cases w;exact FR hc m n q h0 r
end
end L2
namespace L2
open PySem.Spec PyProof.Rows Builtin Builtin.ObjectAttr
theorem fb.ne{K:wa2}{C D CB j:Addr}{nm g:Str}(U:fb K C CB nm)(l:fb K D j g)(h:¬nm=g):C≠D:=λe=>by
 subst e;obtain⟨q,N,bs,r,sub,ab,d,s,t,u,v,w,x,l1⟩:=U.lk;obtain⟨y,z,f,i,b,k,c,m,A,n,B,E,G,a⟩:=l.lk;rw[l1]at a;have:=congrArg (λo=>match o with |some (⟨_,_,.cls p,_⟩:Obj)=>p.name |_=>nm) a;exact h this
theorem fb.neT{K:wa2}{C CB g:Addr}{nm j:Str}(U:fb K C CB nm)(T:Oa K g j)(h:¬nm=j):C≠g:=λe=>by
 subst e;obtain⟨q,N,bs,r,sub,ab,d,s,t,u,v,w,x,l1⟩:=U.lk;obtain⟨y,z,f,i,k,b,l,c,m,A,n,B,D,E,a⟩:=T.lk;rw[l1]at a;have:=congrArg (λo=>match o with |some (⟨_,_,.cls p,_⟩:Obj)=>p.name |_=>nm) a;exact h this
section
variable{K:wa2}{C:Addr}
structure Oe(K:wa2)(C:Addr):Prop where
 ha:findIn K (.ref C) "__class__"=some (some (.builtin "object.__class__"))
 hn:whn K (.builtin "object.__class__") "__get__"=some (some (.builtin "getset_descriptor.__get__"))
 qA:takesIn K (.builtin "object.__class__")=some true
end
end L2
namespace K51
structure Lk(K:wa2)(mg:Str->Option Value) where
 T:Txt mg
 (vG kE pA fN eK fo g9 jm pB wN sv sx yj lZ m3 kF nA pC pD kh gK jn ig iH m4 nB sy kG vH m6 vI yk pE nC nD sA vJ m7 pF DX pG sC ym oA AU m9 gp nE mc pH pI DY md gL pJ ik fq me jo pK ki sD AV pL yn kH fO pM AW fP kJ mh vK nF mi iI mj ml sE nG sF sG sH sI pN sJ nH vL mm:Addr)
 (vM kK pO iJ eL fu gb jq pP wO sL sM yo mn mq kL nJ pQ pR pT kM jr ip iK mr nK sP kP vN mw vO yp pU nL nM sQ vP mx pV DZ pW sR yq vQ AX my js nN mz pX pY E1 mB kQ pZ iq fv mC jt q0 q9 sS AY qa yr kR fQ qc AZ iL kT mD vR nO mE iM mF mG sT nP sU sV sW sX qe sY nQ vS sZ:wbw)
 kj:FnAt K mg "is_whole" (top 16) ["thing"] vG vM
 kU:FnAt K mg "steps_by_word" (top 18) ["writer"] kE kK
 qf:FnAt K mg "desks_into" (top 19) ["pairs","ends"] pA pO
 mH:FnAt K mg "all_among" (top 23) ["text","signs"] sv sL
 t5:FnAt K mg "are_signs" (top 24) ["thing"] sx sM
 yt:FnAt K mg "is_word" (top 25) ["thing","signs"] yj yo
 mI:FnAt K mg "check_barred" (top 26) ["barred","signs"] lZ mn
 fR:FnAt K mg "bears_barred" (top 27) ["row","barred"] m3 mq
 kW:FnAt K mg "sorted_places" (top 28) ["barred"] kF kL
 nR:FnAt K mg "longest_end" (top 29) ["row","places"] nA nJ
 qg:FnAt K mg "moves_from" (top 30) ["place","signs","barred","places"] pC pQ
 qh:FnAt K mg "leads_into" (top 31) ["ends","lot"] pD pR
 qi:FnAt K mg "live_among" (top 32) ["moves"] kh pT
 vT:FnAt K mg "all_rows" (top 35) ["band","wide"] vI vO
 yu:FnAt K mg "is_rate" (top 36) ["band","many","wide"] yk yp
 fS:FnAt K mg "check_rate" (top 37) ["band","many","wide"] pE pU
 nT:FnAt K mg "longer_rows" (top 38) ["band","rows"] nC nL
 iW:FnAt K mg "blocks_from" (top 39) ["band","place","wide"] nD nM
 t6:FnAt K mg "ends_from" (top 41) ["band","place"] sA sQ
 vU:FnAt K mg "all_ends" (top 42) ["band"] vJ vP
 ir:FnAt K mg "counts_up_to" (top 43) ["band","length"] m7 mx
 qj:FnAt K mg "count_from" (top 44) ["band","place","length"] pF pV
 E2:FnAt K mg "count" (top 45) ["band","length"] DX DZ
 qk:FnAt K mg "block_ends" (top 47) ["band","wide"] pG pW
 t7:FnAt K mg "weight_of" (top 48) ["places","weights"] sC sR
 yv:FnAt K mg "lowered" (top 49) ["ends","many","weights"] ym yq
 vV:FnAt K mg "greatest" (top 50) ["band","many","wide","most"] oA vQ
 B1:FnAt K mg "scarce" (top 51) ["band","many","wide","most"] AU AX
 mJ:FnAt K mg "copied_steps" (top 53) ["line"] m9 my
 iX:FnAt K mg "first_sheet" (top 55) ["band","many","wide","weights"] nE nN
 iu:FnAt K mg "is_number_of" (top 56) ["number","things"] mc mz
 dC:FnAt K mg "check_part" (top 57) ["sheet","many","steps","weight"] pH pX
 ql:FnAt K mg "with_twins" (top 58) ["line","desk","twin"] pI pY
 ue:FnAt K mg "split" (top 59) ["sheet","many","desk","numbers","weight"] DY E1
 iw:FnAt K mg "copied_sheet" (top 64) ["sheet"] md mB
 dD:FnAt K mg "check_not_scarce" (top 66) ["band","many","wide"] ik iq
 cp:FnAt K mg "weights_of_least_most" (top 67) ["band","many","wide"] fq fv
 mK:FnAt K mg "reached_from" (top 68) ["sheet","desk"] me mC
 ju:FnAt K mg "closed_weights" (top 69) ["band","many","wide","weights"] jo jt
 kl:FnAt K mg "steps_into" (top 70) ["line","desks"] pK q0
 km:FnAt K mg "kept_desks" (top 71) ["sheet","many"] ki q9
 t8:FnAt K mg "step_down" (top 72) ["sheet"] sD sS
 B4:FnAt K mg "run_by" (top 73) ["weights","numbers","many"] AV AY
 qm:FnAt K mg "next_split" (top 74) ["sheet","many"] pL qa
 n8:FnAt K mg "plan_of" (top 75) ["band","many","wide"] yn yr
 kX:FnAt K mg "blocks_behind" (top 77) ["band","wide"] kH kR
 fT:FnAt K mg "steps_by_new_numbers" (top 78) ["line","kept","many"] fO fQ
 qo:FnAt K mg "check_data" (top 79) ["data","many"] pM qc
 vW:FnAt K mg "walked" (top 80) ["lines","desk","data"] AW AZ
 iN:FnAt K mg "_law_here" (top 83) ["_law_script","_law_place_here"] sE sT
 eW:FnAt K mg "_law_shaken" (top 84) ["_law_cell","_law_many"] nG nP
 t9:FnAt K mg "_law_band" (top 85) ["_law_script"] sF sU
 tf:FnAt K mg "_law_rate" (top 86) ["_law_script","_law_signs"] sG sV
 tj:FnAt K mg "_law_told" (top 87) ["_law_signs","_law_words","_law_many","_law_wide"] sH sW
 tq:FnAt K mg "_law_good" (top 88) ["_law_row","_law_words"] sI sX
 qp:FnAt K mg "_law_place" (top 89) ["_law_row","_law_words"] pN qe
 tu:FnAt K mg "_law_room" (top 90) ["_law_told_here","_law_wide"] sJ sY
 nU:FnAt K mg "_law_window" (top 91) ["_law_told_here","_law_signs","_law_cell","_law_many","_law_wide"] nH nQ
 vX:FnAt K mg "_law_due" (top 92) ["_law_told_here","_law_window_here","_law_words","_law_wide"] vL vS
 tD:FnAt K mg "_law_fits" (top 93) ["_law_found","_law_due_here"] mm sZ
 aQ:Addr
 J7:mg "Reader"=some (.ref aQ)
 aG:EW K aQ
 FT:Mk K aQ fN
 aA:Addr
 Of:mg "Band"=some (.ref aA)
 aI:Kw K aA
 Lq:Mk K aA gK
 aB:Addr
 zx:mg "Sheet"=some (.ref aB)
 az:HM K aB
 vY:Mk K aB gp
 aR:Addr
 Og:mg "Plan"=some (.ref aR)
 dE:Kx K aR
 Lr:Mk K aR gL
 ak:Addr
 J8:mg "Writer"=some (.ref ak)
 aj:FH K ak
 FU:Mk K ak fP
 iO:cI K aQ "__init__" "Reader.__init__" (inClass (top 20) 0) ["self","writer"] fN iJ
 eN:cI K aQ "blocks_in_window" "Reader.blocks_in_window" (inClass (top 20) 1) ["self"] eK eL
 fz:cI K aQ "desks_ahead_of" "Reader.desks_ahead_of" (inClass (top 20) 2) ["self","row"] fo fu
 gf:cI K aQ "word_fitting" "Reader.word_fitting" (inClass (top 20) 3) ["self","window"] g9 gb
 jv:cI K aQ "word_of" "Reader.word_of" (inClass (top 20) 4) ["self","window"] jm jq
 E3:cI K aQ "words_in" "Reader.words_in" (inClass (top 20) 5) ["self","length"] pB pP
 JD:cI K aQ "read" "Reader.read" (inClass (top 20) 6) ["self","row"] wN wO
 kY:cI K aA "__init__" "Band.__init__" (inClass (top 33) 0) ["self","signs","barred"] gK kM
 eG:cI K aA "check_row" "Band.check_row" (inClass (top 33) 1) ["self","row"] jn jr
 fg:cI K aA "check_place" "Band.check_place" (inClass (top 33) 2) ["self","place"] ig ip
 iP:cI K aA "check_live" "Band.check_live" (inClass (top 33) 3) ["self","place"] iH iK
 mL:cI K aA "is_good" "Band.is_good" (inClass (top 33) 4) ["self","row"] m4 mr
 nV:cI K aA "places" "Band.places" (inClass (top 33) 5) ["self"] nB nK
 iQ:cI K aA "live" "Band.live" (inClass (top 33) 6) ["self"] sy sP
 kZ:cI K aA "place_of" "Band.place_of" (inClass (top 33) 7) ["self","row"] kG kP
 oB:cI K aA "led" "Band.led" (inClass (top 33) 8) ["self","place","sign"] vH vN
 mM:cI K aA "longest" "Band.longest" (inClass (top 33) 9) ["self"] m6 mw
 eI:cI K aB "__init__" "Sheet.__init__" (inClass (top 54) 0) ["self","homes","weights","lines"] gp js
 lq:cI K aR "__init__" "Plan.__init__" (inClass (top 65) 0) ["self","weights","splits","kept","last"] gL kQ
 qt:cI K aR "sheet" "Plan.sheet" (inClass (top 65) 1) ["self"] pJ pZ
 iR:cI K ak "__init__" "Writer.__init__" (inClass (top 81) 0) ["self","band","many","wide"] fP iL
 cx:cI K ak "behind" "Writer.behind" (inClass (top 81) 1) ["self"] kJ kT
 fU:cI K ak "ahead" "Writer.ahead" (inClass (top 81) 2) ["self"] mh mD
 J9:cI K ak "start" "Writer.start" (inClass (top 81) 3) ["self"] vK vR
 nW:cI K ak "lead" "Writer.lead" (inClass (top 81) 4) ["self"] nF nO
 cN:cI K ak "desks" "Writer.desks" (inClass (top 81) 5) ["self"] mi mE
 fV:cI K ak "place_at" "Writer.place_at" (inClass (top 81) 6) ["self","desk"] iI iM
 eA:cI K ak "steps" "Writer.steps" (inClass (top 81) 7) ["self","desk"] mj mF
 mN:cI K ak "write" "Writer.write" (inClass (top 81) 8) ["self","data"] ml mG
 di:Addr
 B5:mg "BandError"=some (.ref di)
 XT:Oa K di "BandError"
 XB:M3 K di
 fA:Addr
 jw:mg "NoSplit"=some (.ref fA)
 jx:fb K fA di "NoSplit"
 OO:Oe K fA
 iy:wbj K (.ref fA) "__init__"=some (some (.builtin "ValueError.__init__"))
 cz:Addr
 B6:mg "Scarce"=some (.ref cz)
 iz:fb K cz di "Scarce"
 QW:Oe K cz
 dZ:Addr
 fW:wbw
 B8:zS K "__init__" "Scarce.__init__" (inClass (top 12) 0) dZ fW
 B9:Binds K fW ["self","length","rows"] []
 FV:wbj K (.ref cz) "__init__"=some (some (.ref dZ))
 FW:wfG K (.ref dZ)=true
 tL:wbj K (.ref cz) "length"=some none
 wQ:wbj K (.ref cz) "rows"=some none
 oC:Addr
 D5:mg "Open"=some (.ref oC)
 zy:fb K oC di "Open"
 Us:Oe K oC
 E4:wbj K (.ref oC) "__init__"=some (some (.builtin "ValueError.__init__"))
 vZ:∃t,mg "MOST_BLOCKS"=some (.int 24 t)
 w4:∃t,mg "MOST_WEIGHT"=some (.int 8 t)
 lC:∃t,mg "MOST_WEIGHT_IN_ALL"=some (.int 40 t)
 known:∃t,mg "KNOWN_SIGNS"=some (.str fH t)
section
variable{P:waC}{w:World}{K:wa2}{mg:Str->Option Value}{base:Heap}
local macro_rules|`(tactic|ac_rfl)=>`(tactic|try dsimp only[cW,cX,aZ,b0])
theorem qu(L:Lk K mg):aS P w K mg base cO 1 L.sv L.sL ["text","signs"] KH:=by
 have T:=L.T;refine L.mH.F.d8 (N:=["text","signs"]) (λf A outer s H n Q E nd o h=>?_);obtain⟨a,b,rfl,hl,k⟩:=h;refine{_,(ae (ay (aT (A4 rfl) (by rfl) T.all Qz (aM (cn rfl (aw ["signs"] [1]) (yS (pv 0)) (λ_ _ _ _ _ _=>b8) (λ_ _ _ _ _ _=>(dS qG (pv 0) (pv 1) rfl))))))),?_}
 ac_rfl
 refine{_,rfl,a,rfl,λl e=>comp_map (QH b) (oN a) e (by unfold eO;rw[wa0];exact aq (wal (we2 (aE a)) (by lia))) (λ_ _=>trivial) (λx g p i _ q=>?_) (λj m d=>?_)}
 .obtain⟨c,_,rfl⟩:=wab.mp i;exact{_,rfl,_,rfl,_,_,rfl,rfl,q g (a8.refl _)}
 .rw[EZ]at d;refine{l,_,rfl,aH.of d,?_};have:=k j m;rw[wfF];exact this
theorem gM(L:Lk K mg):aS P w K mg base cO 1 L.m3 L.mq ["row","barred"] (KZ K):=by
 have T:=L.T;refine L.fR.F.d8 (N:=["row","barred"]) (λi A outer s H o Q E nd p h=>?_);obtain⟨r,a,j,rfl,f,hl,k⟩:=h;refine{_,(ae (ay (aT (lM rfl) (by rfl) T.any Hw (aM (cn rfl (aw ["row"] [0]) (aP (pv 1)) (λ_ _ _ _ _ _=>b8) (λ_ _ _ _ _ _=>(dS qG (pv 0) (pv 1) rfl))))))),?_}
 ac_rfl
 refine{_,rfl,a,rfl,{_,f},λl d=>comp_map (QH r) (aK K a (j.map V.str)) d (by rw[wa0];exact aq (by lia)) (λg e=>e.seq f) (λx m t n _ q=>?_) (λg e b=>?_)}
 .obtain⟨c,_,rfl⟩:=wab.mp n;exact{_,rfl,_,rfl,_,_,rfl,rfl,q m (a8.refl _)}
 .rw[Aq]at b;refine{l,_,rfl,aH.of b,?_};have:=k g e;rw[wdZ];exact this
theorem zz(L:Lk K mg):aS P w K mg base cO 2 L.sx L.sM ["thing"] QI:=by
 have T:=L.T;refine L.t5.F.d8 (N:=["thing"]) (λd A outer s H l Q E nd m h=>?_);obtain⟨x,rfl,S,k⟩:=h;have a:x.length<=sizeLine:=aq (by have:=S.hi;lia);obtain⟨f,b⟩:=L.known
 refine{_,(a6 (bA (PW.pt (ky (eh (cC (aT cV (by rfl) T.Lc z8 (a9 (pv 0) (aM (gU (v:=.ty "str") (by rfl) T.str Kl rfl)))))) (ky (d4 ni (y8 T.len (pv 0)) ao) (og (d4 lI (y8 T.len (pv 0)) ao))))) (ae (ay gz)) aO)
  (ae (ay (lP (dS hZ (aT A3 (by rfl) T.len wdA (aM (bB (Aa rfl) (by rfl) T.set QA (aM (pv 0))))) (y8 T.len (pv 0)) (hX _)) (qF (au (qu L) L.mH (a9 (pv 0) (aM (tY (v:=.str fH) (by rfl) b ⟨f,rfl⟩))))))))),?_}
 ac_rfl
 refine{_,rfl,_,_,_,true,rfl,iD.str x,rfl,true,rfl,?_};refine cq ?_;refine{_,rfl,x,rfl,a,_,_,rfl,rfl,_,rfl,?_};refine Gp (by have:=S.lo;simp;lia) ?_;refine{_,rfl,x,rfl,a,_,_,rfl,rfl,_,rfl,?_};refine Gp (by have:=S.hi;simp;lia) ?_;refine{_,rfl,x,rfl,?_,λp g=>?_}
 .have:=S.hi;show x.length+1<wdk;unfold wdk
  lia
 refine{p,_,rfl,a7,_,rfl,x,rfl,a,rfl,?_};refine{_,rfl,?_};refine T3 (by rw[Ar S.nd];simp) ?_;refine{_,rfl,x,fH,rfl,by have:=S.hi;lia,λi j=>?_};have e:((ch x).all λc=>decide (c∈ch fH))=true:=waR.mpr λc hc=>decide_eq_true (S.sub c hc);rw[e];exact k i ((a8.upd g).trans j)
theorem D6(L:Lk K mg):aS P w K mg base cO 2 L.yj L.yo ["thing","signs"] QJ:=by
 have T:=L.T;refine L.yt.F.d8 (N:=["thing","signs"]) (λb A outer s H i Q E nd j h=>?_);obtain⟨x,g,rfl,S,k⟩:=h;have a:x.length<=sizeLine:=aq (by have:=S.hi;lia)
 refine{_,(a6 (bA (PW.pt (ky (eh (cC (aT cV (by rfl) T.Lc z8 (a9 (pv 0) (aM (gU (v:=.ty "str") (by rfl) T.str Kl rfl)))))) (ky (d4 ni (y8 T.len (pv 0)) ao) (og (d4 lI (y8 T.len (pv 0)) ao))))) (ae (ay gz)) aO)
  (ae (ay (au (qu L) L.mH (a9 (pv 0) (aM (pv 1))))))),?_}
 ac_rfl
 refine{_,rfl,_,_,_,true,rfl,iD.str x,rfl,true,rfl,?_};refine cq ?_;refine{_,rfl,x,rfl,a,_,_,rfl,rfl,_,rfl,?_};refine Gp (by have:=S.lo;simp;lia) ?_;refine{_,rfl,x,rfl,a,_,_,rfl,rfl,_,rfl,?_};refine Gp (by have:=S.hi;simp;lia) ?_;refine{_,rfl,_,rfl,x,g,rfl,by have:=S.hi;lia,λd f=>?_};have e:((ch x).all λc=>decide (c∈ch g))=true:=waR.mpr λc hc=>decide_eq_true (S.sub c hc);rw[e];exact k d f
theorem tM(L:Lk K mg):aS P w K mg base cO 3 L.lZ L.mn ["barred","signs"] (L1 K):=by
 have T:=L.T;refine L.mI.F.d8 (N:=["barred","signs","number","thing"]) (λj A outer s H q Q E nd r h=>?_);obtain⟨a,g,d,rfl,c,hl,hw,k⟩:=h
 refine{_,(a6 (bA (d4 lI (DU T.len (pv 0)) ao) d9 aO)
  (ae (forA (jK (by rfl) T.enum (aM (pv 0))) (dm rfl (aN (ax (i:=2)) (aN (ax (i:=3)) cA))) (ae (bA (eh (cC (au (D6 L) L.yt (a9 (pv 3) (aM (pv 1)))))) d9 aO))))),?_}
 ac_rfl
 refine{_,rfl,a,_,rfl,.inl c,_,_,rfl,rfl,_,rfl,?_};refine Gp (by grind) ?_;refine{_,rfl,a,_,rfl,c,lJ (K:=K) (a:=a) (xs:=d.map V.str) (λi σ b=>a8 H b/\∃e f,σ=[some (.ref a),some (.str g),e,f]) {a8.refl _,none,none,rfl} (λi σ b _ p=>p.1.seq c) ?_ (λσ b p=>k b p.1)};rintro i x σ b T u ⟨l,e,f,rfl⟩ m
 obtain⟨t,rfl,n⟩:∃t,x=.str t/\t∈d:=by
  grind
 refine{T,_,rfl,g8.of a7,rfl,_,_,rfl,_,_,rfl,rfl,?_};refine{_,rfl,_,rfl,t,g,rfl,hw t n,λv o=>{true,rfl,?_}};refine cq ?_;exact{(l.trans (a8.upd m)).trans o,_,_,rfl}
theorem rm(L:Lk K mg):aS P w K mg base cO 2 L.kF L.kL ["barred"] (IE K):=by
 have T:=L.T;refine L.kW.F.d8 (N:=["barred","found","word","length","beginning"]) (λM A outer s H vs Q E nd O h=>?_);obtain⟨a,ws,rfl,y,hl,hw,k⟩:=h;have R:=eT O
 refine{_,(a6 (ai (i:=1) (DA (zX dO gz Dr) rfl rfl (by simp) ⋯))
  (a6 (forA (aP (pv 0)) (ax (i:=2)) (ae (forA (qM rfl T.range (a9 ao (aM (y8 T.len (pv 2))))) (ax (i:=3)) (a6 (ai (i:=4) (b6 et (pv 2) cB (aV (pv 3))))
  (ae (bA (eh (cC (au (gM L) L.fR (a9 (pv 4) (aM (pv 0)))))) (ae (dU R (pv 1) (pv 4) gz rfl)) aO))))))
  (ae (ay (aT (yT rfl) (by rfl) T.sorted Kk (aM (pv 1))))))),?_}
 ac_rfl
 intro d hd;refine{a7,[((wak "":Key),V.bl true)],rfl,⋯,?_}
 have G:a8 H (upd (upd H d (.dK [])) d (.dK (jH [] [((wak "":Key),V.bl true)]))):=by
  rw[Di];exact a8.upd hd
 refine{_,rfl,a,rfl,{_,G.seq y},dG (K:=K) (a:=a) (xs:=ws.map V.str) (λi σ m=>∃B c v4,σ=[some (.ref a),some (.ref d),B,c,v4]/\a8 H m/\m d=some (.dK (kz (bJ ws "" (ws.take i)))))
  ⟨none,none,none,rfl,G,a7⟩ (λi σ m _ {_,_,_,_,f,_}=>f.seq y) ?_ ?_}
 .rintro i x σ m g ⟨B,c,v4,rfl,f,t⟩;have hi:i<ws.length:=by have:=(wa6.mp g).1;rwa[wa0]at this
  obtain⟨wd,p,rfl⟩:∃wd,ws[i]?=some wd/\x=.str wd:=by
   rw[wa3]at g
   cases e:ws[i]? with
   |none=>rw[e]at g;cases g
   |some z=>rw[e]at g;exact{z,rfl,(waf g).symm}
  have S:wd∈ws:=wa8 p;have U:=hw wd S;have X:ws.take (i+1)=ws.take i++[wd]:=by rw[waM,p];rfl
  have Y:(bJ ws "" (ws.take i)).length<=30:=by
   have:=mX (ws:=ws) (e:="") (us:=ws.take i) λv Z=>hw v (wbP Z);rw[wad]at this
   lia
  refine{_,rfl,wd,rfl,aq (by lia),1,_,rfl,{⋯,⋯,by lia,by lia},?_};have en:((wd.length:Int)-1).toNat=wd.length-1:=by lia
  refine bW (lo:=1) (n:=((wd.length:Int)-1).toNat) (λj σ u=>∃c v4,σ=[some (.ref a),some (.ref d),some (.str wd),c,v4]/\a8 H u/\u d=some (.dK (kz (upTo ws wd (bJ ws "" (ws.take i)) j))))
   ⟨c,v4,rfl,f,t⟩ ?_ ?_
  .rintro j σ u hj ⟨c,v4,rfl,q,C⟩;have ec:(1+(j:Int))=((1+j:Nat):Int):=by lia
   refine{_,rfl,_,rfl,_,rfl,wd,rfl,aq (by lia),?_};rw[ec];have Sh:=vj ws wd (bJ ws "" (ws.take i)) j;refine{_,rfl,_,rfl,bZ wd (1+j),a,ws,rfl,q.seq y,by lia,λH4 D=>{_,rfl,?_}};have I:=D _ _ C
   cases J:bears ws (bZ wd (1+j)) with
   |true=>
    refine cq ?_;refine{_,_,rfl,q.trans D,?_};rw[I,gk];unfold qV;rw[if_pos J]
   |false=>
    refine eB ?_;refine{_,rfl,_,rfl,d,_,rfl,jG.k (k:=wak (bZ wd (1+j))) I (by rw[Ep];exact bg (by lia)),?_};refine{_,_,rfl,λb o e=>?_,?_}
    .rw[af (ag e hd)];exact D _ _ (q _ _ e)
    .rw[a7,F0,gk];unfold qV;rw[if_neg (by rw[J];exact wan)]
  .rintro σ u ⟨c,v4,rfl,q,C⟩;refine{_,c,v4,rfl,q,?_};rw[C,X,Ck,en];rfl
 .rintro σ m ⟨B,c,v4,rfl,f,t⟩;rw[wa0,waH]at t;have Wd:=mX (ws:=ws) (e:="") (us:=ws) hw;refine{_,rfl,d,_,_,rfl,t,BG _,by lia,λl ss r hp hs=>?_};exact k l ss _ (f.trans (a8.upd r)) (f.free r) a7 hp hs
theorem w6(L:Lk K mg):aS P w K mg base cO 1 L.nA L.nJ ["row","places"] (Nz K):=by
 refine L.nR.F.d8 (N:=["row","places","cut"]) (λq A outer s H x Q E nd y h=>?_);obtain⟨r,a,ps,rfl,t,u,hl,k⟩:=h
 refine{_,(a6 (ai (i:=2) ao)
  (a6 (j8 wdh (fD jD (b6 et (pv 0) (aV (pv 2)) cB) (pv 1) rfl) (ae (uC (i:=2) nd rfl (we1 rfl) ao GR)))
  (ae (ay (b6 et (pv 0) (aV (pv 2)) cB))))),?_}
 ac_rfl
 refine{λm σ c=>∃n:Nat,n<=r.length/\m=r.length-n/\σ=[some (.str r),some (.ref a),some (.int (n:Int))]/\a8 H c/\∀j,j<n->bq r j∉ps,{r.length,0,waq _,rfl,rfl,a8.refl _,λj d=>absurd d (wcP j)},?_};rintro m σ c ⟨n,hn,rfl,rfl,f,o⟩;refine{_,rfl,_,rfl,_,rfl,r,rfl,aq (by lia),_,rfl,a,_,rfl,.inl (f.seq t),rfl,fi ps,_,rfl,?_};rw[if_pos rfl,j4]
 by_cases h:bq r n∈ps
 .have e:decide (waU r (some (n:Int)) none∈ps)=true:=decide_eq_true h;rw[e];refine cq ?_;refine{_,rfl,_,rfl,_,rfl,r,rfl,aq (by lia),?_};have:=k c f;unfold lend at this;rw[oW h o hn]at this;exact this
 .have e:decide (waU r (some (n:Int)) none∈ps)=false:=decide_eq_false h;rw[e];refine eB ?_
  have g:n<r.length:=by
   rcases wfe hn with z |z
   .exact z
   .subst z;rw[hF]at h;exact absurd u h
  refine{λb p=>∃l:Nat,l=n+1/\b=[some (.str r),some (.ref a),some (.int (l:Int))]/\a8 H p,?_,?_}
  .rintro b p ⟨l,rfl,rfl,v⟩;refine{r.length-(n+1),by lia,n+1,g,rfl,rfl,v,λj d=>?_};rcases wfe (Nat.le_of_lt_succ d) with z |z
   .exact o j z
   .rw[z];exact h
  .exact{_,rfl,_,_,rfl,rfl,n+1,rfl,rfl,f}
theorem wR(L:Lk K mg):aS P w K mg base cO 2 L.pC L.pQ ["place","signs","barred","places"] (L4 K):=by
 refine L.qg.F.d8 (N:=["place","signs","barred","places","moves","sign","row"]) (λR A outer s H vs Q E nd S h=>?_);obtain⟨p,g,a,b,l,ps,rfl,T,U,V,X,Y,B,C,k⟩:=h;have Z:=eT S
 refine{_,(a6 (ai (i:=4) da)
  (a6 (forA (yS (pv 1)) (ax (i:=5)) (a6 (ai (i:=6) (aD i6 (pv 0) (pv 5)))
  (ae (dU Z (pv 4) (pv 5) (zV (cC (au (gM L) L.fR (a9 (pv 6) (aM (pv 2))))) fC (au (w6 L) L.nR (a9 (pv 6) (aM (pv 3))))) rfl))))
  (ae (ay (pv 4))))),?_}
 ac_rfl
 intro d hd
 refine{_,rfl,g,rfl,iT (oN g) (λi σ f=>∃r v6,σ=[some (.str p),some (.str g),some (.ref a),some (.ref b),some (.ref d),r,v6]/\a8 H f/\f d=some (.dK (((ch g).take i).map λc=>((wak ({#[c]}:Str):Key),ua l ps p c))))
  {none,none,rfl,a8.upd hd,a7} (λ_ _ _ _ _=>trivial) ?_ ?_}
 .rintro i x σ f m ⟨r,v6,rfl,t,y⟩
  obtain⟨c,hc,rfl⟩:∃c,(ch g)[i]?=some c/\x=.str ⟨#[c]⟩:=by
   unfold eO at m;rw[wa3]at m
   cases e:(ch g)[i]? with
   |none=>rw[show g.cps.toList[i]?=none from e]at m;cases m
   |some z=>rw[show g.cps.toList[i]?=some z from e]at m;exact{z,rfl,(waf m).symm}
  have hi:i<(ch g).length:=(wa6.mp hc).1;have J:=aE g;have zA:(p++({#[c]}:Str)).length=p.length+1:=by rw[<-aE,aX,wa5,aE];rfl
  refine{_,rfl,_,rfl,p,{#[c]},rfl,rfl,aq (by show p.length+1<=_;lia),?_}
  have fin:∀u,a8 f u->Ma (JN 4) (JN 5) (λ_ D Q5=>Q5 (ua l ps p c) D) {nx:=λσ f=>∃r v6,σ=[some (.str p),some (.str g),some (.ref a),some (.ref b),some (.ref d),r,v6]/\a8 H f/\f d=some (.dK (((ch g).take (i+1)).map λc=>((wak ({#[c]}:Str):Key),ua l ps p c))),rt:=Q}
   [some (.str p),some (.str g),some (.ref a),some (.ref b),some (.ref d),some (.str {#[c]}),some (.str (p++{#[c]}))] u:=by
   intro u n;have h4:=n _ _ y;refine{_,rfl,_,rfl,d,_,rfl,jG.k (k:=wak ({#[c]}:Str)) h4 (by rw[wa0,wad];exact bg (by lia)),?_};refine{_,_,rfl,λb o e=>?_,?_}
   .rw[af (ag e hd)];exact n _ _ (t _ _ e)
   .rw[a7,fF]
    .have:(ch g).take (i+1)=(ch g).take i++[c]:=by rw[waM,hc];rfl
     rw[this,wai];rfl
    .cases q:bC (((ch g).take i).map λc=>((wak (⟨#[c]⟩:Str):Key),ua l ps p c)) (wak (⟨#[c]⟩:Str):Key) with
     |none=>rfl
     |some v=>
      have:=yR q;rw[wah]at this;obtain⟨G,I,e⟩:=wab.mp this;have e':({#[G]}:Str)={#[c]}:=wcf e
      have:G=c:=by
       have:=congrArg ch e';simpa [ch] using this
      subst this;obtain⟨j,hj,M⟩:=weW.mp I;rw[wfv]at M;rw[wad]at hj;have e1:(ch g)[i]=G:=(wa6.mp hc).2;have:=(wcm B).mp (M.trans e1.symm)
      lia
  refine{_,rfl,_,rfl,_,a,l,rfl,t.seq T,C,λu n=>{_,rfl,?_}}
  cases O:bears l (p++⟨#[c]⟩) with
  |true=>
   refine eB ?_;have:=fin u n;unfold ua at this;rw[if_pos O]at this;unfold ua;exact this
  |false=>
   refine cq ?_;refine{_,rfl,_,rfl,_,b,ps,rfl,(t.trans n).seq U,V,by lia,λD s5=>?_};have:=fin D (n.trans s5);unfold ua at this;rw[if_neg (by rw[O];exact wan)]at this;unfold ua;exact this
 .rintro σ f ⟨r,v6,rfl,t,y⟩;have e:(eO g).length=(ch g).length:=by unfold eO;rw[wa0]
  rw[e,waH]at y;exact{_,rfl,k d f t hd y}
theorem wU(L:Lk K mg):aS P w K mg base cO 1 L.pD L.pR ["ends","lot"] (Kp K):=by
 have T:=L.T;refine L.qh.F.d8 (N:=["ends","lot"]) (λm A outer s H u Q E nd v h=>?_);obtain⟨a,b,d,ls,rfl,i,n,fa,o,hl,k⟩:=h;refine{_,(ae (ay (aT (lM rfl) (by rfl) T.any Hw (aM (cn rfl (aw ["lot"] [1]) (aP (pv 0)) (λ_ _ _ _ _ _=>b8) (λ_ _ _ _ _ _=>(dS (i3 (K:=K) rfl) (pv 0) (pv 1) rfl))))))),?_}
 ac_rfl
 refine{_,rfl,a,rfl,{_,i},λl f=>comp_map (QB ls) (aK K a d) f (aq (by lia)) (λj g=>g.seq i) (λx p y r t q=>?_) (λj g c=>?_)}
 .exact{_,rfl,_,rfl,b,ls,rfl,.inl (t.seq n),waR.mp fa x r,o,q p (a8.refl _)}
 .have e:d.map (QB ls)=(d.map λe=>oP e ls).map V.bl:=by rw[wah];rfl
  rw[e]at c;refine{l,_,rfl,aH.of c,?_};have:=k j g;rw[wdZ];exact this
theorem wV(L:Lk K mg):aS P w K mg base cO 2 L.kh L.pT ["moves"] (NA K):=by
 have T:=L.T;refine L.qi.F.d8 (N:=["moves","lot","left"]) (λY A outer s H vs Q E nd hr h=>?_);obtain⟨d,Z,o,rfl,hd,hl,hm,hf,Z3,k⟩:=h;have hu:=eT hr;have Ut:(A.deeper (wdP "live_among" (aJ (top 32)) s.heap.objs.size L.kh Y)).units<wcJ:=hr.yF
 refine{_,(a6 (ai (i:=1) (bB (jJ rfl) (by rfl) T.list i9 (aM (pv 0))))
  (ae (j8 wdh (cC gz) (a6 (cZ (i:=2) rfl (aw ["moves","lot"] [0,1]) nd rfl rfl (aP (pv 1)) (λ_ _ _ _ _ _=>gv (cC (au (wU L) L.qh (a9 (bB (BM rfl) (by rfl) T.list i9 (aM (Dz (K:=K) rfl wd8 we4 wfS xM (d7 hu (pv 1) (pv 0) (λ_ _=>rfl))))) (aM (pv 2)))))) (λ_ _ _ _ _ _=>(pv 0)))
  (a6 (bA (d4 (GP Ut) (pv 2) (pv 1)) (ae (ay (pv 1))) aO)
  (ae (ai (i:=1) (pv 2)))))))),?_}
 ac_rfl
 refine{_,rfl,d,_,rfl,hd,λl0 t=>?_}
 refine{λm σ H2=>∃(l:Addr) (ls:List Str) (v:Option V),m=ls.length/\σ=[some (.ref d),some (.ref l),v]/\a8 H H2/\H l=none/\H2 l=some (.lst (ls.map V.str))/\ls.Sublist (Z.map (·.1)) /\
  ∀b:List Str,(∀k∈b,k∈Z.map (·.1)/\lK (o k) b=true)->∀k∈b,k∈ls,
  {_,l0,Z.map (·.1),none,rfl,rfl,a8.upd t,t,by rw[a7,hO],wfr _,λb h k hk=>(h k hk).1},?_}
 rintro m σ H2 ⟨l,ls,v,rfl,rfl,S,Ga,U,f,c⟩;refine{true,rfl,eB ?_};have CL:ls.length<=1000:=by have:=f.length_le;rw[wa0]at this;lia
 let p:V->Bool:=λx=>match x with
  |.str k=>lK (o k) ls
  |_=>false
 let g:List Str:=ls.filter λk=>lK (o k) ls
 have u:(ls.map V.str).filter p=g.map V.str:=by
  rw[weY];rfl
 refine{λy r=>∃(B:Addr) (v:Option V),y=[some (.ref d),some (.ref B),v]/\a8 H r/\H B=none/\r B=some (.lst (g.map V.str))/\g.length<ls.length,?_,?_}
 .rintro y r ⟨B,v,rfl,n,Bk,C,O5⟩;refine{g.length,O5,B,g,v,rfl,rfl,n,Bk,C,(wdN).trans f,λb h k hk=>?_};have Z4:=c b h k hk;exact wau.mpr {Z4,BH (c b h) (h k hk).2}
 .refine{_,rfl,l,rfl,{_,aH.of U},λl2 D=>dJ p (λx=>x) (aK K l (ls.map V.str)) D (by rw[wa0];exact aq (by lia)) (λr n=>n.seq (aH.of U)) (λx G Q' hx s3 q=>?_) (λx G Q' hx _ s3 q=>{_,rfl,q G (a8.refl _)}) (λr n C=>?_)}
  .obtain⟨X,Z5,rfl⟩:=wab.mp hx;obtain⟨a,ha,I⟩:=gZ (f.subset Z5);have J:a8 H G:=S.trans s3;have Si:=J _ _ hd;have j:=J _ _ (hm _ ha);refine{_,rfl,_,rfl,d,.ref a,rfl,?_,?_}
   .have:=ee.k (k:=(wak X:Key)) Si;rw[I]at this;exact this
   refine{.inr (.inr (.inl {rfl,.inl {_,j}})),a,_,rfl,rfl,j,λvw M=>?_};refine{vw,a,_,rfl,a7,by rw[af (ag j M)];exact j,λl3 G8=>?_};have s4:a8 G (upd (upd G vw (lE vw a)) l3 (.lst ((o X).map (·.2)))):=(a8.upd M).trans (a8.upd G8);refine{_,rfl,l3,l,_,_,rfl,aH.of a7,aH.of (s4 _ _ (s3 _ _ U)),hf X,fi ls,by rw[wa0];exact Z3 X,λH5 s5=>{_,rfl,?_}};exact q H5 (s4.trans s5)
  .rw[we9,u]at C;have O:=n _ _ U;refine{_,rfl,_,rfl,l2,l,_,_,rfl,rfl,aH.of C,aH.of O,fi _,fi _,_,rfl,?_};rw[xB];have R:H l2=none:=S.free D
   by_cases e:g=ls
   .rw[decide_eq_true e];refine eB ?_;refine{_,rfl,k l ls r (S.trans n) Ga O {f,λkk hk=>?_,c}};have:=e ▸ hk;exact(wau.mp this).2
   .rw[decide_eq_false e];refine cq ?_;refine{_,rfl,l2,_,rfl,S.trans n,R,C,?_};rcases wfe (wb6 (λk=>lK (o k) ls) ls) with z |z
    .exact z
    .exact absurd ((wdN (p:=λk=>lK (o k) ls)).eq_of_length z) e
theorem ro(L:Lk K mg):aS P w K mg base cO 4 L.gK L.kM ["self","signs","barred"] (O1 K L.aA):=by
 have T:=L.T;refine L.kY.F.d8 (N:=["self","signs","barred","places","place"]) (λgx A outer s H vs Q E nd hr h=>?_);obtain⟨x,t,g,a,ws,rfl,hx,hS,sg,hl,hw,k⟩:=h;have Z:∀w∈ws,w.length<=5:=λw h=>(hw w h).hi;have hu:=eT hr
 refine{_,(a6 (bA (eh (cC (au (zz L) L.t5 (aM (pv 1))))) d9 aO)
  (a6 (bj (au (tM L) L.mI (a9 (pv 2) (aM (pv 1)))))
  (a6 (d1 (pv 0) (pv 1) rfl)
  (a6 (d1 (pv 0) (bB dk (by rfl) T.list i9 (aM (pv 2))) rfl)
  (a6 (d1 (pv 0) da rfl)
  (a6 (ai (i:=3) (au (rm L) L.kW (aM (pv 2))))
  (a6 (forA (aP (pv 3)) (ax (i:=4)) (ae (dU hu (aC (pv 0) rfl) (pv 4) (au (wR L) L.qg (a9 (pv 4) (a9 (pv 1) (a9 (pv 2) (aM (pv 3)))))) rfl)))
  (ae (d1 (pv 0) (au (wV L) L.qi (aM (aC (pv 0) rfl))) rfl))))))))),?_}
 ac_rfl
 refine{_,rfl,g,rfl,sg,λH1 s1=>{true,rfl,cq ?_}};refine{_,rfl,_,rfl,a,g,ws,rfl,s1.seq hS,hl,hw,λH2 s2=>?_};have D:a8 H H2:=s1.trans s2;have Z6:=D _ _ hx;refine{_,rfl,_,rfl,x,L.aA,t,_,rfl,Z6,L.aI.cl,L.aI.pf,⋯,?_};rw[Ny];have QX:∀(o:HO) b ob,H b=some ob->b≠x->(upd H2 x o) b=some ob:=λo b ob e hb=>by rw[af hb];exact D _ _ e
 have G:∀{H':Hp} (h:∀b o,H b=some o->b≠x->H' b=some o),aH K H' a (ws.map V.str):=λ{H'} h=>by
  have We:∀o,H a=some o->(∀fs,o≠.ins L.aA t fs)->a≠x:=λo e ne z=>by
   subst z;rw[hx]at e;exact ne [] (waf e).symm
  rcases hS with(e |⟨o,e⟩) |e
  .exact .inl (.inl (h _ _ e (We _ e (λ_ z=>by cases z))))
  .exact .inl (.inr {o,h _ _ e (We _ e (λ_ z=>by cases z))})
  .exact .inr e
 refine{_,rfl,a,_,rfl,.inl (G (QX _)),λb hb=>?_};have v:x≠b:=ag a7 hb;have Uu:H2 b=none:=by rw[af v.symm]at hb;exact hb
 refine{_,rfl,x,L.aA,t,S0 g,rfl,by rw[af v,a7],L.aI.cl,L.aI.vo,(show 1<1000 by decide),?_};rw[put2];intro d hd;have r:x≠d:=ag a7 hd
 have QY:b≠d:=by
  intro z;subst z;rw[af v.symm,a7]at hd;cases hd
 have I:H2 d=none:=by rw[af r.symm,af QY.symm,af r.symm]at hd;exact hd
 refine{_,rfl,x,L.aA,t,OJ g b,rfl,by rw[af r,a7],L.aI.cl,L.aI.jX,(show 2<1000 by decide),?_};rw[put3];generalize J:upd (upd (upd (upd (upd H2 x (.ins L.aA t (S0 g))) b (.lst (ws.map V.str))) x (.ins L.aA t (OJ g b))) d (.dK [])) x (.ins L.aA t (Nx g b d))=H3;have x3:H3 x=some (.ins L.aA t (Nx g b d)):=by rw[<-J,a7]
 have d3:H3 d=some (.dK []):=by rw[<-J,af r.symm,a7]
 have b3:H3 b=some (.lst (ws.map V.str)):=by rw[<-J,af v.symm,af QY,af v.symm,a7]
 have k3:∀c o,H c=some o->c≠x->H3 c=some o:=λc o e hc=>by
  have e2:=D _ _ e;rw[<-J,af hc,af (ag e2 I),af hc,af (ag e2 Uu),af hc];exact e2
 clear J;refine{_,rfl,a,ws,rfl,G k3,hl,Z,λl ss H4 s4 R h4 hp Z7=>?_};have Uv:ss.Nodup:=hp.nodup_iff.mpr (rY ws);have E5:ss.length<=25:=by have:=mX (ws:=ws) (e:="") (us:=ws) Z;rw[hp.length_eq];lia
 have QZ:∀p∈ss,p.length<=5:=λp D7=>Fl Z p (hp.mem_iff.mp D7);have Uw:("":Str)∈ss:=hp.mem_iff.mpr (bP ws);have Sj:l≠d:=λz=>by rw[z,d3]at R;cases R
 have nlx:l≠x:=λz=>by rw[z,x3]at R;cases R
 refine{_,rfl,l,rfl,{_,aH.of h4},dG (K:=K) (a:=l) (xs:=ss.map V.str) (λi σ S=>∃v4 B,σ=[some (.ref x),some (.str g),some (.ref a),some (.ref l),v4]/\S d=some (.dK (ck B))/\B.map (·.1)=ss.take i/\(∀m∈B,S m.2=some (.dK (rowOf g ws ss m.1)))/\(∀m∈B,H4 m.2=none)/\(∀c o,H4 c=some o->c≠d->S c=some o))
  {none,[],rfl,s4 _ _ d3,rfl,λm u=>(nomatch u),λm u=>(nomatch u),λc o e _=>e} (λi σ S _ {_,_,_,_,_,_,_,M}=>aH.of (M _ _ h4 Sj)) ?_ ?_}
 .rintro i y σ S hy ⟨v4,B,rfl,C,n,f,Qh,M⟩
  obtain⟨p,U,rfl⟩:∃p,ss[i]?=some p/\y=.str p:=by
   rw[wa3]at hy
   cases e:ss[i]? with
   |none=>rw[e]at hy;cases hy
   |some z=>rw[e]at hy;exact{z,rfl,(waf hy).symm}
  have hi:i<ss.length:=(wa6.mp U).1;have D7:p∈ss:=wa8 U
  have k5:∀c o,H c=some o->c≠x->S c=some o:=λc o e hc=>M _ _ (s4 _ _ (k3 c o e hc)) (λz=>by
   subst z;have:=D _ _ e
   rw[I]at this;cases this)
  have x5:S x=some (.ins L.aA t (Nx g b d)):=M _ _ (s4 _ _ x3) r;refine{_,rfl,_,rfl,_,rfl,_,rfl,p,g,a,l,ws,ss,rfl,G k5,aH.of (M _ _ h4 Sj),Uw,by have:=QZ p D7;lia,by have:=sg.hi;lia,sg.nd,by lia,λe H6 O X h6=>?_};have d6:=O _ _ C
  have Ja:p∉B.map (·.1):=by
   rw[n];intro u;obtain⟨j,hj,ej⟩:=weW.mp u;rw[wfv]at ej;rw[wad]at hj;have e1:ss[i]=p:=(wa6.mp U).2;have:=(wcm Uv).mp (ej.trans e1.symm)
   lia
  have Y:B.length<=25:=by have:=congrArg wdt n;rw[wa0,wad]at this;lia
  refine{_,rfl,x,L.aA,t,_,_,rfl,O _ _ x5,L.aI.cl,L.aI.jX,lS g b d,_,rfl,d,_,rfl,jG.k (k:=wak p) d6 (by unfold ck;rw[wa0];exact bg (by lia)),?_};have OQ:e≠d:=λz=>by rw[z,C]at X;cases X
  have e4:H4 e=none:=by
   cases q:H4 e with
   |none=>rfl
   |some o=>
    have:=M _ _ q OQ;rw[this]at X;cases X
  refine{_,B++[(p,e)],rfl,?_,?_,?_,?_,?_}
  .rw[a7,fF _ (oj Ja)];unfold ck;rw[wai];rfl
  .rw[wai,n];have:ss.take (i+1)=ss.take i++[p]:=by rw[waM,U];rfl
   rw[this];rfl
  .intro m u;rcases wax.mp u with z |z
   .have nm:m.2≠d:=λq=>by
     have:=f m z;rw[q,C]at this;have:=Qh m z;rw[q]at this;rw[s4 _ _ d3]at this;cases this
    rw[af nm];exact O _ _ (f m z)
   .have:m=(p,e):=by simpa using z
    subst this;rw[af OQ];exact h6
  .intro m u;rcases wax.mp u with z |z
   .exact Qh m z
   .have:m=(p,e):=by simpa using z
    subst this;exact e4
  .intro c o hc Wf;rw[af Wf];exact O _ _ (M c o hc Wf)
 .rintro σ S ⟨v4,B,rfl,C,n,f,Qh,M⟩;rw[wa0,waH]at n;have x5:S x=some (.ins L.aA t (Nx g b d)):=M _ _ (s4 _ _ x3) r;have Y:B.length<=1000:=by have:=congrArg wdt n;rw[wa0]at this;lia
  refine{_,rfl,x,L.aA,t,_,_,rfl,x5,L.aI.cl,L.aI.jX,lS g b d,d,B,rowOf g ws ss,rfl,C,Y,f,λkx=>Cv g ws ss kx,λkx=>by rw[F1];have:=sg.hi;lia,λq ls H6 O hq h6 lv=>?_};refine{_,rfl,x,L.aA,t,_,rfl,O _ _ x5,L.aI.cl,L.aI.qY,(show 3<1000 by decide),?_};rw[EI];have Ux:q≠x:=λz=>by rw[z,x5]at hq;cases hq
  have Z8:∀m∈B,m.2≠x:=λm u z=>by
   have:=f m u;rw[z,x5]at this;cases this
  refine k ss ls _ {{t,b,d,q,B,a7,?_,?_,n,λm u=>?_,?_},hp,Z7,by rw[n]at lv;exact lv} λc o e hc=>?_
  .rw[af v.symm];exact O _ _ (M _ _ (s4 _ _ b3) QY)
  .rw[af r.symm];exact O _ _ C
  .rw[af (Z8 m u)];exact O _ _ (f m u)
  .rw[af Ux];exact h6
  .rw[af hc]
   exact O _ _ (M _ _ (s4 _ _ (k3 c o e hc)) (λz=>by
    subst z;have:=D _ _ e
    rw[I]at this;cases this))
theorem w9(L:Lk K mg):aS P w K mg base cO 1 L.nB L.nK ["self"] (Ip L.aA):=by
 have T:=L.T;refine L.nV.F.d8 (N:=["self"]) (λa A outer s H j Q E nd m h=>?_);obtain⟨x,g,n,ss,ls,rfl,B,k⟩:=h;obtain⟨⟨c,b,d,q,o,e,p,f,i,r,t⟩,_,_,_⟩:=B;refine{_,(ae (ay (bB (jJ rfl) (by rfl) T.list i9 (aM (aC (pv 0) rfl))))),?_}
 ac_rfl
 refine{_,rfl,x,L.aA,c,_,_,rfl,e,L.aI.cl,L.aI.jX,jQ g b d q,d,_,rfl,f,λl hl=>?_};rw[hO,i];exact k l _ (a8.upd hl) hl a7
theorem kn(L:Lk K mg):aS P w K mg base cO 1 L.sy L.sP ["self"] (KI L.aA):=by
 have T:=L.T;refine L.iQ.F.d8 (N:=["self"]) (λa A outer s H i Q E nd j h=>?_);obtain⟨x,g,m,ss,ls,rfl,B,k⟩:=h;obtain⟨⟨c,b,d,q,n,e,o,p,r,t,f⟩,_,_,_⟩:=B;refine{_,(ae (ay (bB dk (by rfl) T.list i9 (aM (aC (pv 0) rfl))))),?_}
 ac_rfl
 refine{_,rfl,x,L.aA,c,_,_,rfl,e,L.aI.cl,L.aI.qY,xW g b d q,q,_,rfl,.inl (aH.of f),λl hl=>?_};exact k l _ (a8.upd hl) hl a7
theorem gR(L:Lk K mg):aS P w K mg base cO 1 L.ig L.ip ["self","place"] (U3 L.aA):=by
 have T:=L.T;refine L.fg.F.d8 (N:=["self","place"]) (λc A outer s H r Q E nd e h=>?_);obtain⟨x,p,g,t,ss,ls,rfl,B,f,k⟩:=h;obtain⟨⟨i,b,d,q,mv,j,u,l,m,y,z⟩,_,_,_⟩:=B;obtain⟨a,ha,n⟩:=gZ (mv:=mv) (k:=p) (by rw[m];exact f);have o:=eT e;refine{_,(ae (bA (PW.pt (ky (eh (cC (aT cV (by rfl) T.Lc z8 (a9 (pv 1) (aM (gU (v:=.ty "str") (by rfl) T.str Kl rfl)))))) (og (yG (xO o (pv 1) (aC (pv 0) rfl)))))) d9 aO)),?_}
 ac_rfl
 refine{_,rfl,_,_,_,true,rfl,iD.str p,rfl,true,rfl,cq ?_};refine{_,rfl,_,rfl,x,L.aA,i,_,_,rfl,j,L.aI.cl,L.aI.jX,jQ g b d q,d,_,rfl,ee.k (k:=(wak p:Key)) l,_,rfl,?_};rw[n];exact cq k
theorem tE(L:Lk K mg):aS P w K mg base cO 2 L.vH L.vN ["self","place","sign"] (QK L.aA):=by
 refine L.oB.F.d8 (N:=["self","place","sign"]) (λn A outer s H z Q E nd o h=>?_);obtain⟨x,p,c,g,r,ss,ls,rfl,B,e,hc,k⟩:=h;obtain⟨⟨f,b,d,q,mv,i,C,t,u,v,D⟩,_,_,_⟩:=id B;obtain⟨a,ha,y⟩:=gZ (mv:=mv) (k:=p) (by rw[u];exact e);have j:=eT o
 refine{_,(a6 (bj (yi (pv 0) L.aI.cl L.fg (gR L) (aM (pv 1))))
  (ae (ay (d7 j (d7 j (aC (pv 0) rfl) (pv 1) (λ_ _=>rfl)) (pv 2) (λ_ _=>rfl))))),?_}
 ac_rfl
 refine{_,rfl,x,f,_,rfl,i,Cg _ _ _ _ ∅ ∅ ∅ ∅,_,rfl,x,p,g,r,ss,ls,rfl,B,e,?_};have l:=ee.k (k:=(wak p:Key)) t;rw[y]at l;have m:=ee.k (k:=(wak ({#[c]}:Str):Key)) (v _ ha);rw[DS hc]at m;exact{_,rfl,x,L.aA,f,_,_,rfl,i,L.aI.cl,L.aI.jX,jQ g b d q,_,rfl,d,_,rfl,l,_,rfl,a,_,rfl,m,k}
theorem zB(L:Lk K mg):aS P w K mg base cO 3 L.sA L.sQ ["band","place"] (CC L.aA):=by
 refine L.t6.F.d8 (N:=["band","place","ends"]) (λI A outer s H X Q E nd Y h=>?_);obtain⟨x,p,g,u,ss,ls,rfl,B,J,M,k⟩:=h
 refine{_,(a6 (cZ (i:=2) rfl (aw ["band","place"] [0,1]) nd rfl rfl (yS (aC (pv 0) rfl)) (λ_ _ _ _ _ _=>b8) (λ_ _ _ _ _ _=>(yi (pv 1) L.aI.cl L.oB (tE L) (a9 (pv 2) (aM (pv 0))))))
  (ae (ay (cn rfl (aw [] []) (aP (pv 2)) (λ_ _ _ _ _ _=>gv (d4 yJ (pv 0) fC)) (λ_ _ _ _ _ _=>(pv 0)))))),?_}
 ac_rfl
 obtain⟨⟨O,b,d,q,Z,R,h2,h3,h4,h5,h6⟩,pm,_,_⟩:=id B;refine{_,rfl,x,L.aA,O,_,_,rfl,R,L.aI.cl,L.aI.pf,jR g b d q,g,rfl,λl hl=>?_};refine comp_map (W6 u ss p) (oN g) hl (by rw[Cz];exact aq (by lia)) (λ_ _=>trivial) (λz C D S n e=>?_) (λC n a=>?_)
 .obtain⟨c,hc,rfl⟩:=wab.mp S;have G:=B.same n;obtain⟨⟨o,_,_,_,_,r,_⟩,_⟩:=id G;exact{_,rfl,x,o,_,rfl,r,Cg _ _ _ _ ∅ ∅ ∅ ∅,_,rfl,_,rfl,x,p,c,g,u,ss,ls,rfl,G,J,hc,e C (a8.refl _)}
 .rw[F4]at a;refine{_,rfl,l,rfl,{_,aH.of a},λT f=>?_};refine dJ Bt (λv=>v) (aK K l _) f (by rw[wa0,aE];exact aq (by lia)) (λH' U=>aH.of (U _ _ a)) (λy j D V t e=>{_,rfl,rfl,_,rfl,e j (a8.refl _)}) (λy j D V _ t e=>{_,rfl,e j (a8.refl _)}) (λj t m=>?_);rw[we9,As]at m;exact k T j (n.trans t) (none_of n f) m
theorem Ba(L:Lk K mg):aS P w K mg base cO 4 L.vJ L.vP ["band"] (Ff L.aA):=by
 refine L.vU.F.d8 (N:=["band","ends","place"]) (λgx A outer s H vs Q E nd hr h=>?_);obtain⟨x,g,U,ss,ls,rfl,B,X,E5,k⟩:=h;have hu:=eT hr
 refine{_,(a6 (ai (i:=1) da)
  (a6 (forA (aP (ie (pv 0) L.aI.cl L.nV (w9 L))) (ax (i:=2)) (ae (dU hu (pv 1) (pv 2) (au (zB L) L.t6 (a9 (pv 0) (aM (pv 2)))) rfl)))
  (ae (ay (pv 1))))),?_}
 ac_rfl
 refine λn r=>?_;have R:a8 H (upd H n (.dK [])):=a8.upd r;have B0:=B.same R;obtain⟨⟨dx,b,d,q,mv,h1,h2,h3,h4,h5,h6⟩,pm,_,_⟩:=id B0;refine{_,rfl,x,dx,_,rfl,h1,Cg _ _ _ _ ∅ ∅ ∅ ∅,x,g,U,ss,ls,rfl,B0,λlp S G f1 I=>?_};have Y:lp≠n:=λz=>by rw[z,a7]at f1;cases f1
 have nd:=B.nd
 refine{lp,rfl,{_,aH.of I},dG (K:=K) (a:=lp) (xs:=ss.map V.str) (λi σ T=>∃Z l,σ=[some (.ref x),some (.ref n),Z]/\T n=some (.dK (ck l))/\l.map (·.1)=ss.take i/\(∀m∈l,T m.2=some (.lst ((gJ g U ss m.1).map V.str)))/\(∀m∈l,S m.2=none)/\(∀c o,S c=some o->c≠n->T c=some o))
  {none,[],rfl,G _ _ a7,rfl,λm t=>(nomatch t),λm t=>(nomatch t),λc o e _=>e} (λi σ T _ {_,_,_,_,_,_,_,D}=>aH.of (D _ _ I Y)) ?_ ?_}
 .rintro i y σ H5 hy ⟨Z,l,rfl,u,f,j,v,D⟩;obtain⟨p,Ls,rfl,hi,D7,qA⟩:=gE hy;have Uy:a8 H H5:=λc o e=>D _ _ (G _ _ (R _ _ e)) (ag e r);refine{_,rfl,_,rfl,x,p,g,U,ss,ls,rfl,B.same Uy,D7,X,λe H6 s6 C Z9=>?_};have d6:=s6 _ _ u;have J:p∉l.map (·.1):=by rw[f];exact ib nd Ls
  have Uz:l.length<=900:=by have:=congrArg wdt f;rw[wa0,wad]at this;lia
  refine{_,rfl,_,rfl,n,_,rfl,jG.k (k:=wak p) d6 (by unfold ck;rw[wa0];exact bg (by lia)),?_};have M:e≠n:=λz=>by rw[z,u]at C;cases C
  have e1:S e=none:=by
   cases q:S e with
   |none=>rfl
   |some o=>
    have:=D _ _ q M;rw[this]at C;cases C
  refine{_,l++[(p,e)],rfl,?_,?_,?_,?_,?_}
  .rw[a7,fF _ (oj J)];unfold ck;rw[wai];rfl
  .rw[wai,f,qA];rfl
  .intro m t;rcases wax.mp t with z |z
   .have nm:m.2≠n:=λq=>by
     have:=v m z;rw[q,G _ _ a7]at this;cases this
    rw[af nm];exact s6 _ _ (j m z)
   .have:m=(p,e):=by simpa using z
    subst this;rw[af M];exact Z9
  .intro m t;rcases wax.mp t with z |z
   .exact v m z
   .have:m=(p,e):=by simpa using z
    subst this;exact e1
  .intro c o hc O;rw[af O];exact s6 _ _ (D c o hc O)
 .rintro σ H5 ⟨Z,l,rfl,u,f,j,v,D⟩;rw[wa0,waH]at f;exact{_,rfl,k n l H5 (λc o e=>D _ _ (G _ _ (R _ _ e)) (ag e r)) r u f j λm t=>none_of R (none_of G (v m t))}
theorem lu(L:Lk K mg):aS P w K mg base cO 5 L.m7 L.mx ["band","length"] (KJ L.aA):=by
 have T:=L.T;refine L.ir.F.d8 (N:=["band","length","ends","counts","place","table","step","longer"]) (λgx A outer s H vs Q E nd hr h=>?_);obtain⟨x,n,g,G,ss,ls,rfl,B,E6,E5,hn0,hn1,k⟩:=h;have hu:=eT hr
 refine{_,(a6 (ai (i:=2) (au (Ba L) L.vU (aM (pv 0))))
  (a6 (ai (i:=3) da)
  (a6 (forA (u0 (pv 2)) (ax (i:=4)) (ae (dU hu (pv 3) (pv 4) ao rfl)))
  (a6 (ai (i:=5) (bY (aM (pv 3))))
  (a6 (forA (bX rfl T.range (aM (pv 1))) (ax (i:=6)) (a6 (ai (i:=7) da)
  (a6 (forA (u0 (pv 2)) (ax (i:=4)) (ae (dU hu (pv 7) (pv 4) (aT (lN rfl) (by rfl) T.sum EJ (aM (cn rfl (aw ["counts"] [3]) (aP (d7 hu (pv 2) (pv 4) (λ_ _=>rfl))) (λ_ _ _ _ _ _=>b8) (λ_ _ _ _ _ _=>(d7 hu (pv 1) (pv 0) (λ_ _=>rfl)))))) rfl)))
  (a6 (bj (gB waL waP waT cm (pv 5) (aM (pv 7))))
  (ae (ai (i:=3) (pv 7)))))))
  (ae (ay (pv 5)))))))),?_}
 ac_rfl
 have nd:=B.nd;have he:("":Str)∈ss:=B.pm.mem_iff.mpr (bP G);refine{_,rfl,x,g,G,ss,ls,rfl,B,E6,E5,λd q H1 s1 UA h1 ek er ef=>?_};refine λl v=>?_;have Z:d≠l:=ag h1 v;have I:((ck q).map λkv=>kV kv.1)=ss.map V.str:=by rw[hO,ek]
 have Za:∀m∈q,m.2≠d:=λm r z=>by have:=er m r;rw[z,h1]at this;cases this
 refine{_,rfl,d,_,rfl,.inl {(a8.upd v) _ _ h1,λo=>?_}};have J:=j9 d o (ck q);rw[I]at J;have S:(upd (upd H1 l (.dK [])) d (.frz o (.dK (ck q)))) l=some (.dK []):=by rw[af (wbx Z),a7]
 have U:(upd (upd H1 l (.dK [])) d (.frz o (.dK (ck q)))) d=some (.frz o (.dK (ck q))):=a7
 have sz:a8 H (upd (upd H1 l (.dK [])) d (.frz o (.dK (ck q)))):=λc u e=>by
  rw[af (ag e UA)];exact a8.upd v _ _ (s1 _ _ e)
 have X:∀m∈q,(upd (upd H1 l (.dK [])) d (.frz o (.dK (ck q)))) m.2=some (.lst ((gJ g G ss m.1).map V.str)):=λm r=>by
  rw[af (Za m r)];exact a8.upd v _ _ (er m r)
 have f0:H l=none:=none_of s1 v;generalize upd (upd H1 l (.dK [])) d (.frz o (.dK (ck q)))=Hz at S U sz X;have UB:∀m∈q,m.2≠l:=λm r z=>by have:=X m r;rw[z,S]at this;cases this
 refine iT J (λi σ H3=>∃v4,σ=[some (.ref x),some (.int n),some (.ref d),some (.ref l),v4,none,none,none]/\H3 l=some (.dK (qK (λp=>.int (gW g G ss 0 p)) (ss.take i)))/\∀c u,Hz c=some u->c≠l->H3 c=some u) {none,rfl,S,λc u e _=>e} (λi σ H3 _ {_,_,_,b}=>b _ _ U Z) ?_ ?_
 .rintro i y σ H3 hy ⟨v4,rfl,h3,b⟩;obtain⟨p,Ls,rfl,hi,D7,qA⟩:=gE hy;refine{_,rfl,_,rfl,l,_,rfl,jG.k (k:=wak p) h3 (by rw[zY,wad];exact bg (by lia)),?_};refine{_,rfl,?_,λc u e hc=>by rw[af hc];exact b c u e hc};rw[a7,fF _ (xN _ (ib nd Ls)),qA,xI];rfl
 rintro σ H3 ⟨v4,rfl,h3,b⟩;rw[wa0,waH]at h3;have s3:a8 H H3:=λc u e=>b _ _ (sz _ _ e) (ag e f0);have UC:=b _ _ U Z;have Sl:∀m∈q,H3 m.2=some (.lst ((gJ g G ss m.1).map V.str)):=λm r=>b _ _ (X m r) (UB m r);clear b S U sz X J v h1 er;refine{_,rfl,by show 1<=sizeLine;decide,λlt C=>?_};have flt:H lt=none:=none_of s3 C
 refine{_,rfl,n,rfl,by lia,by lia,bW (lo:=0) (n:=n.toNat) (YD g G ss q o x d lt n H)
  {[l],l,_,none,none,rfl,rfl,rfl,a7,?_,a8.upd C _ _ UC,λm r=>a8.upd C _ _ (Sl m r),s3.trans (a8.upd C)} ?_ ?_}
 .intro j t R
  cases j with
  |zero=>
   obtain rfl:l=t:=waf R;exact a8.upd C _ _ h3
  |succ j=>simp at R
 .rintro i σ H4 hi ⟨ts,dc,v4,v6,v7,rfl,M,Wg,UD,Y,D,Mw,s4⟩;refine λdl Jb=>?_;have sd:a8 H4 (upd H4 dl (.dK [])):=a8.upd Jb;have Zb:=Y i dc Wg;have J:=j9 d o (ck q);rw[I]at J;have nle:d≠dl:=ag D Jb;refine{_,rfl,d,_,rfl,.inr {o,sd _ _ D,?_}};refine iT J (λj σ H5=>∃v4,σ=[some (.ref x),some (.int n),some (.ref d),some (.ref dc),v4,some (.ref lt),some (.int (0+(i:Int))),some (.ref dl)]/\H5 dl=some (.dK (qK (λp=>.int (gW g G ss (i+1) p)) (ss.take j)))/\∀c u,H4 c=some u->H5 c=some u) {_,rfl,a7,λc u e=>sd _ _ e} (λj σ H5 _ {_,_,_,b}=>b _ _ D) ?_ ?_
  .rintro j y σ H5 hy ⟨v4,rfl,h5,b⟩;obtain⟨p,OS,rfl,hj,D7,qA⟩:=gE hy;obtain⟨a,ha,hv⟩:=gZ (mv:=q) (k:=p) (by rw[ek];exact D7);have e1:=ee.f (k:=(wak p:Key)) (b _ _ D);rw[hv]at e1;have Wh:=b _ _ (Mw _ ha);have UE:=b _ _ Zb;have el:=Cw g G ss p;refine{_,rfl,_,rfl,d,_,rfl,e1,a,rfl,{_,aH.of Wh},λlm Zc=>?_};refine comp_map (K3 (gW g G ss i)) (aK K a ((gJ g G ss p).map V.str)) Zc (by rw[wa0];exact aq (by lia)) (λH' s'=>aH.of (s' _ _ Wh)) (λz H6 Q' hz s6 qq=>?_) (λH6 s6 h6=>?_)
   .obtain⟨t,R,rfl⟩:=wab.mp hz;have e2:=ee.k (k:=(wak t:Key)) (s6 _ _ UE);rw[uG _ (CW he R)]at e2;exact{_,rfl,_,rfl,dc,_,rfl,e2,qq H6 (a8.refl _)}
   .rw[qL]at h6;refine{lm,_,rfl,aH.of h6,?_};have Zd:=s6 _ _ h5;refine{_,rfl,_,rfl,dl,_,rfl,jG.k (k:=wak p) Zd (by rw[zY,wad];exact bg (by lia)),?_};refine{_,rfl,?_,λc u e=>by rw[af (ag e Jb)];exact s6 _ _ (b c u e)};rw[a7,fF _ (xN _ (ib nd OS)),qA,xI];rfl
  rintro σ H5 ⟨v4',rfl,h5,b⟩;rw[wa0,waH]at h5;have O:=b _ _ UD;refine{_,rfl,.inl {rfl,_,aH.of O},_,rfl,lt,_,_,rfl,rfl,O,by rw[wa0];exact wbg (m:=200000) (by lia) (by rw[wcg];decide),?_};have Ze:∀t,H5 t=some (.dK (NU g G ss (i+1)))->t≠lt:=λt e z=>by rw[z,O]at e;cases e
  refine{_,rfl,ts++[dl],dl,_,_,_,rfl,by rw[wa5,M];rfl,by rw[waB (by lia),M,wbA];rfl,by rw[a7,wai];rfl,?_,?_,?_,?_}
  .intro j t R
   by_cases hj:j<ts.length
   .rw[waA hj]at R;have e:=b _ _ (Y j t R);rw[af (λz=>by rw[z,O]at e;cases e)];exact e
   .have Zf:j=i+1:=by
     have:=(wa6.mp R).1;rw[wa5,wco]at this
     lia
    subst Zf;rw[waB (by lia),M,wbA]at R;obtain rfl:dl=t:=waf R;rw[af (Ze _ h5)];exact h5
  .have e:=b _ _ D;rw[af (λz=>by rw[z,O]at e;cases e)];exact e
  .intro m r;have e:=b _ _ (Mw m r)
   by_cases z:m.2=lt
   .exfalso;have f:=Sl m r;rw[z,C]at f;cases f
   .rw[af z];exact e
  .exact λc u e=>by rw[af (ag e flt)];exact b _ _ (s4 _ _ e)
 .rintro σ H4 ⟨ts,dc,v4,v6,v7,rfl,M,Wg,UD,Y,D,Mw,s4⟩;exact{_,rfl,k lt ts H4 s4 flt UD M Y}
theorem wW(L:Lk K mg):aS P w K mg base cO 6 L.pF L.pV ["band","place","length"] (Iu L.aA):=by
 refine L.qj.F.d8 (N:=["band","place","length"]) (λy A outer s H T Q E nd C h=>?_);obtain⟨x,p,n,g,r,ss,ls,rfl,B,u,e,f,i,j,k⟩:=h;have D:=eT C
 refine{_,(a6 (bj (yi (pv 0) L.aI.cl L.fg (gR L) (aM (pv 1))))
  (ae (ay (d7 D (aW b5 (au (lu L) L.ir (a9 (pv 0) (aM (pv 2)))) (M5 GU ao) (λ_ _=>rfl)) (pv 1) (λ_ _=>rfl))))),?_}
 ac_rfl
 obtain⟨⟨G,b,d,q,U,I,X,Y,Z,h5,h6⟩,_,_,_⟩:=id B;refine{_,rfl,x,G,_,rfl,I,Cg _ _ _ _ ∅ ∅ ∅ ∅,_,rfl,x,p,g,r,ss,ls,rfl,B,u,?_};refine{_,rfl,_,rfl,x,n,g,r,ss,ls,rfl,B,e,f,i,j,λl m J M f1 hl a O=>?_};obtain⟨c,t,rfl⟩:∃l t,m=l++[t]:={m.dropLast,m.getLast (by intro z;rw[z]at a;simp at a),(wdy _).symm};have R:ui ((c++[t]).map V.ref) (-1)=some (.ref t):=by rw[wai];exact Gm _ _
 have o:c.length=n.toNat:=by rw[wa5,wco]at a;lia
 have S:=O n.toNat t (by rw[waB (by lia),o,wbA];rfl);have v:=ee.k (k:=(wak p:Key)) S;rw[uG _ u]at v;exact{_,rfl,l,_,-1,_,rfl,rfl,aH.of hl,R,_,rfl,t,_,rfl,v,k J M}
theorem Jc(L:Lk K mg):aS P w K mg base cO 7 L.DX L.DZ ["band","length"] (KL L.aA):=by
 refine L.E2.F.d8 (N:=["band","length"]) (λf A outer s H j Q E nd l h=>?_);obtain⟨x,n,g,e,ss,ls,rfl,B,a,b,c,d,k⟩:=h;refine{_,(ae (ay (au (wW L) L.qj (a9 (pv 0) (a9 dO (aM (pv 1))))))),?_}
 ac_rfl
 have i:("":Str)∈ss:=B.pm.mem_iff.mpr (bP e);exact{_,rfl,_,rfl,x,"",n,g,e,ss,ls,rfl,B,i,a,b,c,d,k}
theorem mO(L:Lk K mg):aS P w K mg base cO 1 L.vG L.vM ["thing"] Hy:=by
 have T:=L.T;refine L.kj.F.d8 (N:=["thing"]) (λa A outer s H b Q E nd c h=>?_);obtain⟨i,rfl,k⟩:=h;refine{_,(ae (ay (lP (aT cV (by rfl) T.Lc z8 (a9 (pv 0) (aM (gU (v:=.ty "int") (by rfl) T.int QC rfl)))) (qF (yI (aT cV (by rfl) T.Lc z8 (a9 (pv 0) (aM (gU (v:=.ty "bool") (by rfl) T.bool Mp rfl))))))))),?_}
 ac_rfl
 refine{_,rfl,_,_,_,true,rfl,iD.int i,rfl,true,rfl,eB ?_};exact{_,rfl,_,_,_,false,rfl,iD.int i,rfl,false,rfl,k}
theorem Bb(L:Lk K mg):aS P w K mg base cO 1 L.vI L.vO ["band","wide"] (Fg L.aA):=by
 have T:=L.T;refine L.vT.F.d8 (N:=["band","wide","rows","step"]) (λf A outer s H r Q E nd t h=>?_);obtain⟨x,n,g,u,ss,ls,rfl,B,j,l,m,k⟩:=h
 refine{_,(a6 (ai (i:=2) ao)
  (a6 (forA (bX rfl T.range (aM (pv 1))) (ax (i:=3)) (ae (uC (i:=2) nd rfl (we1 rfl) (y8 T.len (aC (pv 0) rfl)) GY)))
  (ae (ay (pv 2))))),?_}
 ac_rfl
 obtain⟨⟨o,b,d,q,v,p,y,z,C,D,G⟩,_,_,_⟩:=id B;refine{_,rfl,n,rfl,by lia,by lia,bW (lo:=0) (n:=n.toNat) (λi σ a=>a=H/\∃c,σ=[some (.ref x),some (.int n),some (.int ((g.length:Int)^i)),c]) ⟨rfl,none,rfl⟩ ?_ ?_}
 .rintro i σ a hi ⟨e,c,rfl⟩;rw[e];refine{_,rfl,_,rfl,x,L.aA,o,_,_,rfl,p,L.aI.cl,L.aI.pf,jR g b d q,g,rfl,aq (by lia),_,_,rfl,rfl,.inr {by lia,by lia},rfl,some (.int (0+(i:Int))),?_};rw[wfT];rfl
 .rintro σ a ⟨e,c,rfl⟩;rw[e];exact{_,rfl,k}
theorem D8(L:Lk K mg):aS P w K mg base cO 2 L.yk L.yp ["band","many","wide"] (Ay L.aA):=by
 refine L.yu.F.d8 (N:=["band","many","wide"]) (λc A outer s H f Q E nd i h=>?_);obtain⟨x,many,wide,g,d,ss,ls,rfl,B,a,b,k⟩:=h
 refine{_,(a6 (bA (PW.pt (ky (eh (cC (au (mO L) L.kj (aM (pv 1))))) (ky (d4 ni (pv 1) ao) (og (d4 lI (pv 1) ao))))) (ae (ay gz)) aO)
  (a6 (bA (PW.pt (ky (eh (cC (au (mO L) L.kj (aM (pv 2))))) (ky (d4 ni (pv 2) ao) (og (d4 lI (pv 2) ao))))) (ae (ay gz)) aO)
  (ae (ay (dS Q2 (au (Bb L) L.vT (a9 (pv 0) (aM (pv 2)))) ao (hX _)))))),?_}
 ac_rfl
 obtain⟨ha,j,hc,hd,e⟩:=id b;refine{_,rfl,many,rfl,true,rfl,cq ?_};refine{_,rfl,_,_,rfl,rfl,false,congrArg V.bl (decide_eq_false (by lia)),cq ?_};refine{_,rfl,_,_,rfl,rfl,false,congrArg V.bl (decide_eq_false (by lia)),cq ?_};refine{_,rfl,wide,rfl,true,rfl,cq ?_};refine{_,rfl,_,_,rfl,rfl,false,congrArg V.bl (decide_eq_false (by lia)),cq ?_};refine{_,rfl,_,_,rfl,rfl,false,congrArg V.bl (decide_eq_false (by lia)),cq ?_};refine{_,rfl,_,rfl,x,wide,g,d,ss,ls,rfl,B,a,by lia,by lia,_,_,rfl,rfl,?_};show Q (V.bl (decide ((g.length:Int)^wide.toNat<=64))) H;rw[decide_eq_true e];exact k
theorem gw(L:Lk K mg):aS P w K mg base cO 3 L.pE L.pU ["band","many","wide"] (Ay L.aA):=by
 refine L.fS.F.d8 (N:=["band","many","wide"]) (λc A outer s H e Q E nd f h=>?_);obtain⟨x,many,wide,g,d,ss,ls,rfl,B,a,b,k⟩:=h
 refine{_,(a6 (bA (eh (cC (au (D8 L) L.yu (a9 (pv 0) (a9 (pv 1) (aM (pv 2))))))) d9 aO)
  (ae (ay gz))),?_}
 ac_rfl
 exact{_,rfl,_,rfl,_,rfl,x,many,wide,g,d,ss,ls,rfl,B,a,b,true,rfl,cq k}
theorem FX(L:Lk K mg):aS P w K mg base cO 6 L.AU L.AX ["band","many","wide","most"] (Fi L.aA):=by
 have T:=L.T;refine L.B1.F.d8 (N:=["band","many","wide","most","table","rows_of_data","length"]) (λgx A outer s H vs Q E nd hr h=>?_);obtain⟨x,many,wide,most,g,m,ss,ls,rfl,B,q,D,r,Wi,Zg,Z⟩:=h;have k1:∀k:Nat,1<=k->(k:Int)<=most->gW g m ss (k*wide.toNat) "" < many^k->(∀j:Nat,1<=j->j<k->¬gW g m ss (j*wide.toNat) "" < many^j)->∀f,a8 H f->Q (.int (k:Nat)) f:=λk a b c d f G=>Z _ f G (.some k a b c d);have k2:(∀j:Nat,1<=j->(j:Int)<=most->¬gW g m ss (j*wide.toNat) "" < many^j)->∀f,a8 H f->Q .non f:=λa f G=>Z _ f G (.none a);have hu:=eT hr
 refine{_,(a6 (bj (au (gw L) L.fS (a9 (pv 0) (a9 (pv 1) (aM (pv 2))))))
  (a6 (ai (i:=4) (au (lu L) L.ir (a9 (pv 0) (aM (aD f5 (pv 3) (pv 2))))))
  (a6 (ai (i:=5) ao)
  (a6 (forA (qM rfl T.range (a9 ao (aM (aD cu (pv 3) ao)))) (ax (i:=6)) (a6 (uC (i:=5) nd rfl (we1 rfl) (pv 1) GY)
  (ae (bA (d4 ni (d7 hu (aW b5 (pv 4) (aD f5 (pv 6) (pv 2)) (λ_ _=>rfl)) dO (λ_ _=>rfl)) (pv 5)) (ae (ay (pv 6))) aO))))
  (ae (ay fC)))))),?_}
 ac_rfl
 have he:("":Str)∈ss:=B.pm.mem_iff.mpr (bP m);obtain⟨ha,hb,hc,hd,_⟩:=id r;obtain⟨e,t⟩:∃w:Nat,wide=(w:Int):={wide.toNat,by lia};obtain⟨u,I⟩:∃w:Nat,most=(w:Int):={most.toNat,by lia};have o:most*wide=((u*e:Nat):Int):=by rw[t,I,wb0]
 have bmw:u*e<=600:=by
  have p:u<=100:=by lia
  have h2:e<=6:=by lia
  exact wal (wby p h2) ⋯
 have ew:wide.toNat=e:=by lia
 rw[ew]at k1 k2;refine{_,rfl,_,rfl,_,rfl,x,many,wide,g,m,ss,ls,rfl,B,q,r,?_};refine{_,rfl,_,rfl,_,rfl,_,_,rfl,rfl,.inl {by lia,by lia},x,most*wide,g,m,ss,ls,rfl,B,q,D,by rw[o];lia,by rw[o];lia,λl J M s1 f1 hl O ht=>?_};rw[o,war]at O;refine{_,rfl,_,_,rfl,rfl,1,most+1,rfl,{by lia,by lia,by lia,by lia},bW (lo:=1) (n:=(most+1-1).toNat) (λi σ R=>R=M/\(∃v6,σ=[some (.ref x),some (.int many),some (.int wide),some (.int most),some (.ref l),some (.int (many^i)),v6])/\∀j:Nat,1<=j->j<=i->¬gW g m ss (j*e) "" < many^j) {rfl,{none,by rw[Int.pow_zero];rfl},λj p h2=>by lia} ?_ ?_}
 .rintro i σ R hi ⟨S,⟨v6,rfl⟩,lo⟩;rw[S];have U:i+1<=u:=by lia
  have Wj:(i+1)*e<=u*e:=weU _ U;have v:(i+1)*e<J.length:=by lia
  have e1:(J.map V.ref)[(i+1)*e]?=some (.ref J[(i+1)*e]):=by rw[wa3,wa1 v];rfl
  have y:=bz e1;have ei:((((i+1)*e:Nat)):Int)=(1+(i:Int))*wide:=by rw[t,wb0,wbk,Int.add_comm];rfl
  rw[ei]at y;have X:=ht _ _ (wa1 v);have e3:=ee.k (k:=(wak "":Key)) X;rw[uG _ he]at e3;refine{_,rfl,_,rfl,_,_,rfl,rfl,.inr {by lia,by lia},?_};refine{_,rfl,_,rfl,_,rfl,_,_,rfl,rfl,.inr {by lia,by lia},l,_,_,_,rfl,rfl,aH.of hl,y,_,_,rfl,e3,_,rfl,_,_,rfl,rfl,_,rfl,?_};refine o7 (λp=>?_) (λp=>{rfl,{_,by rw[wfT];rfl},λj C q2=>?_})
  .have Y:=of_decide_eq_true p;have:=k1 (i+1) (by lia) (by lia) (by rw[wfT];exact Y) (λj C q2=>lo j C (by lia)) M s1;rw[show (((i+1:Nat):Nat):Int)=1+(i:Int) by lia]at this;exact{_,rfl,this}
  .by_cases hj:j<=i
   .exact lo j C hj
   .obtain rfl:j=i+1:=by lia
    rw[wfT];exact λz=>p (decide_eq_true z)
 .rintro σ R ⟨S,⟨v6,rfl⟩,lo⟩;rw[S];exact k2 (λj C q2=>lo j C (by lia)) M s1
theorem tN(L:Lk K mg):aS P w K mg base cO 1 L.m9 L.my ["line"] (Iw K):=by
 refine L.mJ.F.d8 (N:=["line"]) (λo A outer s H D Q E nd c h=>?_);obtain⟨v,p,rfl,t,hn,k⟩:=h;refine{_,(ae (ay (eV rfl (aw [] []) (aw [] []) ⋯ (aP (pv 0)) (λ_ _ _ _ _ _=>b8) (λ_ _ _ _ _ _=>(dP (a9 (pv 0) (aM (pv 1)))))))),?_}
 ac_rfl
 obtain⟨a,u,rfl,j,b,x⟩:=jZ t;have d:=b;rw[wa0]at d;refine{_,rfl,a,rfl,{_,j},λl hl=>?_};refine jl (prs:=p.map dh) (λ_=>true) (λq=>.tup [.at q.1,.at q.2]) (aK K a u) b (λi q e=>let ⟨r,y,B⟩:=x i q e;{r,y,g8.of B}) hl (aq (by lia)) (λm f=>f.seq j) (λq n C _ _ g=>g n (a8.refl _)) (λq n C e _ G g=>?_) (λm f r=>?_)
 .obtain⟨z,I,rfl⟩:=wab.mp e;exact{_,rfl,_,rfl,by show 2<=sizeLine;decide,λr c=>g _ _ (a8.upd c) (lW c z)}
 .rw[wb1.mpr (λ_ _=>rfl),wah]at r;exact k _ m f r
theorem fX(L:Lk K mg):aS P w K mg base cO 2 L.gp L.js ["self","homes","weights","lines"] (Iy K L.aB):=by
 have T:=L.T;refine L.eI.F.d8 (N:=["self","homes","weights","lines"]) (λgx A outer s H vs Q E nd hr h=>?_);obtain⟨x,j,u,v,w,C,D,t,rfl,J,Z,UG,Mx,n1,n2,n3,n4,k⟩:=h
 refine{_,(a6 (d1 (pv 0) (bB dk (by rfl) T.list i9 (aM (pv 1))) rfl)
  (a6 (d1 (pv 0) (bB dk (by rfl) T.list i9 (aM (pv 2))) rfl)
  (ae (d1 (pv 0) (cn rfl (aw [] []) (aP (pv 3)) (λ_ _ _ _ _ _=>b8) (λ_ _ _ _ _ _=>(au (tN L) L.mJ (aM (pv 0))))) rfl)))),?_}
 ac_rfl
 obtain⟨a,rfl,ha⟩:=Ih Z;obtain⟨b,rfl,hb⟩:=ia UG;obtain⟨c,xs,rfl,hc,M⟩:=Mx;have xl:xs.length=t.length:=by rw[M.len,wa0]
 have l:∀{d:Addr} {ys:List V} {H':Hp},aH K H d ys->(∀b o,H b=some o->b≠x->H' b=some o)->aH K H' d ys:=λhS kp=>(eX kp).seq (yE J hS);refine{_,rfl,a,_,rfl,.inl ha,λf B=>?_};have m:x≠f:=ag J B;refine{_,rfl,x,L.aB,j,[],rfl,by rw[af m];exact J,L.az.cl,L.az.fM,(show 0<1000 by decide),?_};rw[Mg];have X:∀d o,H d=some o->d≠x->(upd (upd H f (.lst (C.map V.str))) x (.ins L.aB j (rP f))) d=some o:=λd o e hd=>by rw[af hd];exact a8.upd B _ _ e
 have x1:(upd (upd H f (.lst (C.map V.str))) x (.ins L.aB j (rP f))) x=some (.ins L.aB j (rP f)):=a7;have a1:(upd (upd H f (.lst (C.map V.str))) x (.ins L.aB j (rP f))) f=some (.lst (C.map V.str)):=by rw[af m.symm,a7]
 generalize upd (upd H f (.lst (C.map V.str))) x (.ins L.aB j (rP f))=O at X x1 a1 ⊢;refine{_,rfl,b,_,rfl,.inl (l hb X),λg n=>?_};have p:x≠g:=ag x1 n;have Zh:f≠g:=ag a1 n
 have UH:H g=none:=by
  cases q:H g with
  |none=>rfl
  |some o=>have:=X _ _ q p.symm;rw[n]at this;cases this
 refine{_,rfl,x,L.aB,j,rP f,rfl,by rw[af p];exact x1,L.az.cl,L.az.df,(show 1<1000 by decide),?_};rw[Hm];have G:∀d o,H d=some o->d≠x->(upd (upd O g (.lst (D.map V.int))) x (.ins L.aB j (oY f g))) d=some o:=λd o e hd=>by rw[af hd];exact a8.upd n _ _ (X _ _ e hd)
 have Y:(upd (upd O g (.lst (D.map V.int))) x (.ins L.aB j (oY f g))) x=some (.ins L.aB j (oY f g)):=a7;have a2:(upd (upd O g (.lst (D.map V.int))) x (.ins L.aB j (oY f g))) f=some (.lst (C.map V.str)):=by rw[af m.symm,af Zh];exact a1
 have b2:(upd (upd O g (.lst (D.map V.int))) x (.ins L.aB j (oY f g))) g=some (.lst (D.map V.int)):=by rw[af p.symm,a7]
 generalize upd (upd O g (.lst (D.map V.int))) x (.ins L.aB j (oY f g))=H2 at G Y a2 b2 ⊢;have R:=bu.same (eX G) _ _ (bu.off J _ _ M);refine{_,rfl,c,rfl,{_,l (.inl hc) G},λc' S=>?_};refine vD (K:=K) (t.map bV) (aK K c xs) S (aq (by lia)) (by rw[wa0,xl]) (λH' s'=>s'.seq (l (.inl hc) G)) (λi y d U Q' hy hd I qq=>?_) (λU I r3=>?_)
 .obtain⟨d',e',r⟩:=R.get i y hy;rw[hd]at e';cases e';rw[wa3]at hd
  cases e:t[i]? with
  |none=>rw[e]at hd;cases hd
  |some qs=>
   rw[e]at hd;cases hd;exact{_,rfl,y,qs,rfl,bK.same I _ _ r,n4 qs (wa8 e),λz H4 s4 r4=>qq z H4 s4 r4}
 .have ncx:x≠c':=ag Y S;refine{_,rfl,x,L.aB,j,oY f g,rfl,I _ _ Y,L.az.cl,L.az.cP,(show 2<1000 by decide),?_};rw[DC];have up:a8 (aL H U) (aL H (upd U x (.ins L.aB j (BZ f g c')))):=bL J λd o e hd=>by rw[af hd];exact e
  have old:a8 (aL H2 U) (aL H U):=λd o e=>by
   unfold aL at e ⊢
   cases q:H d with
   |none=>
    cases q2:H2 d with
    |none=>rw[q2]at e;exact e
    |some z=>rw[q2]at e;cases e
   |some z=>
    by_cases hd:d=x
    .rw[hd,Y]at e;cases e
    .rw[G _ _ q hd]at e;cases e
  refine k f g c' _ a7 ?_ ?_ (bK.same (old.trans up) _ _ r3) λd o e hd=>by rw[af hd];exact I _ _ (G _ _ e hd)
  .exact pk ((bT B (by rw[af m.symm];exact I _ _ a2)))
  .exact jg ((bT UH (by rw[af p.symm];exact I _ _ b2)))
theorem lz(L:Lk K mg):aS P w K mg base cO 1 L.mc L.mz ["number","things"] (Ko K):=by
 have T:=L.T;refine L.iu.F.d8 (N:=["number","things"]) (λc A outer s H f Q E nd g h=>?_);obtain⟨i,a,b,rfl,d,k⟩:=h;refine{_,(ae (ay (lP (dS GF (pv 0) ao (hX _)) (qF (dS ni (pv 0) (DU T.len (pv 1)) (hX _)))))),?_}
 ac_rfl
 by_cases h0:0<=i
 .have e:eU i b.length=decide (i<(b.length:Int)):=by unfold eU;rw[decide_eq_true h0,wcA]
  rw[e]at k;exact{_,rfl,_,_,rfl,rfl,true,congrArg V.bl (decide_eq_true h0),eB {_,rfl,_,rfl,a,b,rfl,.inl d,_,_,rfl,rfl,k}}
 .have e:eU i b.length=false:=by unfold eU;rw[decide_eq_false h0,wcG]
  rw[e]at k;exact{_,rfl,_,_,rfl,rfl,false,congrArg V.bl (decide_eq_false h0),cq k}
theorem wX(L:Lk K mg):aS P w K mg base cO 1 L.pI L.pY ["line","desk","twin"] (KP K):=by
 refine L.ql.F.d8 (N:=["line","desk","twin","steps","word","end"]) (λgx A outer s H vs Q E nd u h=>?_);obtain⟨v,d,t,p,rfl,hL,My,k⟩:=h
 refine{_,(a6 (ai (i:=3) (bY dN))
  (a6 (forA (aP (pv 0)) (dm rfl (aN (ax (i:=4)) (aN (ax (i:=5)) cA))) (a6 (bj (gB waL waP waT cm (pv 3) (aM (dP (a9 (pv 4) (aM (pv 5)))))))
  (ae (bA (d4 hZ (pv 5) (pv 1)) (ae (bj (gB waL waP waT cm (pv 3) (aM (dP (a9 (pv 4) (aM (pv 2)))))))) aO))))
  (ae (ay (pv 3))))),?_}
 ac_rfl
 obtain⟨a,S,rfl,hS,hT⟩:=cS hL;have zA:S.length=p.length:=by rw[hT.1,wa0,wa0]
 refine{waq _,λb M=>?_};have sb:a8 H (upd H b (.lst [])):=a8.upd M;have x:(upd H b (.lst [])) b=some (.lst []):=a7;generalize upd H b (.lst [])=B at sb x;have keep:∀{g:Hp},(∀c o,B c=some o->c≠b->g c=some o)->a8 H g:=λC c o e=>C _ _ (sb _ _ e) (ag e M)
 refine{_,rfl,a,rfl,{_,sb.seq hS},dG (K:=K) (a:=a) (xs:=S.map V.ref) (λj σ g=>∃(v4 v5:Option V) (as:List V),σ=[some (.ref a),some (.int (d:Int)),some (.int (t:Int)),some (.ref b),v4,v5]/\g b=some (.lst as)/\(∀c o,B c=some o->c≠b->g c=some o)/\bu K (aL B g) ((eJ d t (p.take j)).map kC) as)
  {none,none,[],rfl,x,λc o e _=>e,rfl} (λj σ g _ {_,_,_,_,_,C,_}=>(keep C).seq hS) ?_ ?_}
 .rintro j y σ g hy ⟨v4,v5,as,rfl,l,C,T⟩;have hj:j<S.length:=by have:=(wa6.mp hy).1;rwa[wa0]at this
  have U:j<p.length:=by lia
  rw[wa3,wa1 hj]at hy;cases hy;have X:H S[j]=some (.tup [.str p[j].1,.int (p[j].2:Int)]):=hT.2 j S[j] (iE (dh p[j])) (wa1 hj) (by rw[wa3,wa3,wa1 U];rfl);have qA:p.take (j+1)=p.take j++[p[j]]:=by rw[waM,wa1 U];rfl
  have Sn:as.length<=2*j:=by
   rw[T.len,wa0];exact wal (qR d t _) (wcd 2 (by rw[wad];lia))
  generalize p[j]=q at X qA;refine{S[j],_,rfl,g8.of (keep C _ _ X),rfl,_,_,rfl,_,_,rfl,rfl,?_};refine{_,rfl,.inl {rfl,_,aH.of l},_,rfl,_,rfl,by show 2<=sizeLine;decide,λr u=>?_};have I:∀n:Nat,n<=20000->n<sizeLine:=λn hn=>wbg hn (by rw[wcg];decide);have Sq:=a8.upd (o:=.tup [.str q.1,.int (q.2:Int)]) u _ _ l;refine{b,_,_,rfl,rfl,Sq,I _ (by lia),?_};have Y:∀c o,(upd g r (.tup [.str q.1,.int (q.2:Int)])) c=some o->c≠b->(upd (upd g r (.tup [.str q.1,.int (q.2:Int)])) b (.lst (as++[.ref r]))) c=some o:=λc o e hc=>by rw[af hc];exact e
  have D:∀c o,B c=some o->c≠b->(upd (upd g r (.tup [.str q.1,.int (q.2:Int)])) b (.lst (as++[.ref r]))) c=some o:=λc o e hc=>Y _ _ (a8.upd u _ _ (C c o e hc)) hc
  have r0:B r=none:=by
   cases z:B r with
   |none=>rfl
   |some o=>
    by_cases hc:r=b
    .rw[hc,l]at u;cases u
    .rw[C _ _ z hc]at u;cases u
  have O:bu K (aL B (upd (upd g r (.tup [.str q.1,.int (q.2:Int)])) b (.lst (as++[.ref r])))) ((eJ d t (p.take j)).map kC++[kC q]) (as++[.ref r]):=by
   refine gY (bu.same ((hV (a8.upd u)).trans (bL x Y)) _ _ T) ?_;have R:r≠b:=λz=>by rw[z,l]at u;cases u
   exact{r,_,rfl,bT r0 (by rw[af R,a7]),.str q.1,[.int (q.2:Int)],rfl,⟨rfl,rfl⟩,.int (q.2:Int),[],rfl,⟨rfl,rfl⟩,rfl}
  have m:(upd (upd g r (.tup [.str q.1,.int (q.2:Int)])) b (.lst (as++[.ref r]))) b=some (.lst (as++[.ref r])):=a7;generalize upd (upd g r (.tup [.str q.1,.int (q.2:Int)])) b (.lst (as++[.ref r]))=H4 at D O m
  by_cases G:q.2=d
  .refine{_,rfl,_,rfl,rfl,true,congrArg V.bl (decide_eq_true (by rw[G])),eB ?_};refine{_,rfl,.inl {rfl,_,aH.of m},_,rfl,_,rfl,by show 2<=sizeLine;decide,λJ f=>?_};have Mw:=a8.upd (o:=.tup [.str q.1,.int (t:Int)]) f _ _ m;refine{b,_,_,rfl,rfl,Mw,I _ (by rw[wa5,wco];lia),?_};have Z:∀c o,(upd H4 J (.tup [.str q.1,.int (t:Int)])) c=some o->c≠b->(upd (upd H4 J (.tup [.str q.1,.int (t:Int)])) b (.lst (as++[.ref r]++[.ref J]))) c=some o:=λc o e hc=>by rw[af hc];exact e
   have Zi:B J=none:=by
    cases z:B J with
    |none=>rfl
    |some o=>
     by_cases hc:J=b
     .rw[hc,m]at f;cases f
     .rw[D _ _ z hc]at f;cases f
   refine{_,_,_,rfl,a7,λc o e hc=>Z _ _ (a8.upd f _ _ (D c o e hc)) hc,?_};rw[qA,uU,if_pos G,wai];have em:([q,(q.1,t)]:List (Str×Nat)).map kC=[kC q]++[kC (q.1,t)]:=rfl;rw[em,<-waQ];refine gY (bu.same ((hV (a8.upd f)).trans (bL x Z)) _ _ O) ?_;have R:J≠b:=λz=>by rw[z,m]at f;cases f
   exact{J,_,rfl,bT Zi (by rw[af R,a7]),.str q.1,[.int (t:Int)],rfl,⟨rfl,rfl⟩,.int (t:Int),[],rfl,⟨rfl,rfl⟩,rfl}
  .refine{_,rfl,_,rfl,rfl,false,congrArg V.bl (decide_eq_false λz=>G (by have:=V.int.inj z;lia)),cq ?_};refine{_,_,_,rfl,m,D,?_};rw[qA,uU,if_neg G,wai];exact O
 .rintro σ g ⟨v4,v5,as,rfl,l,C,T⟩;rw[wa0,zA,waH]at T;exact{_,rfl,k _ _ (keep C) {b,as,rfl,.inl (bT M l),bu.same (eF sb) _ _ T}}
theorem nX(L:Lk K mg):aS P w K mg base cO 1 L.pK L.q0 ["line","desks"] (NZ K):=by
 refine L.kl.F.d8 (N:=["line","desks"]) (λy A outer s H R Q E nd g h=>?_);obtain⟨v,b,f,j,rfl,B,C,hn,k⟩:=h;refine{_,(ae (ay (eV rfl (aw ["desks"] [1]) (aw ["desks"] [1]) ⋯ (aP (pv 0)) (λ_ _ _ _ _ _=>gv (fD (i3 (K:=K) rfl) (pv 1) (pv 2) rfl)) (λ_ _ _ _ _ _=>(dP (a9 (pv 0) (aM (pv 1)))))))),?_}
 ac_rfl
 obtain⟨a,D,rfl,p,c,G⟩:=jZ B;have m:=c;rw[wa0]at m;refine{_,rfl,a,rfl,{_,p},λl hl=>?_}
 refine jl (prs:=j.map dh) (λq=>oP q.2 ((nI f).map V.int)) (λq=>.tup [.at q.1,.at q.2]) (aK K a D) c (λi q d=>let ⟨r,I,J⟩:=G i q d;{r,I,g8.of J}) hl (aq (by lia)) (λt n=>n.seq p) (λq u M d x o=>by
  obtain⟨z,O,rfl⟩:=wab.mp d
  exact{_,rfl,_,rfl,b,_,rfl,.inl (x.seq C),rfl,gX _,_,rfl,o u (a8.refl _)}) (λq u M d _ x o=>?_) (λt n r=>?_)
 .obtain⟨z,O,rfl⟩:=wab.mp d;exact{_,rfl,_,rfl,by show 2<=sizeLine;decide,λr g=>o _ _ (a8.upd g) (lW g z)}
 .have e:((j.map dh).filter λq=>oP q.2 ((nI f).map V.int))=(cR f j).map dh:=by
   unfold cR;rw[weY];refine congrArg _ (whx λq _=>?_);exact Af q.2 f
  rw[e,wah]at r;exact k _ t n r
theorem nY(L:Lk K mg):aS P w K mg base cO 2 L.ki L.q9 ["sheet","many"] (Ob K L.aB):=by
 have T:=L.T;refine L.km.F.d8 (N:=["sheet","many","kept","left"]) (λG A outer s H vs Q E nd hr h=>?_);obtain⟨x,many,hs,ws,b,rfl,S,hn,hm,k⟩:=h;have I:(A.deeper (wdP "kept_desks" (aJ (top 71)) s.heap.objs.size L.ki G)).units<wcJ:=hr.yF
 refine{_,(a6 (ai (i:=2) (bB (uK rfl) (by rfl) T.list i9 (aM (bB rL (by rfl) T.range DL (aM (DU T.len (aC (pv 0) rfl)))))))
  (ae (j8 wdh (cC gz) (a6 (cZ (i:=3) rfl (aw ["sheet","kept","many"] [0,2,1]) nd rfl rfl (aP (pv 2)) (λ_ _ _ _ _ _=>gv (d4 GF (aT (wB (K:=K) rfl) (by rfl) T.len wdA (aM (au (nX L) L.kl (a9 (aW (fE (K:=K) rfl) (mU (K:=K) rfl (pv 1) rfl) (pv 0) (λ_ _=>rfl)) (aM (pv 2)))))) (pv 3))) (λ_ _ _ _ _ _=>(pv 0)))
  (a6 (bA (d4 (GP I) (pv 3) (pv 2)) (ae (ay (pv 2))) aO)
  (ae (ai (i:=2) (pv 3)))))))),?_}
 ac_rfl
 obtain⟨dx,ah,bw,cl,hx,rh,JE,rl⟩:=id S;obtain⟨R9,J,ec,hc,m⟩:=id rl;cases ec;have xl:J.length=b.length:=by rw[m.len,wa0]
 refine{_,rfl,x,L.aB,dx,_,_,rfl,hx,L.az.cl,L.az.cP,bO ah bw cl,cl,J,rfl,.inl (.inl hc),?_};rw[xl];refine{_,rfl,λp hp=>?_};refine{p,b.length,rfl,a7,aq (by lia),λl hl=>?_};have s1:a8 H (upd H p (.rng 0 (b.length:Int))):=a8.upd hp;have fl:H l=none:=none_of s1 hl;have s2:=s1.trans (a8.upd (o:=.lst ((waD b.length).map λi=>V.int (i:Nat))) hl);have h2:(upd (upd H p (.rng 0 (b.length:Int))) l (.lst ((waD b.length).map λi=>V.int (i:Nat)))) l=some (.lst ((nI (waD b.length)).map V.int)):=by rw[a7,vd]
 generalize upd (upd H p (.rng 0 (b.length:Int))) l (.lst ((waD b.length).map λi=>V.int (i:Nat)))=H2 at s2 h2;refine{λq σ M=>∃(l:Addr) (c:List Nat) (v3:Option V),q=c.length/\σ=[some (.ref x),some (.int many),some (.ref l),v3]/\a8 H M/\H l=none/\M l=some (.lst ((nI c).map V.int))/\Above b many c,{_,l,_,none,rfl,rfl,s2,fl,h2,Above.start b many},?_};rintro q σ M ⟨l,c,v3,rfl,rfl,O,fl,r,t⟩;refine{true,rfl,eB ?_};refine{λu C=>∃(g:Addr),u=[some (.ref x),some (.int many),some (.ref g),some (.ref g)]/\a8 H C/\H g=none/\C g=some (.lst ((nI (uX b many c)).map V.int))/\uX b many c≠c,?_,?_}
 .rintro u C ⟨g,rfl,R,U,h',X⟩;exact{_,Ho X,g,_,_,rfl,rfl,R,U,h',t.next}
 have Y:∀d∈c,d<b.length:=λd hd=>wb7.mp (t.sub.subset hd);have Wd:c.length<=1000:=by have:=t.sub.length_le;rw[waJ]at this;lia
 refine{_,rfl,l,rfl,{_,aH.of r},λg z=>?_};refine dJ (λv=>match v with |.int d=>decide (many<=((cR c (b.getD d.toNat [])).length:Int)) |_=>false) (λv=>v) (aK K l _) z (aq (by rw[wa0,bR];lia)) (λC R=>aH.of (R _ _ r)) (λy D Q' hy j Z=>?_) (λy D Q' hy _ j Z=>{_,rfl,Z D (a8.refl _)}) (λD j h4=>?_)
 .obtain⟨n,Bk,rfl⟩:=vc hy;have OT:=Y n Bk;have hq:b[n]?=some (b.getD n []):=by rw[wa4,wa1 OT];rfl
  obtain⟨v,Oh,rd⟩:=m.at (i:=n) (d:=bV (b.getD n [])) (by rw[wa3,hq];rfl);have e:=O.trans j;refine{_,rfl,x,L.aB,dx,_,_,rfl,e _ _ hx,L.az.cl,L.az.cP,bO ah bw cl,_,rfl,cl,J,_,_,rfl,rfl,e.seq (.inl hc),bz Oh,_,rfl,v,l,c,b.getD n [],rfl,bK.same e _ _ rd,aH.of (j _ _ r),hm _ (wa8 hq),λy H5 s5 r5=>?_};obtain⟨a,rs,rfl,hS,hT⟩:=cS r5;have zA:rs.length=(cR c (b.getD n [])).length:=by rw[hT.1,wa0,wa0]
  refine{a,_,rfl,.inl ((bI _ _).seq hS),?_};rw[wa0,zA];exact{_,rfl,_,_,rfl,rfl,_,rfl,Z H5 s5}
 rw[we9,xV (f:=λn=>decide (many<=((cR c (b.getD n [])).length:Int))) (λn=>rfl)]at h4;have e:=O.trans j;refine{_,rfl,_,rfl,g,l,_,_,rfl,rfl,aH.of h4,aH.of (j _ _ r),gX _,gX _,_,rfl,?_};refine o7 (λB=>?_) (λB=>?_)
 .rw[y3,decide_eq_true_eq]at B;exact{_,rfl,k l c D e fl (j _ _ r) {t,t.stays B}}
 .rw[y3,decide_eq_true_eq]at B;exact{_,rfl,g,rfl,e,none_of O z,h4,B}
theorem tO(L:Lk K mg):aS P w K mg base cO 1 L.m6 L.mw ["self"] (KW L.aA):=by
 have T:=L.T;refine L.mM.F.d8 (N:=["self"]) (λo A outer s H R Q E nd S h=>?_);obtain⟨x,g,bw,ss,ls,rfl,B,p,e,k⟩:=h;refine{_,(ae (ay (Lp rfl (by rfl) T.max (aM (cn rfl (aw [] []) (aP (aC (pv 0) rfl)) (λ_ _ _ _ _ _=>b8) (λ_ _ _ _ _ _=>(y8 T.len (pv 0))))) ao))),?_}
 ac_rfl
 obtain⟨r,b,d,q,U,t,l,f,X,Y,Z⟩:=id B.ex;refine{_,rfl,x,L.aA,r,_,_,rfl,t,L.aI.cl,L.aI.vo,rX g b d q,b,rfl,{_,aH.of l},λu i=>?_};refine dJ (λ_=>true) (λv=>match v with |.str z=>.int (z.length:Int) |_=>.non) (aK K b _) i (aq (by rw[wa0];lia)) (λH' C=>aH.of (C _ _ l)) (λy a D m c j=>j a (a8.refl _)) (λy a D m _ c j=>?_) (λa c f=>?_)
 .obtain⟨w,hw,rfl⟩:=wab.mp m;exact{_,rfl,w,rfl,aq (by have:=e w hw;lia),j a (a8.refl _)}
 have G:((bw.map V.str).filter λ_=>true).map (λv=>match v with |.str z=>V.int (z.length:Int) |_=>.non)=(bw.map λw=>(w.length:Int)).map V.int:=by
  rw[wb1.mpr (λ_ _=>rfl),wah,wah];rfl
 rw[G]at f;refine{u,_,0,rfl,rfl,aH.of f,λhn=>?_,λM I J=>?_}
 .have n:bw=[]:=wh6.mp hn;exact k 0 a c {(λw hw=>by rw[n]at hw;cases hw),.inl ⟨rfl,n⟩}
 .obtain⟨w,hw,rfl⟩:=wab.mp I;exact k _ a c {λz O=>J _ (wab.mpr ⟨z,O,rfl⟩),.inr ⟨w,hw,rfl⟩}
theorem rp(L:Lk K mg):aS P w K mg base cO 2 L.kH L.kR ["band","wide"] (IB L.aA):=by
 have T:=L.T;refine L.kX.F.d8 (N:=["band","wide","signs"]) (λj A outer s H v Q E nd y h=>?_);obtain⟨x,n,g,bw,ss,ls,rfl,B,n1,oE,c,e,k⟩:=h
 refine{_,(a6 (ai (i:=2) (aT (Eu rfl) (by rfl) T.max Hx (a9 (aD lL (ie (pv 0) L.aI.cl L.mM (tO L)) ao) (aM ao))))
  (ae (ay (aD jI (aD lL (aD cu (pv 2) (pv 1)) ao) (pv 1))))),?_}
 ac_rfl
 obtain⟨l,b,d,q,z,m,C,D,G,I,J⟩:=id B.ex;refine{_,rfl,x,l,_,rfl,m,Cg g b d q ∅ ∅ ∅ ∅,x,g,bw,ss,ls,rfl,B,e,(λw hw=>by have:=c w hw;omega),λM o p f=>?_};refine{_,_,rfl,rfl,_,_,rfl,?_}
 have r:0<=M/\M<=900:=by
  rcases f.a with⟨h,_⟩ |⟨w,hw,h⟩
  .omega
  .have:=c w hw;omega
 have t:0<=((if 0>M-1 then 0 else M-1)+(n:Int)-1)/(n:Int):=wi5 (by split<;>omega) ()
 have u:((if 0>M-1 then 0 else M-1)+(n:Int)-1)/(n:Int)<=1000:=by
  refine we8 (Int.ediv_le_self _ (by split<;>omega)) (by split<;>omega)
 refine{_,rfl,_,rfl,_,_,rfl,rfl,_,_,rfl,rfl,_,rfl,_,_,rfl,rfl,{(),()},?_};have:=k (((if 0>M-1 then 0 else M-1)+(n:Int)-1)/(n:Int)).toNat o p {(),M,f,()};rwa[show ((((if 0>M-1 then 0 else M-1)+(n:Int)-1)/(n:Int)).toNat:Int)=((if 0>M-1 then 0 else M-1)+(n:Int)-1)/(n:Int) by omega]at this
theorem oF(L:Lk K mg):aS P w K mg base cO 1 L.iH L.iK ["self","place"] (U4 L.aA):=by
 have T:=L.T;refine L.iP.F.d8 (N:=["self","place"]) (λa A outer s H l Q E nd m h=>?_);obtain⟨x,p,g,n,ss,ls,rfl,B,c,k⟩:=h;obtain⟨⟨f,b,d,q,o,i,r,t,u,y,j⟩,_,_,_⟩:=B;refine{_,(ae (bA (PW.pt (ky (eh (cC (aT cV (by rfl) T.Lc z8 (a9 (pv 1) (aM (gU (v:=.ty "str") (by rfl) T.str Kl rfl)))))) (og (fD jD (pv 1) (aC (pv 0) rfl) rfl)))) d9 aO)),?_}
 ac_rfl
 refine{_,rfl,_,_,_,true,rfl,iD.str p,rfl,true,rfl,cq ?_};refine{_,rfl,_,rfl,x,L.aA,f,_,_,rfl,i,L.aI.cl,L.aI.qY,xW g b d q,q,_,rfl,.inl (aH.of j),rfl,fi _,?_};have e:oP (.str p) (ls.map V.str)=true:=by rw[j4];exact decide_eq_true c
 refine{false,?_,cq k};show V.bl (!oP (.str p) (ls.map V.str))=V.bl false;rw[e];rfl
theorem we(L:Lk K mg):aS P w K mg base cO 3 L.nC L.nL ["band","rows"] (Iq L.aA):=by
 refine L.nT.F.d8 (N:=["band","rows","longer","word","place","sign","end"]) (λgx A outer s H vs Q E nd hr h=>?_);obtain⟨x,l,rs,m,g,n,ss,ls,rfl,B,R,hq,My,E6,k⟩:=h
 refine{_,(a6 (ai (i:=2) (bY dN))
  (a6 (forA (aP (pv 1)) (dm rfl (aN (ax (i:=3)) (aN (ax (i:=4)) cA))) (ae (forA (yS (aC (pv 0) rfl)) (ax (i:=5)) (a6 (ai (i:=6) (yi (pv 0) L.aI.cl L.oB (tE L) (a9 (pv 4) (aM (pv 5)))))
  (ae (bA (d4 yJ (pv 6) fC) (ae (bj (gB waL waP waT cm (pv 2) (aM (dP (a9 (aD i6 (pv 3) (pv 5)) (aM (pv 6)))))))) aO))))))
  (ae (ay (pv 2))))),?_}
 ac_rfl
 refine{waq _,λu v=>?_};have s0:a8 H (upd H u (.lst [])):=a8.upd v;refine{_,rfl,l,rfl,{_,aH.of (s0 _ _ R.l)},dG (K:=K) (a:=l) (xs:=rs.map V.ref) (λi σ J=>∃(v3 v4 z v6:Option V) (f:List Addr),σ=[some (.ref x),some (.ref l),some (.ref u),v3,v4,z,v6]/\a8 H J/\eu J u f (fJ g n ss (m.take i))) {none,none,none,none,[],rfl,s0,{a7,bc.nil _}} (λi σ J _ {_,_,_,_,_,_,C,_}=>aH.of (C _ _ R.l)) ?_ ?_}
 .rintro i y σ J D ⟨v3,v4,z,v6,f,rfl,C,R2⟩;rw[wa3]at D
  obtain⟨r,O,rfl⟩:∃r,rs[i]?=some r/\y=.ref r:=by
   cases q:rs[i]? with
   |none=>rw[q]at D;cases D
   |some r=>rw[q]at D;exact{r,rfl,(waf D).symm}
  have S:i<m.length:=by have:=(wa6.mp O).1;rw[R.len]at this;exact this
  have T:m[i]?=some m[i]:=wa1 S;obtain⟨U,X⟩:=hq m[i] (waK S);have hT:=R.t.2 i r (lQ m[i]) O (by rw[wa3,T];rfl);have qA:m.take (i+1)=m.take i++[m[i]]:=by rw[waM,T];rfl
  have G:fJ g n ss (m.take (i+1))=fJ g n ss (m.take i)++qX g n ss m[i]:=by
   unfold fJ;rw[qA,wf3];simp
  have Jd:(fJ g n ss (m.take i)).length<=1000:=by
   have h1:=rZ g n ss (m.take i);have h2:(m.take i).length<=100:=by rw[wad];lia
   exact wal h1 (wby h2 E6)
  generalize m[i]=q at U X hT G;obtain⟨w,p⟩:=q;generalize fJ g n ss (m.take i)=M at R2 G Jd;refine{r,_,rfl,g8.of (C _ _ hT),rfl,_,_,rfl,_,_,rfl,rfl,?_};have B2:=B.same C;obtain⟨⟨dx,b,d,qq,mv,h1,h2,h3,h4,h5,h6⟩,pm,_,_⟩:=id B2;refine{_,rfl,x,L.aA,dx,_,_,rfl,h1,L.aI.cl,L.aI.pf,jR g b d qq,g,rfl,iT (oN g) (λj σ Y=>∃(z v6:Option V) (f:List Addr),σ=[some (.ref x),some (.ref l),some (.ref u),some (.str w),some (.str p),z,v6]/\a8 H Y/\eu Y u f (M++((ch g).take j).filterMap λc=>if bears n (p++{#[c]})=true then none else some (w++{#[c]},lend ss (p++{#[c]})))) {_,_,f,rfl,C,by rw[wdB,List.filterMap_nil,waY];exact R2} (λ_ _ _ _ _=>trivial) ?_ ?_}
  .rintro j y σ Y D ⟨z,v6,f,rfl,Z,R3⟩;obtain⟨c,hci,rfl,hj,Zj,Ra⟩:=Fe D;have B3:=B.same Z;obtain⟨⟨Zk,_,_,_,_,Zm,_⟩,_⟩:=id B3;refine{_,rfl,x,Zk,_,rfl,Zm,Cg _ _ _ _ ∅ ∅ ∅ ∅,_,rfl,_,rfl,x,p,c,g,n,ss,ls,rfl,B3,U,Zj,?_}
   have Sr:(M++((ch g).take j).filterMap λc=>if bears n (p++{#[c]})=true then none else some (w++({#[c]}:Str),lend ss (p++({#[c]}:Str)))).length<=1010:=by
    have:=we7 (λc=>if bears n (p++{#[c]})=true then none else some (w++({#[c]}:Str),lend ss (p++({#[c]}:Str)))) ((ch g).take j);rw[wad,aE]at this;rw[wa5]
    lia
   refine{_,rfl,rfl,_,rfl,?_};rw[Ra,wgH,<-waQ];generalize (M++((ch g).take j).filterMap λc=>if bears n (p++{#[c]})=true then none else some (w++({#[c]}:Str),lend ss (p++({#[c]}:Str))))=M2 at R3 Sr
   cases hb:bears n (p++⟨#[c]⟩) with
   |true=>
    have e:ua n ss p c=.non:=by unfold ua;rw[hb];rfl
    rw[e];refine cq {_,_,f,rfl,Z,?_}
    have e2:([c].filterMap λc=>if bears n (p++{#[c]})=true then none else some (w++({#[c]}:Str),lend ss (p++({#[c]}:Str))))=[]:=by
     rw[wbl,hb];rfl
    rw[e2,waY];exact R3
   |false=>
    have e:ua n ss p c=.str (lend ss (p++{#[c]})):=by unfold ua;rw[hb];rfl
    rw[e]
    have e2:([c].filterMap λc=>if bears n (p++{#[c]})=true then none else some (w++({#[c]}:Str),lend ss (p++({#[c]}:Str))))=[(w++{#[c]},lend ss (p++{#[c]}))]:=by
     rw[wbl,hb];rfl
    rw[e2];have zA:=R3.len;have Zn:w.length<=100:=X;refine eB {_,rfl,.inl {rfl,_,aH.of R3.l},_,rfl,_,rfl,_,_,rfl,rfl,aq (by show w.length+1<=_;lia),_,rfl,by show 2<=sizeLine;decide,λr' I=>?_};refine{u,_,_,rfl,rfl,a8.upd I _ _ R3.l,by rw[wa0,zA];exact wbg Sr (by rw[wcg];decide),?_};have key:=R3.push I (w++{#[c]},lend ss (p++{#[c]}))
    have sk:a8 H (upd (upd Y r' (.tup [.str (w++{#[c]}),.str (lend ss (p++{#[c]}))])) u (.lst (f.map V.ref++[.ref r']))):=λa o ea=>by
     rw[af (ag ea v)];exact a8.upd I _ _ (Z _ _ ea)
    unfold lQ at key;generalize lend ss (p++{#[c]})=le at key sk ⊢;refine{some (.str {#[c]}),some (.str le),f++[r'],?_,?_,?_}
    .rfl
    .exact sk
    .exact key
  .rintro σ Y ⟨z,v6,f,rfl,Z,R3⟩;refine{_,_,_,_,f,rfl,Z,?_};have:(eO g).length=(ch g).length:=by unfold eO;rw[wa0]
   rw[this,waH]at R3;rw[G];exact R3
 .rintro σ J ⟨v3,v4,z,v6,f,rfl,C,R2⟩;rw[wa0,R.len,waH]at R2;exact{_,rfl,k u f J C v R2}
theorem mP(L:Lk K mg):aS P w K mg base cO 4 L.nD L.nM ["band","place","wide"] (Ir L.aA):=by
 have T:=L.T;refine L.iW.F.d8 (N:=["band","place","wide","rows","step","live"]) (λgx A outer s H vs Q E nd hr h=>?_);obtain⟨x,p,n,g,a,ss,ls,rfl,B,hp,j,hn,E7,J,k⟩:=h
 refine{_,(a6 (bj (yi (pv 0) L.aI.cl L.iP (oF L) (aM (pv 1))))
  (a6 (ai (i:=3) (bY (aM (dP (a9 dO (aM (pv 1)))))))
  (a6 (forA (bX rfl T.range (aM (pv 2))) (ax (i:=4)) (ae (ai (i:=3) (au (we L) L.nT (a9 (pv 0) (aM (pv 3)))))))
  (a6 (ai (i:=5) (ie (pv 0) L.aI.cl L.iQ (kn L)))
  (ae (ay (eV rfl (aw ["live"] [5]) (aw ["live"] [5]) ⋯ (aP (pv 3)) (λ_ _ _ _ _ _=>gv (fD (i3 (K:=K) rfl) (pv 1) (pv 2) rfl)) (λ_ _ _ _ _ _=>(dP (a9 (pv 0) (aM (pv 1)))))))))))),?_}
 ac_rfl
 have he:("":Str)∈ss:=B.pm.mem_iff.mpr (bP a);have M:p∈ss:=B.lv.sub.subset hp;obtain⟨⟨dx,b,d,q,mv,m,z,h3,h4,h5,h6⟩,pm,_,_⟩:=id B;refine{_,rfl,x,dx,_,rfl,m,Cg _ _ _ _ ∅ ∅ ∅ ∅,_,rfl,x,p,g,a,ss,ls,rfl,B,hp,?_};refine{_,rfl,by show 2<=sizeLine;decide,λe O=>{by show 1<=sizeLine;decide,λC o=>?_}}
 have R0:eu (upd (upd H e (.tup [.str "",.str p])) C (.lst [.ref e])) C [e] (vm g a ss p 0):=by
  refine{a7,rfl,λi r xs m z=>?_}
  match i,m,z with
  |0,m,z=>
   cases m;cases z;exact a8.upd o _ _ a7
 have s0:a8 H (upd (upd H e (.tup [.str "",.str p])) C (.lst [.ref e])):=(a8.upd O).trans (a8.upd o);refine{_,rfl,(n:Int),rfl,by lia,by lia,?_};rw[war];refine bW (lo:=0) (n:=n) (λi σ D=>∃(l:Addr) (u:List Addr) (v4:Option V),σ=[some (.ref x),some (.str p),some (.int (n:Int)),some (.ref l),v4,none]/\a8 H D/\eu D l u (vm g a ss p i)) {C,[e],none,rfl,s0,R0} ?_ ?_
 .rintro i σ D hi ⟨l,u,v4,rfl,f,R2⟩;have c:(vm g a ss p i).length<=100:=wal (p9 g a ss p i) (wal (wgT (by lia) (by lia)) j);refine{_,rfl,_,rfl,x,l,u,_,g,a,ss,ls,rfl,B.same f,R2,λr hr=>?_,c,J,λl' R H3 v f3 R3=>{l',R,_,rfl,f.trans v,R3}};obtain⟨a1,a2⟩:=vA he M i r hr;exact{a1,by lia}
 .rintro σ D ⟨l,u,v4,rfl,f,R2⟩;have B2:=B.same f;obtain⟨⟨S,_,_,_,_,U,_⟩,_⟩:=id B2;refine{_,rfl,x,S,_,rfl,U,Cg _ _ _ _ ∅ ∅ ∅ ∅,x,g,a,ss,ls,rfl,B2,λlv H3 v f3 X=>?_};have R3:=R2.same v;have c:(vm g a ss p n).length<=100:=wal (p9 g a ss p n) j;have zA:=R3.len;refine{_,rfl,l,rfl,{_,aH.of R3.l},λlr y=>?_};refine Fn (prs:=(vm g a ss p n).map oX) (λq=>oP q.2 (ls.map V.str)) iE (aK K l (u.map V.ref)) (by rw[DB];exact R3.t) y (aq (by lia)) (λH' s'=>aH.of (s' _ _ R3.l)) (λqv G Q' hq I Y=>?_) (λqv G Q' hq _ I Y=>?_) (λys G I Z t4=>?_)
  .obtain⟨q',_,rfl⟩:=wab.mp hq;exact{_,rfl,_,rfl,lv,_,rfl,.inl (aH.of (I _ _ X)),rfl,fi _,_,rfl,Y G (a8.refl _)}
  .exact{_,rfl,_,rfl,by show 2<=sizeLine;decide,λr' UI=>Y r' _ (a8.upd UI) a7}
  .rw[Ac]at t4;exact k lr ys G ((f.trans v).trans I) (none_of (f.trans v) y) ⟨Z,t4⟩
theorem wY(L:Lk K mg):aS P w K mg base cO 5 L.pG L.pW ["band","wide"] (Az L.aA):=by
 refine L.qk.F.d8 (N:=["band","wide","ends","place"]) (λgx A outer s H vs Q E nd hr h=>?_);obtain⟨x,n,g,J,ss,ls,rfl,B,JF,hn,E7,E6,E5,k⟩:=h;have hu:=eT hr
 refine{_,(a6 (ai (i:=2) da)
  (a6 (forA (aP (ie (pv 0) L.aI.cl L.iQ (kn L))) (ax (i:=3)) (ae (dU hu (pv 2) (pv 3) (eV rfl (aw [] []) (aw [] []) ⋯ (aP (au (mP L) L.iW (a9 (pv 0) (a9 (pv 3) (aM (pv 1)))))) (λ_ _ _ _ _ _=>b8) (λ_ _ _ _ _ _=>(pv 1))) rfl)))
  (ae (ay (pv 2))))),?_}
 ac_rfl
 refine λu v=>?_;have Y:a8 H (upd H u (.dK [])):=a8.upd v;have B0:=B.same Y;obtain⟨⟨dx,b,d,q,mv,h1,h2,h3,h4,h5,h6⟩,pm,_,_⟩:=id B0;refine{_,rfl,x,dx,_,rfl,h1,Cg _ _ _ _ ∅ ∅ ∅ ∅,x,g,J,ss,ls,rfl,B0,λlp Z R f1 S=>?_};have Sj:lp≠u:=λz=>by rw[z,a7]at f1;cases f1
 have nd:ls.Nodup:=B.nd.sublist B.lv.sub;have CL:ls.length<=900:=wal B.lv.sub.length_le E5
 refine{lp,rfl,{_,aH.of S},dG (K:=K) (a:=lp) (xs:=ls.map V.str) (λi σ H2=>∃v3 r,σ=[some (.ref x),some (.int (n:Int)),some (.ref u),v3]/\H2 u=some (.dK (ck r))/\r.map (·.1)=ls.take i/\(∀m∈r,H2 m.2=some (.lst (((aU g J ss ls n m.1).map (·.2)).map V.str)))/\(∀m∈r,Z m.2=none)/\(∀c o,Z c=some o->c≠u->H2 c=some o))
  {none,[],rfl,R _ _ a7,rfl,λm C=>(nomatch C),λm C=>(nomatch C),λc o e _=>e} (λi σ H2 _ {_,_,_,_,_,_,_,M}=>aH.of (M _ _ S Sj)) ?_ ?_}
 .rintro i y σ H5 hy ⟨v3,r,rfl,D,f,j,G,M⟩;obtain⟨p,Ls,rfl,hi,D7,qA⟩:=gE hy;have Uy:a8 H H5:=λc o e=>M _ _ (R _ _ (Y _ _ e)) (ag e v);refine{_,rfl,_,rfl,_,rfl,x,p,n,g,J,ss,ls,rfl,B.same Uy,D7,JF,hn,E7,E6,λlb rs H6 s6 f6 R6=>?_};have Mz:=gm g J ss ls n p;have zA:=R6.len;refine{lb,rfl,{_,aH.of R6.l},λe he=>?_};refine jM (prs:=(aU g J ss ls n p).map oX) (λ_=>true) (λq=>q.2) (aK K lb (rs.map V.ref)) (by rw[DB];exact R6.t) he (aq (by lia)) (λH' s'=>aH.of (s' _ _ R6.l)) (λq H7 Q' _ _ qq=>qq H7 (a8.refl _)) (λq H7 Q' _ _ _ qq=>{_,rfl,qq H7 (a8.refl _)}) (λH7 s7 h7=>?_)
  have e7:(((aU g J ss ls n p).map oX).filter λ_=>true).map (λq=>q.2)=((aU g J ss ls n p).map (·.2)).map V.str:=by
   rw[wb1.mpr (λ_ _=>rfl),wah,wah];rfl
  rw[e7]at h7;have O:=s6.trans s7;have d6:=O _ _ D;have I:H5 e=none:=none_of s6 he;have T:p∉r.map (·.1):=by rw[f];exact ib nd Ls
  have Uz:r.length<=900:=by have:=congrArg wdt f;rw[wa0,wad]at this;lia
  refine{_,rfl,_,rfl,u,_,rfl,jG.k (k:=wak p) d6 (by unfold ck;rw[wa0];exact bg (by lia)),?_};have U:e≠u:=λz=>by rw[z,D]at I;cases I
  have e1:Z e=none:=by
   cases q:Z e with
   |none=>rfl
   |some o=>
    have:=M _ _ q U;rw[this]at I;cases I
  refine{_,r++[(p,e)],rfl,?_,?_,?_,?_,?_}
  .rw[a7,fF _ (oj T)];unfold ck;rw[wai];rfl
  .rw[wai,f,qA];rfl
  .intro m C;rcases wax.mp C with z |z
   .have nm:m.2≠u:=λq=>by
     have:=G m z;rw[q,R _ _ a7]at this;cases this
    rw[af nm];exact O _ _ (j m z)
   .have:m=(p,e):=by simpa using z
    subst this;rw[af U];exact h7
  .intro m C;rcases wax.mp C with z |z
   .exact G m z
   .have:m=(p,e):=by simpa using z
    subst this;exact e1
  .intro c o hc X;rw[af X];exact O _ _ (M c o hc X)
 .rintro σ H5 ⟨v3,r,rfl,D,f,j,G,M⟩;rw[wa0,waH]at f;exact{_,rfl,k u r H5 (λc o e=>M _ _ (R _ _ (Y _ _ e)) (ag e v)) v D f j λm C=>none_of Y (none_of R (G m C))}
theorem zC(L:Lk K mg):aS P w K mg base cO 1 L.sC L.sR ["places","weights"] (HA K):=by
 have T:=L.T;refine L.t7.F.d8 (N:=["places","weights"]) (λj A outer s H y Q E nd n h=>?_);obtain⟨l,d,o,m,f,rfl,g,p,hd,hw,k⟩:=h;have q:=eT n;refine{_,(ae (ay (aT (lN rfl) (by rfl) T.sum EJ (aM (cn rfl (aw ["weights"] [1]) (aP (pv 0)) (λ_ _ _ _ _ _=>b8) (λ_ _ _ _ _ _=>(d7 q (pv 1) (pv 0) (λ_ _=>rfl)))))))),?_}
 ac_rfl
 refine{_,rfl,l,rfl,{_,g},λr a=>?_};refine comp_map (K3 f) (aK K l (o.map V.str)) a (by rw[wa0];exact aq (by lia)) (λB t=>t.seq g) (λz b C u c v=>?_) (λb c i=>?_)
 .obtain⟨e,x,rfl⟩:=wab.mp u;have g3:=ee.rd (k:=(wak e:Key)) (hd.same c);rw[eC,hw e x]at g3;exact{_,rfl,_,rfl,d,_,rfl,g3,v b (a8.refl _)}
 .rw[qL]at i;exact{r,_,rfl,aH.of i,k b c}
theorem D9(L:Lk K mg):aS P w K mg base cO 2 L.ym L.yq ["ends","many","weights"] Fh:=by
 have T:=L.T;refine L.yv.F.d8 (N:=["ends","many","weights","lower","place"]) (λX A outer s H vs Q E nd Y h=>?_);obtain⟨x,B,many,n,o,M,f,g,r,ss,ls,rfl,l,O,Z,JF,nd,CL,hm2,Zo,C,k⟩:=h;have D:=eT Y
 refine{_,(a6 (ai (i:=3) da)
  (a6 (forA (u0 (pv 0)) (ax (i:=4)) (ae (dU D (pv 3) (pv 4) (aT (qN rfl) (by rfl) T.min Km (a9 (d7 D (pv 2) (pv 4) (λ_ _=>rfl)) (aM (aD jI (au (zC L) L.t7 (a9 (d7 D (pv 0) (pv 4) (λ_ _=>rfl)) (aM (pv 2)))) (pv 1))))) rfl)))
  (ae (ay (pv 3))))),?_}
 ac_rfl
 refine λdl m=>?_;have R:a8 H (upd H dl (.dK [])):=a8.upd m;have J:=j9 x o (ck M);rw[hO,O]at J;refine{_,rfl,x,_,rfl,.inr {o,R _ _ l,?_}};refine iT J (λj σ t=>∃(v4:Option V),σ=[some (.ref x),some (.int many),some (.ref B),some (.ref dl),v4]/\t dl=some (.dK (bH (cy (lV g r ss ls many n f) (ls.take j))))/\a8 H t) ⟨none,rfl,a7,R⟩ (λj σ t _ {_,_,_,b}=>b _ _ l) ?_ ?_
 .rintro j y σ t hy ⟨v4,rfl,z,b⟩;obtain⟨p,G,rfl,hj,u,qA⟩:=gE hy;have d:=C.same b;have g3:=ee.rd (k:=(wak p:Key)) d;rw[eC,jP f ls p u]at g3;obtain⟨a,ha,hv⟩:=gZ (mv:=M) (k:=p) (by rw[O];exact u);have S:=ee.f (k:=(wak p:Key)) (b _ _ l);rw[hv]at S;have I:=b _ _ (Z _ ha);have Mz:=gm g r ss ls n p;refine{_,rfl,_,rfl,B,_,rfl,g3,_,rfl,_,rfl,x,_,rfl,S,_,rfl,a,B,(aU g r ss ls n p).map (·.2),_,f,rfl,aH.of I,by rw[wa0];lia,d,λe he=>?_,λH4 U=>?_}
  .obtain⟨q,hq,rfl⟩:=wab.mp he;exact jP f ls _ (du hq)
  have eb:(((aU g r ss ls n p).map (·.2)).map f).sum=gP g r ss ls n f p:=by unfold gP;rw[wah];rfl
  refine{_,rfl,_,_,rfl,rfl,{by lia,by lia},_,_,rfl,?_};have h4:=U _ _ z;have v:p∉(cy (lV g r ss ls many n f) (ls.take j)).map (·.1):=by rw[qT];exact ib nd G
  refine{_,rfl,_,rfl,dl,_,rfl,jG.k (k:=wak p) h4 (by rw[ja];unfold cy;rw[wa0,wad];exact bg (by lia)),?_};refine{_,rfl,?_,λc oc e=>?_}
  .rw[a7,qP v,eb,qA];unfold cy;rw[wai];rfl
  .rw[af (ag e m)];exact U _ _ (b _ _ e)
 .rintro σ t ⟨v4,rfl,z,b⟩;rw[wa0,waH]at z;exact{_,rfl,k dl t b m z}
theorem Bc(L:Lk K mg):aS P w K mg base cO 6 L.oA L.vQ ["band","many","wide","most"] (KM L.aA):=by
 refine L.vV.F.d8 (N:=["band","many","wide","most","ends","weights","place","lower"]) (λgx A outer s H vs Q E nd hr h=>?_);obtain⟨x,many,n,most,g,v,ss,ls,rfl,B,E7,U,X,Y,Wi,k⟩:=h;have hu:=eT hr;have Ut:(A.deeper (wdP "greatest" (aJ (top 50)) s.heap.objs.size L.oA gx)).units<wcJ:=hr.yF
 refine{_,(a6 (bj (au (gw L) L.fS (a9 (pv 0) (a9 (pv 1) (aM (pv 2))))))
  (a6 (ai (i:=4) (au (wY L) L.qk (a9 (pv 0) (aM (pv 2)))))
  (a6 (ai (i:=5) da)
  (a6 (forA (A9 (pv 4)) (ax (i:=6)) (ae (dU hu (pv 5) (pv 6) (pv 3) rfl)))
  (ae (j8 wdh (cC gz) (a6 (ai (i:=7) (au (D9 L) L.yv (a9 (pv 4) (a9 (pv 1) (aM (pv 5))))))
  (a6 (bA (d4 (Nj Ut) (pv 7) (pv 5)) (ae (ay (pv 5))) aO)
  (ae (ai (i:=5) (pv 7))))))))))),?_}
 ac_rfl
 obtain⟨Z,rb,rc,rd,re⟩:=id Y
 have JF:g.length^n<=64:=by
  rw[war]at re;have:((g.length^n:Nat):Int)<=64:=by rw[wdT];exact re
  lia
 have nd:ls.Nodup:=B.nd.sublist B.lv.sub;have CL:ls.length<=900:=wal B.lv.sub.length_le X;refine{_,rfl,_,rfl,_,rfl,x,many,n,g,v,ss,ls,rfl,B,U,Y,?_};refine{_,rfl,_,rfl,x,n,g,v,ss,ls,rfl,B,by lia,by lia,E7,U,X,λd G H1 s1 UA h1 ek er ef=>?_};have Zq:∀q∈G,q.2≠d:=λq hq z=>by have:=er q hq;rw[z,h1]at this;cases this
 refine λa b=>?_;have I:d≠a:=ag h1 b;have Wk:(upd H1 a (.dK [])) d=some (.dK (ck G)):=a8.upd b _ _ h1;refine{_,rfl,d,_,rfl,.inl Wk,λo H2 h2 l=>?_};have M:H2 a=some (.dK []):=by rw[l a (wbx I),a7]
 have s2:a8 H H2:=λc O e=>by
  rw[l c (ag e UA)];exact a8.upd b _ _ (s1 _ _ e)
 have R:∀m∈G,H2 m.2=some (.lst (((aU g v ss ls n m.1).map (·.2)).map V.str)):=λm r=>by
  rw[l _ (Zq m r)];exact a8.upd b _ _ (er m r)
 have t:H a=none:=none_of s1 b;have J:=j9 d o (ck G);rw[hO,ek]at J;refine iT J (λj σ u=>∃(v6:Option V),σ=[some (.ref x),some (.int many),some (.int (n:Int)),some (.int most),some (.ref d),some (.ref a),v6,none]/\u a=some (.dK (bH (cy (λ_=>most) (ls.take j))))/\∀c O,H2 c=some O->c≠a->u c=some O) {none,rfl,M,λc O e _=>e} (λj σ u _ {_,_,_,C}=>C _ _ h2 I) ?_ ?_
 .rintro j y σ u hy ⟨v6,rfl,h3,C⟩;obtain⟨p,OS,rfl,hj,D7,qA⟩:=gE hy;have Ja:p∉(cy (λ_=>most) (ls.take j)).map (·.1):=by rw[qT];exact ib nd OS
  refine{_,rfl,_,rfl,_,rfl,a,_,rfl,jG.k (k:=wak p) h3 (by rw[ja];unfold cy;rw[wa0,wad];exact bg (by lia)),?_};refine{_,rfl,?_,λc O e hc=>by rw[af hc];exact C c O e hc};rw[a7,qP Ja,qA];unfold cy;rw[wai];rfl
 rintro σ u ⟨v6,rfl,h3,C⟩;rw[wa0,waH]at h3;have UC:=C _ _ h2 I;have s3:a8 H u:=λc O e=>C _ _ (s2 _ _ e) (ag e t);have UJ:∀m∈G,m.2≠a:=λm r z=>by have:=R m r;rw[z,M]at this;cases this
 have Sl:∀m∈G,u m.2=some (.lst (((aU g v ss ls n m.1).map (·.2)).map V.str)):=λm r=>C _ _ (R m r) (UJ m r);clear C h2 M R er h1 l Wk J b
 refine{λq σ H4=>∃(a:Addr) (f:Str->Int) (v6 v7:Option V),q=(ls.map λp=>(f p).toNat).sum/\σ=[some (.ref x),some (.int many),some (.int (n:Int)),some (.int most),some (.ref d),some (.ref a),v6,v7]/\a8 u H4/\H a=none/\H4 a=some (.dK (bH (cy f ls)))/\(∀p∈ls,0<=f p)/\(∀p∈ls,f p<=most)/\(∀h:Str->Int,(∀p∈ls,h p<=most)->G9 g v ss ls many n h->∀p∈ls,h p<=f p),
  {_,a,λ_=>most,v6,none,rfl,rfl,a8.refl _,t,h3,λ_ _=>Wi,λ_ _=>wfa _,λh hh _ p hp=>hh p hp},?_}
 rintro q σ H4 ⟨a,f,v6,v7,rfl,rfl,s4,t,h4,S,Wl,Wm⟩;refine{true,rfl,eB ?_};refine{λσ' H'=>∃(dl:Addr) (v6 v7:Option V),σ'=[some (.ref x),some (.int many),some (.int (n:Int)),some (.int most),some (.ref d),some (.ref dl),v6,v7]/\a8 u H'/\H dl=none/\H' dl=some (.dK (bH (cy (lV g v ss ls many n f) ls)))/\¬∀p∈ls,lV g v ss ls many n f p=f p,?_,?_}
 .rintro σ' H' ⟨dl,v6,v7,rfl,s',T,h',BU⟩;exact{_,NI Z S BU,dl,_,_,_,rfl,rfl,s',T,h',HL Z S,λp hp=>we8 (HK many n f p) (Wl p hp),λh hh D=>EV Z D (Wm h hh D)}
 .refine{_,rfl,_,rfl,_,rfl,d,a,many,n,o,G,f,g,v,ss,ls,rfl,s4 _ _ UC,ek,λm r=>s4 _ _ (Sl m r),by lia,nd,CL,Z,rb,.inl h4,λdl H5 s5 T h5=>?_};have Wn:=s5 _ _ h4;refine{_,rfl,_,rfl,dl,a,_,_,rfl,rfl,.inl h5,.inl Wn,uR _,uR _,_,rfl,?_};refine o7 (λhe=>?_) (λhe=>?_)
  .have e:=Mo.mp he;exact{_,rfl,k a f H5 ((s3.trans s4).trans s5) t Wn {S,Wl,Ku Z e,Wm}}
  .exact{_,rfl,dl,_,_,rfl,s4.trans s5,none_of s3 (none_of s4 T),h5,λe=>he (Mo.mpr e)}
theorem mQ(L:Lk K mg):aS P w K mg base cO 5 L.nE L.nN ["band","many","wide","weights"] (KO K L.aA L.aB):=by
 refine L.iX.F.d8 (N:=["band","many","wide","weights","homes","lines","place","blocks"]) (λgx A outer s H vs Q E nd hr h=>?_);obtain⟨x,d,many,n,m,f,g,u,ss,ls,rfl,B,E7,E6,E5,Je,hd,hw,k⟩:=h;have hu:=eT hr
 refine{_,(a6 (bj (au (gw L) L.fS (a9 (pv 0) (a9 (pv 1) (aM (pv 2))))))
  (a6 (ai (i:=4) (cn rfl (aw ["weights"] [3]) (aP (ie (pv 0) L.aI.cl L.iQ (kn L))) (λ_ _ _ _ _ _=>gv (d4 lI (d7 hu (pv 1) (pv 0) (λ_ _=>rfl)) ao)) (λ_ _ _ _ _ _=>(pv 0))))
  (a6 (ai (i:=5) (bY dN))
  (a6 (forA (aP (pv 4)) (ax (i:=6)) (a6 (ai (i:=7) (au (mP L) L.iW (a9 (pv 0) (a9 (pv 6) (aM (pv 2))))))
  (ae (bj (gB waL waP waT cm (pv 5) (aM (eV rfl (aw ["homes"] [4]) (aw ["homes"] [4]) ⋯ (aP (pv 7)) (λ_ _ _ _ _ _=>gv (fD (i3 (K:=K) rfl) (pv 1) (pv 2) rfl)) (λ_ _ _ _ _ _=>(dP (a9 (pv 0) (aM (Hf (K:=K) rfl waL wd9 wg1 (F5 (K:=K) rfl) (pv 2) (aM (pv 1))))))))))))))
  (ae (ay (mS L.vY (fX L) (hr.mono ⋯) rfl L.zx L.eI.b .nil oR (a9 (pv 4) (a9 (cn rfl (aw ["weights"] [3]) (aP (pv 4)) (λ_ _ _ _ _ _=>b8) (λ_ _ _ _ _ _=>(d7 hu (pv 1) (pv 0) (λ_ _=>rfl)))) (aM (pv 5))))))))))),?_}
 ac_rfl
 obtain⟨ra,rb,rc,rd,re⟩:=id Je
 have JF:g.length^n<=64:=by
  rw[war]at re;have:((g.length^n:Nat):Int)<=64:=by rw[wdT];exact re
  lia
 have CL:ls.length<=900:=wal B.lv.sub.length_le E5;refine{_,rfl,_,rfl,_,rfl,x,many,n,g,u,ss,ls,rfl,B,E6,Je,?_};obtain⟨⟨dx,b,d0,q,mv,h1,h2,h3,h4,h5,h6⟩,pm,_,_⟩:=id B;refine{_,rfl,x,dx,_,rfl,h1,Cg _ _ _ _ ∅ ∅ ∅ ∅,x,g,u,ss,ls,rfl,B,λlv H1 s1 f1 hv=>?_};refine{lv,rfl,{_,aH.of hv},λS OU=>?_};refine dJ (λv=>match v with |.str p=>decide (0<f p) |_=>false) (λv=>v) (aK K lv (ls.map V.str)) OU (by rw[wa0];exact aq (by lia)) (λH' s'=>aH.of (s' _ _ hv)) (λz J Q' hz s2 Y=>?_) (λz J Q' hz _ s2 Y=>{_,rfl,Y J (a8.refl _)}) (λJ s2 hh=>?_)
 .obtain⟨p,hp,rfl⟩:=wab.mp hz;have g3:=ee.rd (k:=(wak p:Key)) (hd.same (s1.trans s2));rw[eC,hw p hp]at g3;have q2:Q' (decide (0<f p)) J:=Y J (a8.refl _);exact{_,rfl,_,rfl,d,_,rfl,g3,_,_,rfl,rfl,_,rfl,q2}
 have Zr:((ls.map V.str).filter (λv=>match v with |.str p=>decide (0<f p) |_=>false)).map (λv=>v)=(av ls f).map V.str:=by
  rw[we9,weY];rfl
 rw[Zr]at hh;have Wo:(av ls f).length<=900:=wal (wb6 _ _) CL;have Rb:∀p∈av ls f,p∈ls:=λp hp=>(wau.mp hp).1;have JG:=s1.trans s2;refine{waq _,λC D=>?_};have sb:a8 J (upd J C (.lst [])):=a8.upd D;have Z:(upd J C (.lst [])) C=some (.lst []):=a7;generalize upd J C (.lst [])=Hb at sb Z;have Zt:S≠C:=ag hh D
 refine{_,rfl,S,rfl,{_,aH.of (sb _ _ hh)},dG (K:=K) (a:=S) (xs:=(av ls f).map V.str) (λj σ H3=>∃(v6 v7:Option V) (as:List V),σ=[some (.ref x),some (.int many),some (.int (n:Int)),some (.ref d),some (.ref S),some (.ref C),v6,v7]/\H3 C=some (.lst as)/\(∀c o,Hb c=some o->c≠C->H3 c=some o)/\bu K (aL Hb H3) (((av ls f).take j).map λp=>bV (gn g u ss ls n (av ls f) p)) as)
  {none,none,[],rfl,Z,λc o e _=>e,rfl} (λj σ H3 _ {_,_,_,_,_,kk,_}=>aH.of (kk _ _ (sb _ _ hh) Zt)) ?_ ?_}
 .rintro j y σ H3 hy ⟨v6,v7,as,rfl,UK,kk,hR⟩;obtain⟨p,OS,rfl,hj,D7,qA⟩:=gE hy;have M:a8 J H3:=λc o e=>kk _ _ (sb _ _ e) (ag e D);have B3:=B.same (JG.trans M);refine{_,rfl,_,rfl,_,rfl,x,p,n,g,u,ss,ls,rfl,B3,Rb p D7,by lia,by lia,E7,E6,λlb rb T G f4 R4=>?_};have I:=G _ _ UK;have Mz:=gm g u ss ls n p
  have Sn:as.length=j:=by
   rw[hR.len,wa0,wad]
   lia
  refine{_,rfl,.inl {rfl,_,aH.of I},_,rfl,lb,rfl,{_,aH.of R4.l},λlc Lv=>?_};have O:T S=some (.lst ((av ls f).map V.str)):=G _ _ (M _ _ hh);refine jl (prs:=(aU g u ss ls n p).map oX) (λq=>oP q.2 ((av ls f).map V.str)) (λq=>.tup [.at q.1,.at (.int (match q.2 with |.str e=>((av ls f).idxOf e:Nat) |_=>0))]) (aK K lb (rb.map V.ref)) (by rw[wa0,wa0,R4.len]) (λi q U=>?_) Lv (by rw[wa0,R4.len];exact aq (by lia)) (λH' s'=>aH.of (s' _ _ R4.l)) (λq R Q' U X Y=>?_) (λq R Q' U Zu X Y=>?_) (λR X r5=>?_)
  .have hi:i<rb.length:=by have:=(wa6.mp U).1;rw[wa0,<-R4.len]at this;exact this
   rw[wa3]at U
   cases e:(aU g u ss ls n p)[i]? with
   |none=>rw[e]at U;cases U
   |some z=>
    rw[e]at U;cases U;refine{rb[i],by rw[wa3,wa1 hi];rfl,g8.of (R4.t.2 i rb[i] (lQ z) (wa1 hi) (by rw[wa3,e];rfl))}
  .obtain⟨z,hz,rfl⟩:=wab.mp U;exact{_,rfl,_,rfl,S,_,rfl,.inl (aH.of (X _ _ O)),rfl,fi _,_,rfl,Y R (a8.refl _)}
  .obtain⟨z,hz,rfl⟩:=wab.mp U
   have hm:z.2∈av ls f:=by
    have:oP (.str z.2) ((av ls f).map V.str)=true:=Zu;rw[j4]at this;exact of_decide_eq_true this
   obtain⟨i1,i2⟩:=qQ hm;refine{_,rfl,_,rfl,.inl {rfl,_,aH.of (X _ _ O)},_,rfl,S,av ls f,z.2,(av ls f).idxOf z.2,rfl,rfl,aH.of (X _ _ O),by lia,i1,i2,by show 2<=sizeLine;decide,λr hr=>?_};exact Y _ _ (a8.upd hr) (lW hr (z.1,(av ls f).idxOf z.2))
  have el:((((aU g u ss ls n p).map oX).filter λq=>oP q.2 ((av ls f).map V.str)).map λq=>jE.tup [.at q.1,.at (.int (match q.2 with |.str e=>((av ls f).idxOf e:Nat) |_=>0))])=(gn g u ss ls n (av ls f) p).map kC:=by
   unfold gn;rw[weY,wah,wah]
   have ep:((λq:V×V=>oP q.2 ((av ls f).map V.str)) ∘ oX)=λq:Str×Str=>decide (q.2∈av ls f):=by
    funext q;exact j4 q.2 _
   rw[ep];rfl
  rw[el]at r5;refine{C,_,_,rfl,rfl,X _ _ I,by rw[Sn];exact wbg (show j<=900 by lia) (by rw[wcg];decide),?_};have Wq:=G.trans X;have Ws:=X _ _ I;have kp:∀c o,R c=some o->c≠C->(upd R C (.lst (as++[.ref lc]))) c=some o:=λc o e hc=>by rw[af hc];exact e
  refine{_,_,as++[.ref lc],rfl,a7,λc o e hc=>kp _ _ (Wq _ _ (kk c o e hc)) hc,?_};rw[qA,wai];refine gY (bu.same ((hV Wq).trans (bL Z kp)) _ _ hR) ?_
  have old:a8 (aL T R) (aL Hb R):=λc o e=>by
   unfold aL at e ⊢
   cases q:Hb c with
   |none=>
    cases q2:T c with
    |none=>rw[q2]at e;exact e
    |some z=>rw[q2]at e;cases e
   |some z=>
    by_cases hc:c=C
    .rw[hc,I]at e;cases e
    .rw[G _ _ (kk _ _ q hc)]at e;cases e
  exact bK.same (old.trans (bL Z kp)) _ _ r5
 .rintro σ H3 ⟨v6,v7,as,rfl,UK,kk,hR⟩;rw[wa0,waH]at hR;have M:a8 J H3:=λc o e=>kk _ _ (sb _ _ e) (ag e D);have wu:=JG.trans M;have UL:=M _ _ hh;refine{_,rfl,_,rfl,S,rfl,{_,aH.of UL},λlw MA=>?_};refine comp_map (K3 f) (aK K S ((av ls f).map V.str)) MA (by rw[wa0];exact aq (by lia)) (λH' s'=>aH.of (s' _ _ UL)) (λz T Q' hz G Y=>?_) (λT G Rc=>?_)
  .obtain⟨p,hp,rfl⟩:=wab.mp hz;have g3:=ee.rd (k:=(wak p:Key)) (hd.same (wu.trans G));rw[eC,hw p (Rb p hp)]at g3;exact{_,rfl,_,rfl,d,_,rfl,g3,Y T (a8.refl _)}
  rw[qL]at Rc;have I:=G _ _ UK;have Zv:=G _ _ UL;refine{_,rfl,λy dy ny UM Zw=>?_};have sm:a8 T (upd (upd T dy (.own y)) y (.ins L.aB dy [])):=fm ny UM;refine{y,dy,.ref S,.ref lw,.ref C,av ls f,(av ls f).map f,bD g u ss ls n (av ls f),rfl,a7,pk (sm _ _ Zv),jg (sm _ _ Rc),?_,by lia,by rw[wa0];lia,by unfold bD;rw[wa0];lia,?_,λa' b' c' R UN r1 r2 r3 Zx=>{rfl,?_}}
  .have Zy:bu K T ((av ls f).map λp=>bV (gn g u ss ls n (av ls f) p)) as:=bu.same ((bI _ _).trans G) _ _ hR;refine{C,as,rfl,.inl (sm _ _ I),?_}
   have e:(bD g u ss ls n (av ls f)).map bV=(av ls f).map λp=>bV (gn g u ss ls n (av ls f) p):=by
    unfold bD;rw[wah];rfl
   rw[e];exact bu.same sm _ _ Zy
  .intro l hl;obtain⟨p,_,rfl⟩:=wab.mp hl;have:=Cr g u ss ls n (av ls f) p
   lia
  .have X:a8 T R:=λc o e=>Zx _ _ (sm _ _ e) (ag e ny);refine k y R (wu.trans (G.trans X)) ?_;have UO:H y=none:=none_of (wu.trans G) ny;have nw:=λ(d:jE) (v:V) (r:bK K (aL _ R) d v)=>bK.same (eF ((wu.trans G).trans sm)) d v r;exact{dy,a',b',c',bT UO UN,nw _ _ r1,nw _ _ r2,nw _ _ r3}
theorem zD(L:Lk K mg):aS P w K mg base cO 1 L.sD L.sS ["sheet"] (O0 K L.aB):=by
 have T:=L.T;refine L.t8.F.d8 (N:=["sheet","heaviest","desk","line","number","step"]) (λgx A outer s H vs Q E nd hr h=>?_);obtain⟨x,hs,g,b,rfl,S,zm,he,BU,hex,k⟩:=h
 refine{_,(a6 (ai (i:=1) (aT (Ez rfl) (by rfl) T.max Hx (aM (aC (pv 0) rfl))))
  (a6 (forA (jK (by rfl) T.enum (aM (aC (pv 0) rfl))) (dm rfl (aN (ax (i:=2)) (aN (ax (i:=3)) cA))) (ae (forA (jK (by rfl) T.enum (aM (pv 3))) (dm rfl (aN (ax (i:=4)) (aN (ax (i:=5)) cA))) (ae (bA (PW.pt (BE (d4 hZ (aW b5 (aC (pv 0) rfl) (pv 2) (λ_ _=>rfl)) (pv 1)) (yH (d4 ni (aW b5 (aC (pv 0) rfl) (aW eQ (pv 5) ao (λ_ _=>rfl)) (λ_ _=>rfl)) (pv 1))))) (ae (ay (dP (a9 (pv 2) (aM (pv 4)))))) aO)))))
  (ae (ay fC)))),?_}
 ac_rfl
 obtain⟨dx,ah,bw,cl,hx,rh,JE,rl⟩:=id S;obtain⟨Wt,eb,hb⟩:=ia JE;cases eb;obtain⟨R9,xs,ec,hc,R⟩:=id rl;cases ec;have xl:xs.length=b.length:=by rw[R.len,wa0]
 refine{_,rfl,x,L.aB,dx,_,_,rfl,hx,L.az.cl,L.az.df,cG ah bw cl,bw,g,rfl,hb,BU,λM hM hT=>?_};have U:∀n:Nat,n<g.length->ui (g.map V.int) (n:Int)=some (.int (g.getD n 0)):=λn hn=>bz (by rw[wa3,wa1 hn,wa4,wa1 hn];rfl);refine{_,rfl,x,L.aB,dx,_,_,rfl,hx,L.az.cl,L.az.cP,bO ah bw cl,cl,xs,rfl,.inl hc,lJ (K:=K) (a:=cl) (xs:=xs) (λi σ X=>a8 H X/\(∃v2 v3 v4 O,σ=[some (.ref x),some (.int M),v2,v3,v4,O])/\∀d f c q,Down g b M d f c q->i<=d) {a8.refl _,⟨none,none,none,none,rfl⟩,λ_ _ _ _ _=>waq _} (λi σ X _ p=>p.1.seq (.inl hc)) ?_ (λσ X p=>?_)}
 .rintro d y σ X T hy ⟨s2,⟨v2,v3,v4,O,rfl⟩,C⟩ Zz;have hd:d<xs.length:=(wa6.mp hy).1;have Jb:d<b.length:=by lia
  have Y:b[d]?=some (b.getD d []):=by rw[wa4,wa1 Jb];rfl
  obtain⟨v,Z,rd⟩:=R.at (i:=d) (d:=bV (b.getD d [])) (by rw[wa3,Y];rfl);rw[hy]at Z;cases Z;obtain⟨a,B,rfl,hS,Rf⟩:=cS rd;have Wu:B.length=(b.getD d []).length:=by rw[Rf.1,wa0,wa0]
  have UP:∀q∈b.getD d [],q.2<g.length:=he _ (wa8 Y);have s3:=s2.trans (a8.upd (o:=.tup [.int (d:Nat),.ref a]) Zz);refine{T,_,rfl,g8.of a7,rfl,_,_,rfl,_,_,rfl,rfl,?_};generalize upd X T (.tup [.int (d:Nat),.ref a])=H3 at s3;refine{_,rfl,a,_,rfl,s3.seq hS,lJ (K:=K) (a:=a) (xs:=B.map V.ref) (λi σ H4=>a8 H H4/\(∃v4 O,σ=[some (.ref x),some (.int M),some (.int (d:Int)),some (.ref a),v4,O])/\∀f c q,Down g b M d f c q->i<=f) {s3,{_,_,rfl},λ_ _ _ _=>waq _} (λi σ H4 _ p=>p.1.seq hS) ?_ (λσ H4 p=>?_)}
  .rintro i y σ H4 T2 G ⟨s4,⟨v4,O,rfl⟩,j⟩ ZA;have hi:i<B.length:=by have:=(wa6.mp G).1;rwa[wa0]at this
   have I:i<(b.getD d []).length:=by lia
   rw[wa3,wa1 hi]at G;cases G;have Rg:H B[i]=some (.tup [.str (b.getD d [])[i].1,.int ((b.getD d [])[i].2:Int)]):=Rf.2 i B[i] (iE (dh (b.getD d [])[i])) (wa1 hi) (by rw[wa3,wa3,wa1 I];rfl);have J:(b.getD d [])[i]?=some (b.getD d [])[i]:=wa1 I;have My:=UP _ (waK I);generalize (b.getD d [])[i]=q at Rg J My;have m:=s4.trans (a8.upd (o:=.tup [.int (i:Nat),.ref B[i]]) ZA);refine{T2,_,rfl,g8.of a7,rfl,_,_,rfl,_,_,rfl,rfl,?_};generalize upd H4 T2 (.tup [.int (i:Nat),.ref B[i]])=H5 at m
   have M4:(¬∃c q,Down g b M d i c q)->∀f c q,Down g b M d f c q->i+1<=f:=λhn f c q hD=>by
    have:=j f c q hD
    by_cases e:f=i
    .subst e;exact absurd ⟨c,q,hD⟩ hn
    .lia
   refine{_,rfl,x,L.aB,dx,_,_,rfl,m _ _ hx,L.az.cl,L.az.df,cG ah bw cl,_,rfl,bw,_,_,_,rfl,rfl,m.seq hb,U d (by lia),_,rfl,?_}
   by_cases r:g.getD d 0=M
   .refine{rfl,true,congrArg V.bl (decide_eq_true (by rw[r])),eB ?_};refine{_,rfl,x,L.aB,dx,_,_,rfl,m _ _ hx,L.az.cl,L.az.df,cG ah bw cl,_,rfl,B[i],_,_,_,rfl,rfl,g8.of (m _ _ Rg),rfl,bw,_,_,_,rfl,rfl,m.seq hb,U q.2 My,_,rfl,_,_,rfl,rfl,?_}
    by_cases u:g.getD q.2 0<M
    .refine{true,congrArg V.bl (decide_eq_true u),eB ?_};refine{_,rfl,_,rfl,by show 2<=sizeLine;decide,λt ht=>?_};exact k t M d i _ q _ (m.trans (a8.upd ht)) a7 ⟨hM,hT,Y,J,r,u⟩
    .refine{false,congrArg V.bl (decide_eq_false u),cq ?_};refine{m,{_,_,rfl},M4 ?_};rintro⟨c,q',D⟩;have e1:=D.l;rw[Y]at e1;cases e1;have e2:=D.s;rw[J]at e2;cases e2;exact u D.lt
   .refine{rfl,false,congrArg V.bl (decide_eq_false λz=>r (V.int.inj z)),cq ?_};refine cq {m,{_,_,rfl},M4 ?_};rintro⟨c,q',D⟩;exact r D.e
  .obtain⟨s4,⟨v4,O,rfl⟩,j⟩:=p;refine{s4,{_,_,_,_,rfl},λd' f c q D=>?_};have:=C d' f c q D
   by_cases e:d'=d
   .subst e;have:=j f c q D;have e1:=D.l;rw[Y]at e1;cases e1;have:=(wa6.mp D.s).1;rw[wa0]at *
    lia
   .lia
 .obtain⟨s2,_,C⟩:=p;obtain⟨d,i,c,q,D⟩:=hex M hM hT;have:=C d i c q D;have:=(wa6.mp D.l).1
  lia
theorem lA(L:Lk K mg):aS P w K mg base cO 4 L.md L.mB ["sheet"] (IA K L.aB):=by
 refine L.iw.F.d8 (N:=["sheet"]) (λB A outer s H vs Q E nd C h=>?_);obtain⟨x,D,G,j,rfl,S,n1,I,J,M,k⟩:=h;refine{_,(ae (ay (mS L.vY (fX L) (C.mono ⋯) rfl L.zx L.eI.b .nil oR (a9 (aC (pv 0) rfl) (a9 (aC (pv 0) rfl) (aM (aC (pv 0) rfl))))))),?_}
 ac_rfl
 obtain⟨l,g,bw,cl,m,O,n,R⟩:=id S;refine{_,rfl,x,L.aB,l,_,_,rfl,m,L.az.cl,L.az.fM,fj g bw cl,_,rfl,x,L.aB,l,_,_,rfl,m,L.az.cl,L.az.df,cG g bw cl,_,rfl,x,L.aB,l,_,_,rfl,m,L.az.cl,L.az.cP,bO g bw cl,?_};intro y i p q T;have sm:a8 H (upd (upd H i (.own y)) y (.ins L.aB i [])):=fm p q;refine{y,i,.ref g,.ref bw,.ref cl,D,G,j,rfl,a7,bK.same sm _ _ O,bK.same sm _ _ n,bK.same sm _ _ R,n1,I,J,M,λU X Y a d Z q2 q3 f=>{rfl,?_}};have t:a8 H a:=λc o e=>f _ _ (sm _ _ e) (ag e p);have u:=λ(z:jE) (v:V) (r:bK K (aL _ a) z v)=>bK.same (eF sm) z v r;exact k y a t {i,U,X,Y,bT p d,u _ _ Z,u _ _ q2,u _ _ q3}
theorem rq(L:Lk K mg):aS P w K mg base cO 5 L.gL L.kQ ["self","weights","splits","kept","last"] (KR K L.aR L.aB):=by
 have T:=L.T;refine L.lq.F.d8 (N:=["self","weights","splits","kept","last"]) (λgx A outer s H vs Q E nd hr h=>?_);obtain⟨x,f,d,z,u,v,m,p,Y,hs,ws,Z,rfl,D,hd,ZB,UG,S,n1,n2,n3,n4,n5,k⟩:=h
 refine{_,(a6 (d1 (pv 0) (bB BJ (by rfl) T.dict QD (aM (pv 1))) rfl)
  (a6 (d1 (pv 0) (II rfl (aw [] []) (aw [] []) (aw [] []) {⋯,⋯,⋯} (aP (pv 2)) (λ_ _ _ _ _ _=>b8) (λ_ _ _ _ _ _=>(dP (a9 (pv 0) (a9 (bB (wC (K:=K) rfl) (by rfl) T.list i9 (aM (pv 1))) (aM (pv 2))))))) rfl)
  (a6 (d1 (pv 0) (bB dk (by rfl) T.list i9 (aM (pv 3))) rfl)
  (ae (d1 (pv 0) (au (lA L) L.iw (aM (pv 4))) rfl))))),?_}
 ac_rfl
 obtain⟨c,rfl,hc⟩:=ia UG;obtain⟨b,xs,rfl,hb,Mz⟩:=ZB;have xl:xs.length=p.length:=by rw[Mz.len,wa0]
 have G:∀{d:Addr} {ys:List V} {H':Hp},aH K H d ys->(∀b o,H b=some o->b≠x->H' b=some o)->aH K H' d ys:=λhS kp=>(eX kp).seq (yE D hS);refine{_,rfl,d,_,rfl,hd,λa I=>?_};have B:x≠a:=ag D I;refine{_,rfl,x,L.aR,f,[],rfl,by rw[af B];exact D,L.dE.cl,L.dE.df,(show 0<1000 by decide),?_};rw[Qq];have k1:∀d o,H d=some o->d≠x->(upd (upd H a (.dK (bH m))) x (.ins L.aR f (rV a))) d=some o:=λd o e hd=>by rw[af hd];exact a8.upd I _ _ e
 have x1:(upd (upd H a (.dK (bH m))) x (.ins L.aR f (rV a))) x=some (.ins L.aR f (rV a)):=a7;have a1:(upd (upd H a (.dK (bH m))) x (.ins L.aR f (rV a))) a=some (.dK (bH m)):=by rw[af B.symm,a7]
 generalize upd (upd H a (.dK (bH m))) x (.ins L.aR f (rV a))=H1 at k1 x1 a1 ⊢;have UQ:=bu.same (eX k1) _ _ (bu.off D _ _ Mz);have Ww:aH K H1 b xs:=G (.inl hb) k1;refine{_,rfl,b,rfl,{_,Ww},λg IM=>?_};refine J1 (K:=K) (p.map zh) (aK K b xs) IM (aq (by lia)) (by rw[wa0,xl]) (λH' s'=>s'.seq Ww) (λi v dd n hv l U=>?_) (λn U r3=>?_)
 .obtain⟨d',e',r⟩:=UQ.get i v hv;rw[l]at e';cases e';rw[wa3]at l
  cases e:p[i]? with
  |none=>rw[e]at l;cases l
  |some sp=>
   rw[e]at l;cases l;obtain⟨r0,ys,rfl,hT,h2⟩:=r;obtain⟨v1,vs1,rfl,⟨rfl,_⟩,h3⟩:=h2;obtain⟨v2,Z0,rfl,r2,h4⟩:=h3;obtain⟨v3,ZC,rfl,⟨rfl,_⟩,h5⟩:=h4;cases(show ZC=[] from h5);obtain⟨l2,rfl,OV⟩:=ia r2;refine{r0,_,_,_,rfl,g8.of (U _ _ hT),λQ' qq=>?_};refine{_,rfl,_,rfl,l2,_,rfl,.inl (U.seq OV),λl3 J=>?_};refine{_,rfl,by show 3<=sizeLine;decide,λt ht=>?_};have s4:a8 (upd n l3 (.lst ((nI sp.2.1).map V.int))) (upd (upd n l3 (.lst ((nI sp.2.1).map V.int))) t (.tup [.int (sp.1:Int),.ref l3,.int sp.2.2])):=a8.upd ht;refine qq _ _ ((a8.upd J).trans s4) ?_;exact DT (d:=sp.1) (ns:=sp.2.1) (w:=sp.2.2) (bT (none_of (a8.upd J) ht) a7) (bT J (s4 _ _ a7))
 have nbx:x≠g:=ag x1 IM;have x3:=U _ _ x1;have a3:=U _ _ a1;refine{_,rfl,x,L.aR,f,rV a,rfl,x3,L.dE.cl,L.dE.Ao,(show 1<1000 by decide),?_};rw[Mi];have k3:∀d o,H d=some o->d≠x->(upd n x (.ins L.aR f (p5 a g))) d=some o:=λd o e hd=>by rw[af hd];exact U _ _ (k1 _ _ e hd)
 have x4:(upd n x (.ins L.aR f (p5 a g))) x=some (.ins L.aR f (p5 a g)):=a7;have a4:(upd n x (.ins L.aR f (p5 a g))) a=some (.dK (bH m)):=by rw[af B.symm];exact a3
 have old:a8 (aL H1 n) (aL H n):=λd o e=>by
  unfold aL at e ⊢
  cases q:H d with
  |none=>
   cases M:H1 d with
   |none=>rw[M]at e;exact e
   |some z=>rw[M]at e;cases e
  |some z=>
   by_cases hd:d=x
   .rw[hd,x1]at e;cases e
   .rw[k1 _ _ q hd]at e;cases e
 have r4:bK K (aL H (upd n x (.ins L.aR f (p5 a g)))) (.lst (p.map zh)) (.ref g):=bK.same (old.trans (bL D λd o e hd=>by rw[af hd];exact e)) _ _ r3;generalize upd n x (.ins L.aR f (p5 a g))=X at k3 x4 a4 r4 ⊢;refine{_,rfl,c,_,rfl,.inl (G hc k3),λj O=>?_};have C:x≠j:=ag x4 O
 have ZD:H j=none:=by
  cases q:H j with
  |none=>rfl
  |some o=>have:=k3 _ _ q C.symm;rw[O]at this;cases this
 refine{_,rfl,x,L.aR,f,p5 a g,rfl,by rw[af C];exact x4,L.dE.cl,L.dE.HN,(show 2<1000 by decide),?_};rw[Ht];have s5:∀d o,X d=some o->d≠x->(upd (upd X j (.lst ((nI Y).map V.int))) x (.ins L.aR f (rW a g j))) d=some o:=λd o e hd=>by rw[af hd];exact a8.upd O _ _ e
 have x5:(upd (upd X j (.lst ((nI Y).map V.int))) x (.ins L.aR f (rW a g j))) x=some (.ins L.aR f (rW a g j)):=a7;have c5:(upd (upd X j (.lst ((nI Y).map V.int))) x (.ins L.aR f (rW a g j))) j=some (.lst ((nI Y).map V.int)):=by rw[af C.symm,a7]
 generalize upd (upd X j (.lst ((nI Y).map V.int))) x (.ins L.aR f (rW a g j))=H5 at s5 x5 c5 ⊢;have k5:∀d o,H d=some o->d≠x->H5 d=some o:=λd o e hd=>s5 _ _ (k3 _ _ e hd) hd
 have S5:cb K L.aB H5 z hs ws Z:=by
  obtain⟨dz,ah,bw,cl,hz,rh,JE,rl⟩:=id S;have ZE:z≠x:=λq=>by rw[q,D]at hz;have:=waf hz;injection this with _ _ M;cases M
  have go:=λ(dd:jE) (v:V) (r:bK K H dd v)=>bK.same (eX k5) dd v (bK.off D dd v r);exact{dz,ah,bw,cl,k5 _ _ hz ZE,go _ _ rh,go _ _ JE,go _ _ rl}
 refine{_,rfl,z,hs,ws,Z,rfl,S5,n1,n2,n3,n4,λy R s6 S6=>?_};refine{_,rfl,x,L.aR,f,rW a g j,rfl,s6 _ _ x5,L.dE.cl,L.dE.HP,(show 3<1000 by decide),?_};rw[DI];have up:∀{Ha:Hp},(∀d o,Ha d=some o->d≠x->(upd R x (.ins L.aR f (ve a g j y))) d=some o)->a8 (aL H Ha) (aL H (upd R x (.ins L.aR f (ve a g j y)))):=λh=>bL D h;have u6:∀d o,R d=some o->d≠x->(upd R x (.ins L.aR f (ve a g j y))) d=some o:=λd o e hd=>by rw[af hd];exact e
 have u4:∀d o,X d=some o->d≠x->(upd R x (.ins L.aR f (ve a g j y))) d=some o:=λd o e hd=>u6 _ _ (s6 _ _ (s5 _ _ e hd)) hd
 have UR:a8 (aL H5 R) (aL H R):=λd o e=>by
  unfold aL at e ⊢
  cases q:H d with
  |none=>
   cases M:H5 d with
   |none=>rw[M]at e;exact e
   |some z=>rw[M]at e;cases e
  |some z=>
   by_cases hd:d=x
   .rw[hd,x5]at e;cases e
   .rw[k5 _ _ q hd]at e;cases e
 exact k a g j y _ a7 I (u4 _ _ a4 B.symm) (bK.same (up u4) _ _ r4) (jg (bT ZD (u6 _ _ (s6 _ _ c5) C.symm))) (S6.same (UR.trans (up u6))) λd o e hd=>u6 _ _ (s6 _ _ (k5 _ _ e hd)) hd
theorem wZ(L:Lk K mg):aS P w K mg base cO 5 L.pJ L.pZ ["self"] (Fj K L.aR L.aB):=by
 refine L.qt.F.d8 (N:=["self"]) (λe A outer s H u Q E nd v h=>?_);obtain⟨x,m,f,B,g,i,d,rfl,⟨j,a,b,c,z,l,ha,C,hc,S⟩,n1,n,o,p,k⟩:=h;refine{_,(ae (ay (au (lA L) L.iw (aM (aC (pv 0) rfl))))),?_}
 ac_rfl
 exact{_,rfl,x,L.aR,j,_,_,rfl,l,L.dE.cl,L.dE.HP,C7 a b c z,z,g,i,d,rfl,S,n1,n,o,p,λy q r t=>k y q r t}
theorem cJ(L:Lk K mg):aS P w K mg base cO 3 L.kJ L.kT ["self"] (IC L.ak L.aA):=by
 refine L.cx.F.d8 (N:=["self"]) (λe A outer s H l Q E nd m h=>?_);obtain⟨x,f,c,fs,n,g,bw,ss,ls,rfl,d,i,j,B,n1,oE,a,b,k⟩:=h;refine{_,(ae (ay (au (rp L) L.kX (a9 (aC (pv 0) rfl) (aM (aC (pv 0) rfl)))))),?_}
 ac_rfl
 exact{_,rfl,x,L.ak,c,_,_,rfl,d,L.aj.cl,L.aj.vE,i,_,rfl,x,L.ak,c,_,_,rfl,d,L.aj.cl,L.aj.rj,j,f,n,g,bw,ss,ls,rfl,B,n1,oE,a,b,k}
theorem x9(L:Lk K mg):aS P w K mg base cO 2 L.pM L.qc ["data","many"] HQ:=by
 have T:=L.T;refine L.qo.F.d8 (N:=["data","many","number","thing"]) (λg A outer s H t Q E nd u h=>?_);obtain⟨a,j,many,rfl,ha,c,k⟩:=h
 refine{_,(a6 (bA (eh (cC (aT cV (by rfl) T.Lc z8 (a9 (pv 0) (aM (gU (v:=.ty "list") (by rfl) T.list i9 rfl)))))) d9 aO)
  (ae (forA (jK (by rfl) T.enum (aM (pv 0))) (dm rfl (aN (ax (i:=2)) (aN (ax (i:=3)) cA))) (ae (bA (PW.pt (ky (eh (cC (au (mO L) L.kj (aM (pv 3))))) (ky (d4 ni (pv 3) ao) (og (d4 GF (pv 3) (pv 1)))))) d9 aO))))),?_}
 ac_rfl
 refine{_,rfl,_,_,_,true,rfl,iD.lst ha,rfl,true,rfl,cq ?_};refine{_,rfl,a,_,rfl,aH.of ha,lJ (K:=K) (a:=a) (xs:=(nI j).map V.int) (λi σ b=>a8 H b/\∃d e,σ=[some (.ref a),some (.int many),d,e]) {a8.refl _,none,none,rfl} (λi σ b _ p=>p.1.seq (aH.of ha)) ?_ (λσ b p=>k b p.1)};rintro i x σ b T l ⟨m,d,e,rfl⟩ q;obtain⟨n,hn,rfl⟩:=vc (wa8 l);have r:=c n hn;refine{T,_,rfl,g8.of a7,rfl,_,_,rfl,_,_,rfl,rfl,?_};have f:=m.trans (a8.upd (o:=.tup [.int (i:Nat),.int (n:Int)]) q);generalize upd b T (.tup [.int (i:Nat),.int (n:Int)])=y at f;refine{_,rfl,(n:Int),rfl,true,rfl,cq ?_};refine{_,rfl,_,_,rfl,rfl,false,congrArg V.bl (decide_eq_false (by lia)),cq ?_};refine{_,rfl,_,rfl,_,_,rfl,rfl,false,congrArg V.bl (decide_eq_false (by lia)),cq ?_};exact{f,_,_,rfl}
theorem xa(L:Lk K mg):aS P w K mg base cO 1 L.pA L.pO ["pairs","ends"] (KB K):=by
 have T:=L.T;refine L.qf.F.d8 (N:=["pairs","ends","wanted","end","found","desk"]) (λgx A outer s H vs Q E nd hr h=>?_);obtain⟨l,b,x,ps,B,rfl,hL,hT,hE,pl,el,k⟩:=h;have f:=eT hr
 refine{_,(a6 (ai (i:=2) da)
  (a6 (forA (aP (pv 1)) (ax (i:=3)) (ae (dU f (pv 2) (pv 3) gz rfl)))
  (a6 (ai (i:=4) da)
  (a6 (forA (aP (pv 0)) (dm rfl (aN (ax (i:=5)) (aN (ax (i:=3)) cA))) (ae (bA (yG (GX f (pv 3) (pv 2))) (ae (dU f (pv 4) (pv 5) gz rfl)) aO)))
  (ae (ay (bB (jJ rfl) (by rfl) T.list i9 (aM (pv 4))))))))),?_}
 ac_rfl
 refine λm hw=>?_;have X:x.length=ps.length:=by rw[hT.1,wa0]
 refine{_,rfl,b,rfl,{_,(a8.upd hw).seq hE},dG (K:=K) (a:=b) (xs:=(nI B).map V.int) (λi σ t=>a8 H t/\(∃n,t m=some (.dK (dB n))/\(∀e,e∈n↔e∈B.take i)/\n.length<=i)/\∃u,σ=[some (.ref l),some (.ref b),some (.ref m),u,none,none]) {a8.upd hw,{[],a7,λe=>by rw[wdB],waa _},none,rfl} (λi σ t _ q=>q.1.seq hE) ?_ ?_}
 .rintro i y σ t j ⟨J,⟨n,M,f,ul⟩,u,rfl⟩;have hi:i<B.length:=by have:=(wa6.mp j).1;rwa[wa0,bR]at this
  rw[yX (wa1 hi)]at j;cases j;obtain⟨Y,Z,e2,e3⟩:=IG B[i] n;refine{_,rfl,_,rfl,m,_,rfl,jG.k (k:=wb4 (B[i]:Int)) M (bg (by unfold dB;rw[wa0];lia)),?_};rw[Z];refine{λc o e=>by rw[af (ag e hw)];exact J _ _ e,{Y,a7,λe=>?_,by lia},_,rfl};rw[e2,f,waM,wa1 hi,wax];simp
 .rintro σ t ⟨J,⟨n,M,f,ul⟩,u,rfl⟩;rw[wa0,bR,waH]at f;refine λfd O=>?_;have ZF:m≠fd:=ag M O;have s3:=J.trans (a8.upd (o:=.dK []) O);have h3:=a8.upd (o:=.dK []) O _ _ M;have g3:(upd t fd (.dK [])) fd=some (.dK (dB [])):=a7;have ff:=none_of J O;generalize upd t fd (.dK [])=H3 at s3 h3 g3;refine{_,rfl,l,rfl,{_,s3.seq hL},dG (K:=K) (a:=l) (xs:=x.map V.ref) (λi σ C=>a8 H C/\C m=some (.dK (dB n))/\(∃r,C fd=some (.dK (dB r))/\(∀d,d∈r↔∃e∈B,(d,e)∈ps.take i)/\r.length<=i)/\∃u v5,σ=[some (.ref l),some (.ref b),some (.ref m),u,some (.ref fd),v5]) {s3,h3,{[],g3,λd=>{(λz=>nomatch z),λ⟨e,_,z⟩=>by rw[wdB]at z;cases z},waa _},_,none,rfl} (λi σ C _ q=>q.1.seq hL) ?_ ?_}
  .rintro i y σ C j ⟨D,R,⟨r,S,hd,dl⟩,u,v5,rfl⟩;have hi:i<x.length:=by have:=(wa6.mp j).1;rwa[wa0]at this
   have G:i<ps.length:=by lia
   rw[wa3,wa1 hi]at j;cases j;have I:H x[i]=some (.tup (jd ps[i])):=hT.2 i x[i] _ (wa1 hi) (by rw[wa3,wa1 G];rfl);have v:ps.take (i+1)=ps.take i++[ps[i]]:=by rw[waM,wa1 G];rfl
   generalize ps[i]=p at I v;refine{x[i],_,rfl,g8.of (D _ _ I),rfl,_,_,rfl,_,_,rfl,rfl,?_};have g:=ee.k (k:=(wb4 (p.2:Int):Key)) R;rw[yY]at g
   by_cases U:p.2∈n
   .rw[if_pos U]at g;obtain⟨QQ,Z,e2,e3⟩:=IG p.1 r;refine{_,rfl,_,rfl,m,_,rfl,g,true,rfl,eB ?_};refine{_,rfl,_,rfl,fd,_,rfl,jG.k (k:=wb4 (p.1:Int)) S (bg (by unfold dB;rw[wa0];lia)),?_};rw[Z];refine{λc o e=>by rw[af (ag e ff)];exact D _ _ e,by rw[af ZF];exact R,{QQ,a7,λd=>?_,by lia},_,_,rfl};rw[e2,hd,v];constructor
    .rintro(⟨e,a,c⟩ |rfl)
     .exact{e,a,waS _ c}
     .exact{p.2,(f _).mp U,waI _ (wao.mpr rfl)}
    .rintro⟨e,a,c⟩;rcases wax.mp c with c |c
     .exact .inl ⟨e,a,c⟩
     .exact .inr (congrArg Prod.fst (wao.mp c))
   .rw[if_neg U]at g;refine{_,rfl,_,rfl,m,_,rfl,g,false,rfl,cq {D,R,{r,S,λd=>?_,by lia},_,_,rfl}};rw[hd,v];constructor
    .rintro⟨e,a,c⟩;exact{e,a,waS _ c}
    .rintro⟨e,a,c⟩;rcases wax.mp c with c |c
     .exact⟨e,a,c⟩
     .have:=congrArg Prod.snd (wao.mp c);exact absurd ((f _).mpr (this ▸ a)) U
  .rintro σ C ⟨D,R,⟨r,S,hd,dl⟩,u,v5,rfl⟩;rw[wa0,X]at hd dl;rw[waH]at hd;refine{_,rfl,fd,_,rfl,S,λy j=>?_};rw[DG];exact k y r _ (D.trans (a8.upd j)) a7 hd dl
theorem fY(L:Lk K mg):aS P w K mg base cO 1 L.jn L.jr ["self","row"] (CA L.aA):=by
 have T:=L.T;refine L.eG.F.d8 (N:=["self","row","number","sign"]) (λm A outer s H z Q E nd C h=>?_);obtain⟨x,r,g,D,ss,ls,rfl,B,n,k⟩:=h;obtain⟨⟨t,b,d,q,G,u,I,J,M,O,R⟩,_,_,_⟩:=id B;refine{_,(ae (forA (A5 (by rfl) T.enum (aM (pv 1))) (dm rfl (aN (ax (i:=2)) (aN (ax (i:=3)) cA))) (ae (bA (fD yK (pv 3) (aC (pv 0) rfl) rfl) d9 aO)))),?_}
 ac_rfl
 refine{_,rfl,r,rfl,xX (λi σ a=>a8 H a/\∃f j,σ=[some (.ref x),some (.str r),f,j]) {a8.refl _,none,none,rfl} ?_ (λσ a p=>k a p.1)};rintro i c σ a T hc ⟨v,f,j,rfl⟩ y;have l:=v.trans (a8.upd (o:=.tup [.int (i:Nat),.str {#[c]}]) y);refine{T,_,rfl,g8.of a7,rfl,_,_,rfl,_,_,rfl,rfl,?_};refine{_,rfl,_,rfl,x,L.aA,t,_,_,rfl,l _ _ u,L.aI.cl,L.aI.pf,jR g b d q,_,_,rfl,rfl,_,rfl,?_}
 have e:(!(wd6 g {#[c]} 0 g.length 1).isEmpty)=true:=by
  have:=DM g c;rw[decide_eq_true (n c (wa8 hc))]at this;exact this
 rw[e];exact cq {l,_,_,rfl}
theorem rx(L:Lk K mg):aS P w K mg base cO 2 L.kG L.kP ["self","row"] (Fm L.aA):=by
 have T:=L.T;refine L.kZ.F.d8 (N:=["self","row","place","number","sign"]) (λI A outer s H X Q E nd J h=>?_);obtain⟨x,r,g,p,ss,ls,rfl,B,t,u,hw,k⟩:=h;obtain⟨⟨v,b,d,q,mv,y,Y,M,O,R,Z⟩,pm,_,_⟩:=id B;have z:("":Str)∈ss:=pm.mem_iff.mpr (bP p);have C:=eT J
 refine{_,(a6 (bj (yi (pv 0) L.aI.cl L.eG (fY L) (aM (pv 1))))
  (a6 (ai (i:=2) dO)
  (a6 (forA (A5 (by rfl) T.enum (aM (pv 1))) (dm rfl (aN (ax (i:=3)) (aN (ax (i:=4)) cA))) (a6 (ai (i:=2) (d7 C (d7 C (aC (pv 0) rfl) (pv 2) (λ_ _=>rfl)) (pv 4) (λ_ _=>rfl)))
  (ae (bA (d4 By (pv 2) fC) d9 aO))))
  (ae (ay (pv 2)))))),?_}
 ac_rfl
 refine{_,rfl,x,v,_,rfl,y,Cg _ _ _ _ ∅ ∅ ∅ ∅,_,rfl,x,r,g,p,ss,ls,rfl,B,t,λH1 S=>?_};refine{_,rfl,r,rfl,xX (λi σ f=>a8 H f/\∃l v4,σ=[some (.ref x),some (.str r),some (.str (lend ss (bZ r i))),l,v4]) {S,none,none,?_} ?_ ?_}
 .rw[take_zero,IU z];rfl
 .rintro i c σ f T hc ⟨m,l,v4,rfl⟩ U;have j:=m.trans (a8.upd (o:=.tup [.int (i:Nat),.str {#[c]}]) U);have n:=t c (wa8 hc);obtain⟨a,ha,V⟩:=gZ (mv:=mv) (k:=lend ss (bZ r i)) (by rw[O];exact pw z _);have D:=ee.k (k:=(wak (lend ss (bZ r i)):Key)) (j _ _ M);rw[V]at D;have e:=R _ ha;dsimp only at e;have G:=ee.k (k:=(wak ({#[c]}:Str):Key)) (j _ _ e);rw[DS n,Lb pm hw (hH (Al r i) u),<-take_snoc hc,hH (Al r (i+1)) u,if_neg (by simp)]at G;refine{T,_,rfl,g8.of a7,rfl,_,_,rfl,_,_,rfl,rfl,?_};refine{_,rfl,x,L.aA,v,_,_,rfl,j _ _ y,L.aI.cl,L.aI.jX,jQ g b d q,_,rfl,d,_,rfl,D,_,rfl,a,_,rfl,G,?_};exact{_,rfl,rfl,_,rfl,cq {j,_,_,rfl}}
 .rintro σ f ⟨m,l,v4,rfl⟩;have:=k f m;rw[<-take_all r]at this;exact{_,rfl,by rw[take_all]at this ⊢;exact this}
theorem tP(L:Lk K mg):aS P w K mg base cO 2 L.m4 L.mr ["self","row"] (Ld L.aA):=by
 refine L.mL.F.d8 (N:=["self","row"]) (λi A outer s H o Q E nd p h=>?_);obtain⟨x,r,g,c,ss,ls,rfl,B,j,hw,k⟩:=h
 refine{_,(a6 (bj (yi (pv 0) L.aI.cl L.eG (fY L) (aM (pv 1))))
  (ae (ay (yI (au (gM L) L.fR (a9 (pv 1) (aM (aC (pv 0) rfl)))))))),?_}
 ac_rfl
 obtain⟨⟨e,b,d,q,t,f,l,u,v,y,z⟩,_,_,_⟩:=id B;refine{_,rfl,x,e,_,rfl,f,Cg _ _ _ _ ∅ ∅ ∅ ∅,_,rfl,x,r,g,c,ss,ls,rfl,B,j,λC a=>?_};exact{_,rfl,_,rfl,x,L.aA,e,_,_,rfl,a _ _ f,L.aI.cl,L.aI.vo,rX g b d q,r,b,c,rfl,aH.of (a _ _ l),hw,λm n=>{_,rfl,k m (a.trans n)}}
theorem zE(L:Lk K mg):aS P w K mg base cO 1 L.sI L.sX ["_law_row","_law_words"] (Iv K):=by
 have T:=L.T;refine L.tq.F.d8 (N:=["_law_row","_law_words"]) (λi A outer s H o Q E nd p h=>?_);obtain⟨r,a,j,rfl,f,hl,k⟩:=h;refine{_,(ae (ay (yI (aT (lM rfl) (by rfl) T.any Hw (aM (cn rfl (aw ["_law_row"] [0]) (aP (pv 1)) (λ_ _ _ _ _ _=>b8) (λ_ _ _ _ _ _=>(dS qG (pv 0) (pv 1) rfl)))))))),?_}
 ac_rfl
 refine{_,rfl,a,rfl,{_,f},λl d=>comp_map (QH r) (aK K a (j.map V.str)) d (by rw[wa0];exact aq ()) (λg e=>e.seq f) (λx m t n _ q=>?_) (λg e b=>?_)}
 .obtain⟨c,_,rfl⟩:=wab.mp n;exact{_,rfl,_,rfl,_,_,rfl,rfl,q m (a8.refl _)}
 .rw[Aq]at b;refine{l,_,rfl,aH.of b,_,rfl,?_};have:=k g e;rw[wdZ];exact this
theorem xc(L:Lk K mg):aS P w K mg base cO 1 L.pN L.qe ["_law_row","_law_words"] (NX K):=by
 have T:=L.T;refine L.qp.F.d8 (N:=["_law_row","_law_words","_law_size","_law_end"]) (λX A outer s H vs Q E nd hr h=>?_);obtain⟨r,a,B,ss,rfl,R,pm,b,Y,S,Z,k⟩:=h
 refine{_,(a6 (forA (FD rfl T.range (a9 (aT (qN rfl) (by rfl) T.min Km (a9 (y8 T.len (pv 0)) (aM ao))) (a9 ao (aM (M5 GU ao))))) (ax (i:=2)) (a6 (ai (i:=3) (b6 et (pv 0) (aV (aD lL (y8 T.len (pv 0)) (pv 2))) cB))
  (ae (bA (cC (aT (lM rfl) (by rfl) T.any Hw (aM (cn rfl (aw ["_law_size","_law_end"] [2,3]) (aP (pv 1)) (λ_ _ _ _ _ _=>b8) (λ_ _ _ _ _ _=>(lP (dS lI (y8 T.len (pv 0)) (pv 1) (hX _)) (qF (dS hZ (b6 et (pv 0) cB (aV (pv 1))) (pv 2) (hX _))))))))) (ae (ay (pv 3))) aO))))
  (ae (ay dO))),?_}
 ac_rfl
 obtain⟨M,eM,hM4,hMr,g⟩:∃M:Nat,(if (4:Int)<(r.length:Int) then(4:Int) else(r.length:Int))=(M:Int)/\M<=4/\M<=r.length/\r.length-M<=r.length-4:=by
  by_cases z:(4:Int)<(r.length:Int)
  .exact{4,if_pos z,(),(),()}
  .exact{r.length,if_neg z,(),(),()}
 refine{_,rfl,r,rfl,aq (),_,_,rfl,_,rfl,(M:Int),0,congrArg (λz=>[V.int z,.int 0,.int (-1)]) eM,{(),(),(),()},?_};rw[show ((M:Int)-0).toNat=M by omega];refine iT (lF (M:Int) (-1) M) (λi σ t=>a8 H t/\(∃C D,σ=[some (.str r),some (.ref a),C,D])/\∀m,r.length-M<=m->m<r.length-M+i->jO B (bq r m)=false) {a8.refl _,⟨none,none,rfl⟩,λm c u=>()} (λ_ _ _ _ _=>trivial) ?_ ?_
 .rintro i x σ t G ⟨d,⟨C,D,rfl⟩,f⟩
  have hi:i<M:=by
   have:=(wa6.mp G).1;rw[wa0,waJ]at this;exact this
  have ex:x=.int ((M:Int)+(i:Int)*(-1)):=by
   rw[wa3,wdO hi]at G;exact(waf G).symm
  rw[ex];obtain⟨sz,I⟩:∃sz:Nat,(M:Int)+(i:Int)*(-1)=(sz:Int):={M-i,()};rw[I];obtain⟨n,hn⟩:∃n,n=r.length-M+i:={_,rfl};have ec:(r.length:Int)-(sz:Int)=(n:Int):=();rw[<-hn]at f;have J:n<r.length:=();have dl:(bq r n).length=sz:=by rw[<-aE,eD,waW,aE];omega
  refine{_,rfl,_,rfl,r,rfl,aq (),_,rfl,_,_,rfl,rfl,_,rfl,r,rfl,aq (),?_};rw[ec];refine{_,rfl,a,rfl,{_,d.seq R},λl hl=>?_};refine comp_map (DR sz (bq r n)) (aK K a (B.map V.str)) hl (by rw[wa0];exact aq ()) (λH' s'=>(d.trans s').seq R) (λy v Q' hy _ q=>?_) (λv U j=>?_)
  .obtain⟨w,hw,rfl⟩:=wab.mp hy;have w5:=b w hw;refine{_,rfl,w,rfl,aq (),_,rfl,_,_,rfl,rfl,_,rfl,?_};refine o7 (λc=>?_) (λc=>?_)
   .refine{_,rfl,_,rfl,_,rfl,w,rfl,aq (),_,rfl,rfl,?_};have o:=q v (a8.refl _)
    have O:DR sz (bq r n) (.str w)=.bl (decide (V.str (bZ w sz)=V.str (bq r n))):=by
     show V.bl (decide ((w.length:Int)>(sz:Int))&&_)=_;rw[c,wcA]
    rw[O]at o;exact o
   .have o:=q v (a8.refl _)
    have O:DR sz (bq r n) (.str w)=.bl false:=by
     show V.bl (decide ((w.length:Int)>(sz:Int))&&_)=_;rw[wfw.mpr c,wcG]
    rw[O]at o;exact o
  rw[D1 sz _ dl]at j;refine{l,_,rfl,aH.of j,?_};rw[wdZ];refine{_,rfl,?_};show if jO B (bq r n)=true then _ else _
  refine o7 (λu=>?_) (λu=>?_)
  .refine{_,rfl,?_};have e:=ye pm b S (n:=n) (n0:=r.length-M) g (weN J) f (.inr u);have p:=k v (d.trans U);rw[e]at p;exact p
  .refine{d.trans U,{_,_,rfl},λm h0 c=>?_}
   by_cases z:m=n
   .rw[z];exact wfw.mpr u
   .exact f m h0 ()
 .rintro σ t ⟨d,⟨C,D,rfl⟩,f⟩;rw[wa0,waJ]at f;have e:=ye pm b S (n:=r.length) (n0:=r.length-M) g (waa _) (λm h0 c=>f m h0 ()) (.inl rfl);have p:=k t d;rw[e,hF]at p;exact p
theorem zF(L:Lk K mg):aS P w K mg base cO 1 L.mm L.sZ ["_law_found","_law_due_here"] (Ib K):=by
 have T:=L.T;refine L.tD.F.d8 (N:=["_law_found","_law_due_here"]) (λc A outer s H u Q E nd n h=>?_);obtain⟨v,a,b,rfl,d,hl,q,k⟩:=h;have e:(A.deeper (wdP "_law_fits" (aJ (top 93)) s.heap.objs.size L.mm c)).units<wcJ:=n.yF
 refine{_,(a6 (bA (d4 hZ (DU T.len (pv 1)) ao) (ae (ay (dS By (pv 0) fC (hX _)))) aO)
  (ae (ay (lP (dS hZ (aT zo (by rfl) T.len wdA (aM (bB (Fo (K:=K) rfl rfl) (by rfl) T.set QA (aM (pv 1))))) ao (hX _)) (lP (aT cV (by rfl) T.Lc z8 (a9 (pv 0) (aM (gU (v:=.ty "int") (by rfl) T.int QC rfl)))) (lP (yI (aT cV (by rfl) T.Lc z8 (a9 (pv 0) (aM (gU (v:=.ty "bool") (by rfl) T.bool Mp rfl))))) (qF (dS (Od e) (pv 0) (aW b5 (pv 1) ao (λ_ _=>rfl)) (hX _))))))))),?_}
 ac_rfl
 refine{_,rfl,a,_,rfl,.inl d,?_};rw[wa0,bR];rcases q with⟨rfl,rfl⟩ |⟨i,rfl,f,hd⟩
 .exact{rfl,true,rfl,eB {_,rfl,rfl,k H (a8.refl _)}}
 obtain⟨m,r⟩:∃m,b.length=m+1:={b.length-1,by have:=wc1.mpr f;lia}
 have g:∀j,j<m+1->(nI b).getD j 0=(i:Int):=λj x=>by
  unfold nI;rw[wa4,wa3,wa1 (by lia),<-hd _ (waK (by lia:j<b.length))];rfl
 refine{rfl,false,congrArg V.bl (decide_eq_false λz=>by have:=V.int.inj z;lia),cq ?_};refine{_,rfl,a,nI b,rfl,d,by rw[bR];exact hl,λp t=>?_};rw[bR,r,Dw m g];have l:=a8.upd (H:=H) (o:=Gv P w p 1) t;refine{p,1,rfl,a7,rfl,true,rfl,eB ?_};refine{_,rfl,_,_,_,true,rfl,iD.int _,rfl,true,rfl,eB ?_};refine{_,rfl,_,_,_,false,rfl,iD.int _,rfl,_,rfl,true,rfl,eB ?_};refine{_,rfl,_,rfl,a,_,0,_,rfl,rfl,l.seq d,bz (j:=0) (by rw[wa3,getD_some 0 (show 0<(nI b).length by rw[bR];lia),g 0 (by lia)];rfl),?_};exact{rfl,.flat rfl,k _ l}
end
end K51
namespace Bs
structure Reach(lns:List (List (Str×Nat)))(rs:List Nat):Prop where
 cl:∀d∈rs,∀q∈lns.getD d [],q.2∈rs
 lt:∀d∈rs,d<lns.length
 ne:rs≠[]
 nd:rs.Nodup
theorem FY{g:Str}{ws ss ls:List Str}{n:Nat}{many:Int}{f:Str->Int}{rs:List Nat}(hn:∀p∈ls,0<=f p)(l:G9 g ws ss ls many n f)(R:Reach (bD g ws ss ls n (av ls f)) rs) :
 G9 g ws ss ls many n (d2 (rs.map λd=>(av ls f).getD d "") f):=by
 intro p m
 by_cases h:p∈rs.map λd=>(av ls f).getD d ""
 .obtain⟨d,hd,rfl⟩:=wab.mp h;have b:=R.lt d hd;have c:d<(av ls f).length:=by unfold bD at b;rwa[wa0]at b
  have j:(bD g ws ss ls n (av ls f)).getD d []=gn g ws ss ls n (av ls f) ((av ls f).getD d ""):=by
   unfold bD;rw[wa4,wa3,wa1 c,wa4,wa1 c];rfl
  have e:gP g ws ss ls n (d2 (rs.map λd=>(av ls f).getD d "") f) ((av ls f).getD d "")=gP g ws ss ls n f ((av ls f).getD d ""):=by
   unfold gP;refine congrArg List.sum (waX λq i=>?_);unfold d2
   by_cases a:q.2∈rs.map λd=>(av ls f).getD d ""
   .rw[if_pos a]
   .rw[if_neg a]
    by_cases h0:0<f q.2
    .exfalso;have k:q.2∈av ls f:=wau.mpr {du i,decide_eq_true h0}
     have o:(q.1,(av ls f).idxOf q.2)∈(bD g ws ss ls n (av ls f)).getD d []:=by
      rw[j];unfold gn;exact wab.mpr {q,wau.mpr {i,decide_eq_true k},rfl}
     have:=R.cl d hd _ o;refine a (wab.mpr {_,this,?_});show (av ls f).getD ((av ls f).idxOf q.2) ""=q.2;rw[wa4,(qQ k).1];rfl
    .have:=hn _ (du i)
     lia
  rw[e];unfold d2;rw[if_pos h];exact l _ m
 .have e:d2 (rs.map λd=>(av ls f).getD d "") f p=0:=by unfold d2;rw[if_neg h]
  rw[e,Int.mul_zero];unfold gP;exact uS λq i=>vq hn _ (du i)
structure gN(g:Str)(bw ss ls:List Str)(many:Int)(n:Nat)(f:Str->Int)(qB:List z4)(ks:List Nat)(hs:List Str)(ws:List Int)(lns:List (List (Str×Nat))):Prop where
 nn:∀p∈ls,0<=f p
 le:∀p∈ls,f p<=8
 fit:G9 g bw ss ls many n f
 ps:0<(ls.map f).sum
 m:(ls.map f).sum<=40
 rn:Runs many (av ls f) ((av ls f).map f) (bD g bw ss ls n (av ls f)) qB hs ws lns
 b:iG many hs ws lns
 cv:wD (aU g bw ss ls n) hs lns
 ln:hs.length<=40
 ko:oy lns many ks
 ne:ks≠[]
 sl:qB.length<=40
 sb:∀p∈hs,p∈ls
structure Gb(many:Int)(n:Nat)(wl:List (List (Str×Nat))):Prop where
 ne:wl≠[]
 ln:∀l∈wl,(l.length:Int)=many
 e:∀l∈wl,∀q∈l,q.2<wl.length
 wd:∀l∈wl,∀q∈l,q.1.length=n
theorem E8{many:Int}{n:Nat}{wl:List (List (Str×Nat))}(g:Gb many n wl):∀(ts:List Nat) (s:Str×Nat),s.2<wl.length->(∀t∈ts,(t:Int)<many)->(ts.foldl (kD wl) s).2<wl.length/\(ts.foldl (kD wl) s).1.length=s.1.length+n*ts.length
 |[],s,h,_=>⟨h,rfl⟩
 |t::ts,s,h,c=>by
  have j:=c t (wag ..);have hl:=wa8 (bM h);have f:=g.ln _ hl;have d:=wa8 (qS (l:=wl.getD s.2 []) (t:=t) (by lia));obtain⟨a,b⟩:=E8 g ts (kD wl s t) (g.e _ hl ((wl.getD s.2 []).getD t ("",0)) d) λx i=>c x (wac _ i);refine{a,?_};rw[wdQ,b];show (s.1++_).length+_=_;rw[len_app,g.wd _ hl _ d,waE,wci,whG]
  lia
theorem qw{many:Int}{n:Nat}{wl:List (List (Str×Nat))}(W:Gb many n wl){d:Nat}(hd:d<wl.length){ts:List Nat}(g:∀t∈ts,(t:Int)<many):(cH wl d ts).2<wl.length/\(cH wl d ts).1.length=n*ts.length:=by
 obtain⟨a,b⟩:=E8 W ts ("",d) hd g;refine{a,b.trans ?_};show 0+_=_
 lia
theorem Rh{many:Int}{n:Nat}{lns:List (List (Str×Nat))}{g:List Nat}(h:oy lns many g)(j:g≠[])(t:0<=many)(r:∀l∈lns,∀q∈l,q.1.length=n):Gb many n (f7 lns g many.toNat):=by
 refine{λz=>j (wh6.mp z),λl hl=>?_,λl hl q a=>?_,λl hl q a=>?_}
 .obtain⟨d,hd,rfl⟩:=wab.mp hl;have:=(h.st d hd).2;unfold fG;rw[wa0,wad]
  lia
 .obtain⟨d,hd,rfl⟩:=wab.mp hl;unfold fG at a;obtain⟨p,b,rfl⟩:=wab.mp a;have c:=of_decide_eq_true (wau.mp ((wbp _ _).subset b)).2;unfold f7;rw[wa0];exact wc7.mpr c
 .obtain⟨d,hd,rfl⟩:=wab.mp hl;unfold fG at a;obtain⟨p,b,rfl⟩:=wab.mp a;have e:=(wau.mp ((wbp _ _).subset b)).1;exact r _ (wa8 (bM (h.st d hd).1)) p e
theorem Jf(B:b4 C H j g bw ss ls)(I:H x=some (.ins J T fs))(hn:j≠x):b4 C (fB H x) j g bw ss ls:=by
 obtain⟨⟨f,b,d,q,t,u,h,i,v,k,r⟩,p,o,l⟩:=B;have ne:∀{c:Addr} {o:HO},H c=some o->(∀a b e,o≠.ins a b e)->c≠x:=λe n z=>by grind
 exact{{f,b,d,q,t,gg u hn,gg h (ne h λ_ _ _ z=>by cases z),gg i (ne i λ_ _ _ z=>by cases z),v,λm s=>gg (k m s) (ne (k m s) λ_ _ _ z=>by cases z),gg r (ne r λ_ _ _ z=>by cases z)},p,o,l}
structure Oi(K:wa2)(C CB CP CS:Addr)(H:Hp)(x:Addr)(g:Str)(bw:List Str)(many:Int)(n:Nat):Prop where
 ex:∃(xb:Addr) (ss ls:List Str) (f0 f:Str->Int) (qB:List z4) (ks:List Nat) (hs:List Str) (ws:List Int) (lns:List (List (Str×Nat))) (b:Nat),b4 CB H xb g bw ss ls/\AJ K C CP CS H x xb many n (cy f ls) qB ks hs ws lns b/\F9 g bw ss many n/\uc g bw ss ls many n f0/\(∀p∈ls,f p<=f0 p)/\gN g bw ss ls many n f qB ks hs ws lns/\Gb many n (f7 lns ks many.toNat)/\kA bw n b
theorem FZ{many:Int}{n:Nat}{bw ss hk:List Str}{wl:List (List (Str×Nat))}(g:Gb many n wl)(j:ss.Perm (bJ bw "" bw))(hw:∀w∈bw,1<=w.length)(G:HI bw ss hk wl){d:Nat}(hd:d<wl.length)(p:hk.getD d ""∈ss):∀ts:List Nat,(∀t∈ts,(t:Int)<many)->bears bw (hk.getD d ""++(cH wl d ts).1)=false/\lend ss (hk.getD d ""++(cH wl d ts).1)=hk.getD (cH wl d ts).2 "":=by
 intro ts;refine snoc_ind (P:=λ(ts:List Nat)=>(∀t∈ts,(t:Int)<many)->bears bw (hk.getD d ""++(cH wl d ts).1)=false/\lend ss (hk.getD d ""++(cH wl d ts).1)=hk.getD (cH wl d ts).2 "") ?_ ?_ ts
 .intro _;obtain⟨c,e⟩:=oz j hw p;show bears bw (hk.getD d ""++("":Str))=false/\lend ss (hk.getD d ""++("":Str))=hk.getD d "";rw[jU];exact⟨c,e⟩
 .intro ts t f h;obtain⟨i,k⟩:=f λx a=>h x (waS _ a);have r:=h t (waI _ (wao.mpr rfl));obtain⟨b,_⟩:=qw g hd (ts:=ts) λx a=>h x (waS _ a);rw[y6];unfold kD;have hl:=wa8 (bM b);have m:=g.ln _ hl;have o:=wa8 (qS (l:=wl.getD (cH wl d ts).2 []) (t:=t) (by lia));obtain⟨g1,g2⟩:=G _ b _ o;rw[<-k]at g1 g2;obtain⟨c1,q⟩:=O7 j hw i g1;dsimp only;rw[<-eE];exact{c1,q.trans g2}
theorem gN.steps{g:Str}{bw ss ls:List Str}{many:Int}{n:Nat}{f:Str->Int}{r:List z4}{j:List Nat}{hs:List Str}{ws:List Int}{lns:List (List (Str×Nat))}(P:gN g bw ss ls many n f r j hs ws lns)(C:ss.Perm (bJ bw "" bw))(hw:∀w∈bw,1<=w.length)(t:∀p∈ls,p∈ss)(m:Nat){d:Nat}(hd:d<j.length):j[d]<hs.length/\∀q∈(f7 lns j m).getD d [],∃e,(q.1,e)∈lns.getD j[d] []/\e∈j/\q.2=j.idxOf e/\bears bw (hs.getD j[d] ""++q.1)=false/\lend ss (hs.getD j[d] ""++q.1)=hs.getD e ""/\q.1∈JA g n:=by
 have hk:=(P.ko.st j[d] (waK hd)).1;rw[P.b.l]at hk;refine{hk,λq c=>?_}
 have i:(f7 lns j m).getD d []=fG j m (lns.getD j[d] []):=by
  unfold f7;rw[wa4,wa3,wa1 hd];rfl
 rw[i]at c;unfold fG at c;obtain⟨z,k,rfl⟩:=wab.mp c;have a:=wau.mp ((wbp _ _).subset k);obtain⟨c1,o,s⟩:=P.cv.Er P.b.l (λp h=>t p (P.sb p h)) C hw hk a.1;exact{z.2,a.1,of_decide_eq_true a.2,rfl,c1,o,s}
theorem gN.Er{g:Str}{bw ss ls:List Str}{many:Int}{n:Nat}{f:Str->Int}{l:List z4}{j:List Nat}{hs:List Str}{ws:List Int}{lns:List (List (Str×Nat))}(P:gN g bw ss ls many n f l j hs ws lns)(t:ss.Perm (bJ bw "" bw))(hw:∀w∈bw,1<=w.length)(r:∀p∈ls,p∈ss)(m:Nat):HI bw ss (ot hs j) (f7 lns j m):=by
 intro d hd q i
 have a:d<j.length:=by
  unfold f7 at hd;rwa[wa0]at hd
 obtain⟨hk,h⟩:=P.steps t hw r m a;obtain⟨e,o,b,c,c1,k,_⟩:=h q i;have hi:=wc7.mpr b;rw[jc a,c,jc hi,wea hi];exact⟨c1,k⟩
theorem gN.det{g:Str}{bw ss ls:List Str}{many:Int}{n:Nat}{f:Str->Int}{j:List z4}{I:List Nat}{hs:List Str}{ws:List Int}{lns:List (List (Str×Nat))}(P:gN g bw ss ls many n f j I hs ws lns)(nd:(ch g).Nodup)(C:ss.Perm (bJ bw "" bw))(hw:∀w∈bw,1<=w.length)(t:∀p∈ls,p∈ss)(hl:ls.Nodup):Fa hs lns j.length:=by
 have key:∀{j hs ws lns},Runs many (av ls f) ((av ls f).map f) (bD g bw ss ls n (av ls f)) j hs ws lns->f9 g bw ss ls many n f j hs ws lns/\Fa hs lns j.length:=by
  intro j hs ws lns h
  induction h with
  |nil=>
   refine{f9.start nd C hw t hl P.nn P.fit,λd o ws a b e _ _ _=>?_};have hn:(av ls f).Nodup:=hl.filter _;have c:(bD g bw ss ls n (av ls f)).length=(av ls f).length:=by unfold bD;rw[wa0]
   rw[c]at a b;rw[wa4,wa4,wa1 a,wa1 b]at e;exact(wcm hn).mp e
  |@snoc l hs ws lns d ns w r ok k=>
   obtain⟨L,D⟩:=k;refine{L.step ok,?_};rw[wa5];exact D.split L.cv L.b.l L.b.e (L.b.split ok).2 (F:=λp w=>lend ss (p++w)) (λi hi q m=>((L.cv.Er L.b.l (λp h=>t p (L.sb p h)) C hw hi m).2.1).symm) _
 exact(key P.rn).2
structure yw(bw ss hk:List Str)(wl:List (List (Str×Nat)))(s:Nat):Prop where
 det:Fa hk wl s
 go:HI bw ss hk wl
 inj:∀(d i j:Nat) (z:Str×Nat),(wl.getD d [])[i]?=some z->(wl.getD d [])[j]?=some z->i=j
 e:∀(d:Nat),∀q∈wl.getD d [],q.2<wl.length
theorem gN.read{g:Str}{bw ss ls:List Str}{many:Int}{n:Nat}{f:Str->Int}{I:List z4}{t:List Nat}{hs:List Str}{ws:List Int}{lns:List (List (Str×Nat))}(P:gN g bw ss ls many n f I t hs ws lns)(nd:(ch g).Nodup)(J:ss.Perm (bJ bw "" bw))(hw:∀w∈bw,1<=w.length)(C:∀p∈ls,p∈ss)(hl:ls.Nodup)(m:Nat):yw bw ss (ot hs t) (f7 lns t m) I.length:=by
 have D:=P.det nd J hw C hl;have E:t.Nodup:=P.ko.ab.sub.nodup wfM;have s:∀{d},d<t.length->t.getD d 0<lns.length:=λ{d} hd=>(P.ko.st _ (wa8 (getD_some 0 hd))).1;refine{λd R G a b e l r H=>?_,P.Er J hw C m,λd i j z c k=>?_,λd q u=>?_}
 .rw[vi]at a b
  have h:=D _ _ G (s a) (s b) (by
   have v:=jc (hs:=hs) a;have A:=jc (hs:=hs) b;rw[v,A]at e;rw[wa4 (l:=t),wa1 a,wa4 (l:=t),wa1 b]
   exact e) l (zk _ _ r) (zk _ _ H)
  rw[wa4,wa1 a,wa4,wa1 b]at h;exact(wcm E).mp h
 .have hd:=Ik (wa8 c);rw[Mm hd]at c k;have o:(lns.getD (t.getD d 0) []).Nodup:=y7 λq=>P.cv.cnt P.b.l (by have:=s hd;have:=P.b.l;lia) q;generalize lns.getD (t.getD d 0) []=B at c k o;have nt:((cR t B).take m).Nodup:=(o.filter _).sublist (wbp _ _);have mem:∀q∈(cR t B).take m,q.2∈t:=λq u=>of_decide_eq_true (wau.mp (wbP u)).2;unfold fG at c k;generalize (cR t B).take m=l at c k nt mem;rw[wa3]at c k;obtain⟨p,c,v⟩:=wdq.mp c;obtain⟨q,k,A⟩:=wdq.mp k;have L:=v.trans A.symm;obtain⟨a,b⟩:=wce L;have lp:=wc7.mpr (mem p (wa8 c));have M:=wc7.mpr (mem q (wa8 k))
  have b:p.2=q.2:=by
   have x:=wea lp;have y:=wea M;rw[<-x,<-y];congr 1
  have N:p=q:=wes a b;rw[<-N]at k;obtain⟨S,O⟩:=wa6.mp c;obtain⟨T,Q⟩:=wa6.mp k;exact(wcm nt).mp (O.trans Q.symm)
 .rw[vi];exact(zj (w:=q.1) (e:=q.2) u).1
theorem yw.one{bw ss hk:List Str}{wl:List (List (Str×Nat))}{s:Nat}(R:yw bw ss hk wl s){d d' i l e g:Nat}{w:Str}{us:List Str}(hd:d<wl.length)(j:d'<wl.length)(r:hk.getD d ""=hk.getD d' "")(t:(wl.getD d [])[i]?=some (w,e))(p:(wl.getD d' [])[l]?=some (w,g))(hl:us.length=s)(C:gD wl e us)(I:gD wl g us):i=l:=by
 have m1:=wa8 t;have c:=wa8 p;have a:=(R.go d hd _ m1).2;have b:=(R.go d' j _ c).2
 have f:e=g:=R.det e g us (R.e d _ m1) (R.e d' _ c) (by
  show hk.getD (w,e).2 ""=hk.getD (w,g).2 ""
  rw[<-a,<-b,r]) hl C I
 have h:=mY s (w::us) d ⟨e,m1,C⟩;have k:=mY s (w::us) d' ⟨g,c,I⟩;have m:=R.det d d' _ hd j r (by rw[wad,waE];lia) h k;rw[<-f,<-m]at p;exact R.inj d i l _ t p
theorem step_at{many:Int}{n:Nat}{wl:List (List (Str×Nat))}(g:Gb many n wl){d t:Nat}(hd:d<wl.length)(j:(t:Int)<many):(wl.getD d [])[t]?=some (fL wl d t):=by
 have:=g.ln _ (wa8 (bM hd));exact qS (by lia)
theorem wh{many:Int}{n:Nat}{wl:List (List (Str×Nat))}(g:Gb many n wl):∀(ts:List Nat) (d:Nat),d<wl.length->(∀t∈ts,(t:Int)<many)->(∀w∈ez wl d ts,w.length=n)/\gD wl d (ez wl d ts)/\pe wl d ts<wl.length
 |[],d,hd,_=>{(λw h=>nomatch h),trivial,hd}
 |t::ts,d,hd,h=>by
  have f:=wa8 (step_at g hd (h t (wag ..)));have hl:=wa8 (bM hd);obtain⟨a,b,c⟩:=wh g ts (fL wl d t).2 (g.e _ hl _ f) λx i=>h x (wac _ i);refine{λw hw=>?_,{_,f,b},c};rcases waG.mp hw with rfl |hw
  .exact g.wd _ hl _ f
  .exact a w hw
theorem gQ.one{bw ss hk:List Str}{wl:List (List (Str×Nat))}{c:Nat}{p w:Str}{as:List Str}{i j:Nat}(R:yw bw ss hk wl c)(hl:as.length=c)(g:gQ ss hk wl p w as i)(l:gQ ss hk wl p w as j):i=j:=by
 obtain⟨d,e,a1,a2,a3,a⟩:=g;obtain⟨k,m,b1,b,f,h⟩:=l;exact R.one a1 b1 (a2.trans b.symm) a3 f hl a h
theorem Dc{bw ss hk:List Str}{wl:List (List (Str×Nat))}{many:Int}{n b c:Nat}(R:yw bw ss hk wl c)(j:Gb many n wl)(m1:1<=many)(I:ss.Perm (bJ bw "" bw))(hw:∀w∈bw,1<=w.length)(h0:hk.getD 0 ""∈ss)(hs:∀s∈ss,s.length<=n*b){ts:List Nat}(J:∀t∈ts,(t:Int)<many){k:Nat}(p:k<ts.length) :
 ∃bs w as,((ez wl 0 (gH b c ts)).take (k+(b+1+c))).drop k=bs++w::as/\bs.length=b/\as.length=c/\bears bw (cat bs)=false/\gQ ss hk wl (cat bs) w as ts[k]:=by
 have g:=ri m1 J b c
 have E:(gH b c ts).drop (k+b)=ts[k]::(ts.drop (k+1)++waj c 0):=by
  unfold gH;rw[whT,wbs (by rw[waN];lia),wdR,waN,show k+b-b=k by lia,wc3 (by lia),wcq p];rfl
 have m:(gH b c ts).length=b+(ts.length+c):=by unfold gH;rw[wa5,wa5,waN,waN]
 generalize gH b c ts=l at g E m;have i:l=l.take k++((l.drop k).take b++l.drop (k+b)):=by rw[<-List.drop_drop,wbi,wbi]
 generalize H:l.take k=d at i;generalize L:(l.drop k).take b=f at i;have M:d.length=k:=by rw[<-H,wad];lia
 have N:f.length=b:=by rw[<-L,wad,waW];lia
 rw[E]at i;generalize O:ts.drop (k+1)++waj c 0=rest at i;have U:c<=rest.length:=by rw[<-O,wa5,waN];lia
 have o:0<wl.length:=wc1.mpr j.ne;have q:∀t∈d++f,(t:Int)<many:=λt h=>g t (by rw[i,<-waQ];exact waS _ h);have v:∀t∈rest,(t:Int)<many:=λt h=>g t (by rw[i,<-waQ];exact waI _ (wac _ h));obtain⟨a1,a2⟩:=jf wl (ts[k]::rest) (d++f) 0;obtain⟨b1,V⟩:=jf wl f d 0;obtain⟨G,_,u⟩:=wh j (d++f) 0 o q;obtain⟨g1,g2⟩:=FZ j I hw R.go o h0 (d++f) q;rw[k8]at g1 g2;generalize X:pe wl 0 (d++f)=D at a1 u g2;have x:=J _ (waK p);have a:=step_at j u x;have y:=wa8 (bM u);have z:=j.e _ y _ (wa8 a);obtain⟨v1,Q,_⟩:=wh j rest (fL wl D ts[k]).2 z v;rw[b1]at g1 g2 a1 G;generalize A:ez wl 0 d=S at *;generalize B:ez wl (pe wl 0 d) f=bs at *;have T:S.length=k:=by rw[<-A,je,M]
 have r:bs.length=b:=by rw[<-B,je,N]
 have C:(cat bs).length=n*b:=by rw[dX λw h=>G w (waI _ h),r]
 rw[pd,<-eE]at g1 g2;refine{bs,(fL wl D ts[k]).1,(ez wl (fL wl D ts[k]).2 rest).take c,?_,r,by rw[wad,je];lia,hH (by rw[aX];exact{_,[],by rw[waY]}) g1,D,(fL wl D ts[k]).2,u,?_,a,mY c _ _ Q}
 .rw[i,<-waQ,a1,show ez wl D (ts[k]::rest)=(fL wl D ts[k]).1::ez wl (fL wl D ts[k]).2 rest from rfl,wgJ,waQ,wc3 (by lia),wbs (by lia),wdR,show k+(b+1+c)-k=bs.length+(c+1) by lia,List.take_length_add_append,List.take_succ_cons]
 .rw[<-g2];exact(Fb (I.mem_iff.mpr (bP bw)) (λs h=>by rw[C];exact hs s h))
structure Dd(R:Wr):Prop where
 w:Gb R.many R.n R.wl
 m1:1<=R.many
 m8:R.many<=8
 n1:1<=R.n
 oE:R.n<=10
 b1:R.b<=1000
 c1:R.c<=1000
 hl:R.hk.length=R.wl.length
 l1:R.wl.length<=40
 bh:kA R.bw R.n R.b
 hw:∀w∈R.bw,1<=w.length/\w.length<=900
 bl:R.bw.length<=1000
 gl:R.g.length<=10
 rd:yw R.bw R.ss R.hk R.wl R.c
 gd:∀(d:Nat),∀q∈R.wl.getD d [],∀c∈ch q.1,c∈ch R.g
 h0:R.hk.getD 0 ""∈R.ss
 sh:∀s∈R.ss,s.length<=R.n*R.b
 pm:R.ss.Perm (bJ R.bw "" R.bw)
structure ng(K:wa2)(C CB CP:Addr)(H:Hp)(x:Addr)(R:Wr):Prop where
 ex:∃dx p xb a l dp wa wb wc wz ys,H x=some (.ins C dx (lY p xb R.many (R.n:Int) a l R.o.1 (R.o.2:Int)))/\H p=some (.ins CP dp (ve wa wb wc wz))/\aH K H wb ys/\ys.length=R.c/\bK K H (jY R.wl) (.ref l)/\aH K H a (R.hk.map V.str)/\b4 CB H xb R.g R.bw R.ss R.ls
 ok:Dd R
theorem ng.same(h:ng K C CB g H x R)(s:a8 H j):ng K C CB g j x R:=by
 obtain⟨⟨b,p,c,a,l,dp,d,e,f,i,k,m,n,o,q,r,t,u⟩,v⟩:=h;exact{{b,p,c,a,l,dp,d,e,f,i,k,s _ _ m,s _ _ n,s.seq o,q,bK.same s _ _ r,s.seq t,u.same s},v}
theorem kA.one(h:kA bw n b)(h':kA bw n g):b=g:=by
 obtain⟨_,M,⟨u,a⟩,e⟩:=h;obtain⟨_,N,⟨v,c⟩,f⟩:=h'
 have:M=N:=by
  rcases a with⟨a1,a2⟩ |⟨w,hw,a⟩<;>rcases c with⟨c1,i⟩ |⟨j,d,c⟩
  .lia
  .rw[a2]at d;cases d
  .rw[i]at hw;cases hw
  .have:=u j d;have:=v w hw;lia
 rw[this]at e
 lia
theorem bc.same(h:bc H rs g)(s:a8 H j):bc j rs g:={h.1,λi r c a b=>s _ _ (h.2 i r c a b)}
theorem gV.same{wl:List (List (Str×Nat))}(h:gV H a wl)(s:a8 H g):gV g a wl:=by
 obtain⟨e,f,i⟩:=h;refine{e,s _ _ f,λw=>?_};rcases i w with z |⟨l,j,ps,a,b,c,d⟩
 .exact .inl z
 .exact .inr {l,j,ps,a,s _ _ b,c.same s,d}
theorem dY.same{g H j:Hp}{done:List wF}(h:dY g H a done)(s:a8 H j):dY g j a done:=by
 obtain⟨h0,fa,e,f,i,k,m⟩:=h;refine{h0.trans s,fa,e,s _ _ f,i,λw=>?_,m};rcases k w with z |⟨l,n,a,b,c,d⟩
 .exact .inl z
 .exact .inr {l,n,a,b,s _ _ c,d.same s}
theorem dY.step{B H:Hp}{done:List wF}{g:Addr}(M:dY B H a done)(h0:H g=none)(w:Str)(i e:Nat):∃kvs:List (Key×V),(upd H g (.lst [])) a=some (.dK kvs)/\kvs.length<=done.length /\
 (∀v,bC kvs (wak w:Key)=some v->∃(l:Addr) (rs:List Addr),v=.ref l/\(upd H g (.lst [])) l=some (.lst (rs.map V.ref))/\rs.length<=done.length/\∀r,(upd H g (.lst [])) r=none->dY B (upd (upd (upd H g (.lst [])) r (.tup (jd (i,e)))) l (.lst (rs.map V.ref++[.ref r]))) a (done++[(i,w,e)])) /\
 (bC kvs (wak w:Key)=none->(upd (upd H g (.lst [])) a (.dK (putK kvs (wak w:Key) (.ref g)))) g=some (.lst (([]:List Addr).map V.ref))/\∀r,(upd (upd H g (.lst [])) a (.dK (putK kvs (wak w:Key) (.ref g)))) r=none->dY B (upd (upd (upd (upd H g (.lst [])) a (.dK (putK kvs (wak w:Key) (.ref g)))) r (.tup (jd (i,e)))) g (.lst (([]:List Addr).map V.ref++[.ref r]))) a (done++[(i,w,e)])):=by
 have t:a8 H (upd H g (.lst [])):=a8.upd h0;have I:(upd H g (.lst [])) g=some (.lst []):=a7;have M1:=M.same t;have J:B g=none:=none_of M.s h0;have nl:∀{c o},H c=some o->c≠g:=λh z=>by rw[z,h0]at h;cases h
 obtain⟨_,_,b,A,_,L,_⟩:=id M;generalize upd H g (.lst [])=G at *;obtain⟨s,fa,kvs,j,C,m,D⟩:=M1;have N:b=kvs:=by have:=t _ _ A;rw[j]at this;cases this;rfl
 subst N;refine{b,j,C,λv d=>?_,λhn=>?_}
 .rcases m w with⟨z,_⟩ |⟨l,rs,a1,a2,a3,f⟩
  .rw[z]at d;cases d
  .rw[a1]at d;cases d;refine{l,rs,rfl,a3,?_,λr n=>dY.add s fa j (whA C) a1 a2 a3 f (λv _=>m v) D n};have:=f.1;rw[wa0]at this;rw[this];unfold pairsOf;rw[wa0];exact wb6 ..
 .have na:a≠g:=nl A;have E:(upd G a (.dK (putK b (wak w:Key) (.ref g)))) g=some (.lst []):=by rw[af na.symm];exact I
  have O:a8 B (upd G a (.dK (putK b (wak w:Key) (.ref g)))):=λc o h=>by rw[af (ag h fa)];exact s _ _ h
  refine{E,λr n=>dY.add (rs:=[]) O fa a7 ?_ (by rw[uD,if_pos rfl]) J E ?_ (λv d=>?_) (λu v l x y=>?_) n}
  .have:=gA b (wak w:Key) (.ref g);lia
  .rcases m w with⟨_,z⟩ |⟨l,rs,a1,_⟩
   .rw[z];exact bc.nil _
   .rw[hn]at a1;cases a1
  .rw[uD,if_neg (λz=>d (wcf z))];rcases m v with z |⟨l,rs,a1,a2,a3,f⟩
   .exact .inl z
   .have n1:l≠a:=λz=>by rw[z,j]at a3;cases a3
    exact .inr {l,rs,a1,a2,by rw[af n1];exact a3,f.1,λi q Q x y=>by
     have h:=f.2 i q Q x y
     rw[af (λz=>by rw[z,j]at h;cases h)];exact h}
  .rw[uD]at x y
   have old:∀{v:Str} {l:Addr},bC b (wak v:Key)=some (.ref l)->l≠g:=λ{v l} h=>by
    rcases L v with⟨z,_⟩ |⟨R,rs,a1,a2,a3,f⟩
    .rw[z]at h;cases h
    .rw[a1]at h;cases h;exact nl a3
   by_cases p:u=w
   .by_cases k:v=w
    .rw[p,k]
    .rw[if_pos (congrArg wak p)]at x;rw[if_neg (λz=>k (wcf z))]at y;cases x;exact absurd rfl (old y)
   .rw[if_neg (λz=>p (wcf z))]at x
    by_cases k:v=w
    .rw[if_pos (congrArg wak k)]at y;cases y;exact absurd rfl (old x)
    .rw[if_neg (λz=>k (wcf z))]at y;exact D u v l x y
theorem dY.over{p g j:Hp}{done:List wF}(M:dY p g a done)(s:a8 g j):dY (lR p g j) j a done:=by
 obtain⟨h0,fa,b,d,i,k,m⟩:=id M;obtain⟨_,_,f,g1,_,g3,_⟩:=M.same s;have n:f=b:=by have:=s _ _ d;rw[g1]at this;cases this;rfl
 subst n;refine{λc o h=>?_,by unfold lR;rw[d];exact fa,f,g1,i,λw=>?_,m}
 .unfold lR at h
  cases e:g c with
  |none=>rw[e]at h;exact h
  |some u=>rw[e]at h;exact s _ _ (h0 _ _ h)
 .rcases k w with z |⟨l,q,a1,a2,a3,r⟩
  .exact .inl z
  .exact .inr {l,q,a1,by unfold lR;rw[a3];exact a2,s _ _ a3,r.same s}
structure Bd(K:wa2)(C CB CP CR:Addr)(H:Hp)(z:Addr)(R:Wr):Prop where
 ex:∃dz x a,H z=some (.ins CR dz (Gs x a))/\gV H a R.wl/\ng K C CB CP H x R
theorem Bd.same{CR:Addr}(h:Bd K C CB g CR H z R)(s:a8 H j):Bd K C CB g CR j z R:=by
 obtain⟨b,x,a,c,d,e⟩:=h;exact{b,x,a,s _ _ c,d.same s,e.same s}
theorem Lw{K:wa2}{C CB J T:Addr}{H:Hp}{x t:Addr}{g:Str}{bw ss ls:List Str}{many:Int}{n:Nat}{f:Str->Int}{r:List z4}{j:List Nat}{hs:List Str}{ws:List Int}{lns:List (List (Str×Nat))}{b:Nat}(B:b4 CB H t g bw ss ls)(W:AJ K C J T H x t many n (cy f ls) r j hs ws lns b)(P:gN g bw ss ls many n f r j hs ws lns)(U:Gb many n (f7 lns j many.toNat))(I:kA bw n b)(nd:(ch g).Nodup)(hw:∀w∈bw,1<=w.length/\w.length<=900)(bl:bw.length<=1000)(gl:g.length<=10)(m1:1<=many)(m8:many<=8)(n1:1<=n)(oE:n<=10):ng K C CB J H x {g,bw,ss,ls,ot hs j,many,n,b,r.length,f7 lns j many.toNat}:=by
 obtain⟨u,p,a,l,v,⟨dp,y,z,A,D,E,_,G,_,_⟩,L,M⟩:=W;obtain⟨S,N,O,Q,k⟩:=id G;cases O;have c:∀p∈ls,p∈ss:=λp h=>B.lv.sub.subset h;have i:∀w∈bw,1<=w.length:=λw h=>(hw w h).1
 have R:j.length<=40:=by
  have m:=P.ko.ab.sub.length_le;have o:=P.b.l;have V:=P.ln;rw[waJ]at m
  lia
 have sl:=P.sl;have kp:0<j.length:=wc1.mpr P.ne;refine{{u,p,t,a,l,dp,y,z,A,D,N,v,E,.inl Q,by rw[k.len,wa0],M,.inl (ub L),B},U,m1,m8,n1,oE,I.le,by show r.length<=1000;lia,?_,?_,I,hw,bl,gl,P.read nd B.pm i c (B.nd.sublist B.lv.sub) _,λd q s=>?_,?_,Fc I n1 B.pm,B.pm}
 .show (ot hs j).length=_;rw[vi];exact wa0 ..
 .show (f7 lns j many.toNat).length<=40;rw[vi];exact R
 .have hd:=Ik s;have m:=(zj (w:=q.1) (e:=q.2) s).2;have o:j.getD d 0<hs.length:=by have:=(P.ko.st _ (wa8 (getD_some 0 hd))).1;have:=P.b.l;lia
  exact Io n _ (P.cv.Er P.b.l (λp h=>c p (P.sb p h)) B.pm i o m).2.2
 .show (ot hs j).getD 0 ""∈ss;rw[jc kp];have hk:=(P.steps B.pm i c many.toNat kp).1;rw[wa4,wa1 hk];exact c _ (P.sb _ (waK hk))
theorem E9{R:Wr}(ok:Dd R):∀(ts:List Nat) (d:Nat),d<R.wl.length->(∀t∈ts,(t:Int)<R.many)->∀u∈ez R.wl d ts,u.length=R.n/\∀c∈ch u,c∈ch R.g
 |[],_,_,_,_,h=>nomatch h
 |t::ts,d,hd,b,u,h=>by
  have a:=wa8 (step_at ok.w hd (b t (wag ..)));have hl:=wa8 (bM hd);rcases waG.mp h with rfl |h
  .exact{ok.w.wd _ hl _ a,ok.gd d _ a}
  .exact E9 ok ts _ (ok.w.e _ hl _ a) (λx f=>b x (wac _ f)) u h
theorem UT{R:Wr}(ok:Dd R){ts:List Nat}(g:∀t∈ts,(t:Int)<R.many):∃all,O2 R ts all:=by
 refine{ez R.wl 0 (gH R.b R.c ts),Fu ..,E9 ok _ 0 (wc1.mpr ok.w.ne) (ri ok.m1 g _ _),?_,λk hk=>?_}
 .rw[je];unfold gH;rw[wa5,wa5,waN,waN]
  lia
 .obtain⟨bs,w,a,d,e,f,i,j⟩:=Dc ok.rd ok.w ok.m1 ok.pm (λw h=>(ok.hw w h).1) ok.h0 ok.sh g hk;refine{bs,w,a,d,e,f,i,?_};rw[wa4,wa1 hk];exact j
theorem Ea{R:Wr}(ok:Dd R){bs:List Str}{w:Str}{us:List Str}(hl:us.length=R.c):(bears R.bw (cat bs)=true->wG R bs w us=.non)/\(∀i:Nat,bears R.bw (cat bs)=false->gQ R.ss R.hk R.wl (cat bs) w us i->wG R bs w us=.int (i:Int))/\(bears R.bw (cat bs)=false->(∀i,¬gQ R.ss R.hk R.wl (cat bs) w us i)->wG R bs w us=.non):=by
 refine{λh=>?_,λi h a=>?_,λh hn=>?_}
 .unfold wG;rw[if_pos h]
 .unfold wG;have b:∃i,gQ R.ss R.hk R.wl (cat bs) w us i:=⟨i,a⟩;rw[if_neg (by rw[h];exact wan),dif_pos b,(wgF b).one ok.rd hl a]
 .unfold wG;rw[if_neg (by rw[h];exact wan),dif_neg (λ⟨i,hi⟩=>hn i hi)]
end Bs
namespace K51
section
variable{P:waC}{w:World}{K:wa2}{mg:Str->Option Value}{base:Heap}
inductive De(K:wa2)(C CB CP:Addr)(u:Wr->V)(vs:List V)(H:Hp)(Q:VK)(dq:XK):Prop
 |mk (x R) (_:vs=[.ref x]) (_:ng K C CB CP H x R) (_:Q (u R) H)
local macro_rules|`(tactic|ac_rfl)=>`(tactic|try dsimp only[cW,cX,aZ,b0])
theorem gO(L:Lk K mg):aS P w K mg base cO 1 L.mh L.mD ["self"] (De K L.ak L.aA L.aR (λR=>.int (R.c:Int))):=by
 have T:=L.T;refine L.fU.F.d8 (N:=["self"]) (λd A outer s H r Q E nd t h=>?_);obtain⟨x,R,rfl,⟨⟨e,p,u,a,l,dp,f,b,g,i,j,m,n,o,q,_⟩,_⟩,k⟩:=h;refine{_,(ae (ay (DU T.len (aC (aC (pv 0) rfl) rfl)))),?_}
 ac_rfl
 refine{_,rfl,x,L.ak,e,_,_,rfl,m,L.aj.cl,L.aj.pz,zt ..,p,L.aR,dp,_,_,rfl,n,L.dE.cl,L.dE.Ao,z5 f b g i,b,j,rfl,.inl o,?_};rw[q];exact k
theorem wj(L:Lk K mg):aS P w K mg base cO 1 L.nF L.nO ["self"] (De K L.ak L.aA L.aR (λR=>.str R.o.1)):=by
 refine L.nW.F.d8 (N:=["self"]) (λb A outer s H e Q E nd f h=>?_);obtain⟨x,R,rfl,⟨⟨c,p,g,a,l,dp,i,j,m,n,q,d,_⟩,_⟩,k⟩:=h;refine{_,(ae (ay (aC (pv 0) rfl))),?_}
 ac_rfl
 exact{_,rfl,x,L.ak,c,_,_,rfl,d,L.aj.cl,L.aj.rk,nv ..,k}
theorem cT(L:Lk K mg):aS P w K mg base cO 1 L.mi L.mE ["self"] (De K L.ak L.aA L.aR (λR=>.int (R.wl.length:Int))):=by
 have T:=L.T;refine L.cN.F.d8 (N:=["self"]) (λb A outer s H f Q E nd g h=>?_);obtain⟨x,R,rfl,⟨⟨c,p,i,a,l,dp,j,m,n,o,q,d,_,_,_,_,e,_⟩,ok⟩,k⟩:=h;refine{_,(ae (ay (DU T.len (aC (pv 0) rfl)))),?_}
 ac_rfl
 refine{_,rfl,x,L.ak,c,_,_,rfl,d,L.aj.cl,L.aj.fM,sj ..,a,_,rfl,.inl e,?_};rw[wa0,ok.hl];exact k
inductive Jg(K:wa2)(C CB CP:Addr)(vs:List V)(H:Hp)(Q:VK)(dq:XK):Prop
 |mk (x:Addr) (R:Wr) (d:Nat) (_:vs=[.ref x,.int (d:Int)]) (_:ng K C CB CP H x R) (_:d<R.wl.length) (_:Q (.str (R.hk.getD d "")) H)
theorem iA(L:Lk K mg):aS P w K mg base cO 1 L.iI L.iM ["self","desk"] (Jg K L.ak L.aA L.aR):=by
 refine L.fV.F.d8 (N:=["self","desk"]) (λb A outer s H i Q E nd j h=>?_);obtain⟨x,R,d,rfl,⟨⟨c,p,m,a,l,dp,n,o,q,r,t,f,_,_,_,_,g,_⟩,ok⟩,hd,k⟩:=h;refine{_,(ae (ay (aW b5 (aC (pv 0) rfl) (pv 1) (λ_ _=>rfl)))),?_}
 ac_rfl
 have e:=getD_some ("":Str) (show d<R.hk.length by rw[ok.hl];exact hd);exact{_,rfl,x,L.ak,c,_,_,rfl,f,L.aj.cl,L.aj.fM,sj ..,_,rfl,a,_,_,_,rfl,rfl,g,bz (v:=.str (R.hk.getD d "")) (by rw[wa3,e];rfl),k}
inductive Jh(K:wa2)(C CB CP:Addr)(vs:List V)(H:Hp)(Q:VK)(dq:XK):Prop
 |mk (x:Addr) (R:Wr) (d:Nat) (_:vs=[.ref x,.int (d:Int)]) (_:ng K C CB CP H x R) (_:d<R.wl.length) (_:∀y H',a8 H H'->bK K (aL H H') (bV (R.wl.getD d [])) y->Q y H')
theorem eY(L:Lk K mg):aS P w K mg base cO 1 L.mj L.mF ["self","desk"] (Jh K L.ak L.aA L.aR):=by
 refine L.eA.F.d8 (N:=["self","desk"]) (λD A outer s H Y Q E nd e h=>?_);obtain⟨x,R,d,rfl,⟨⟨G,p,Z,a,l,dp,wa,wb,wc,wz,ys,I,_,_,_,hl,_⟩,ok⟩,hd,k⟩:=h;refine{_,(ae (ay (eV rfl (aw [] []) (aw [] []) ⋯ (aP (aW b5 (aC (pv 0) rfl) (pv 1) (λ_ _=>rfl))) (λ_ _ _ _ _ _=>b8) (λ_ _ _ _ _ _=>(dP (a9 (pv 0) (aM (pv 1)))))))),?_}
 ac_rfl
 obtain⟨l',J,M,f,g⟩:=id hl;cases M;have c:=bM hd;obtain⟨v,j,rd⟩:=g.at (i:=d) (d:=bV (R.wl.getD d [])) (by rw[wa3,c];rfl);have O:=ok.w.ln _ (wa8 c);have m8:=ok.m8;obtain⟨u,S,rfl,y,b,T⟩:=jZ rd;have m:=b;rw[wa0]at m;refine{_,rfl,x,L.ak,G,_,_,rfl,I,L.aj.cl,L.aj.cP,sq ..,_,rfl,l,J,_,_,rfl,rfl,.inl f,bz j,u,rfl,{_,y},λlc n=>?_};refine jl (prs:=(R.wl.getD d []).map dh) (λ_=>true) (λq=>.tup [.at q.1,.at q.2]) (aK K u S) b (λi q c=>let ⟨r,U,V⟩:=T i q c;{r,U,g8.of V}) n (aq (by lia)) (λB o=>o.seq y) (λq C X _ _ t=>t C (a8.refl _)) (λq C X c _ s3 t=>?_) (λB o r=>?_)
 .obtain⟨z,hz,rfl⟩:=wab.mp c;exact{_,rfl,_,rfl,by show 2<=sizeLine;decide,λr e=>t _ _ (a8.upd e) (lW e z)}
 .rw[wb1.mpr (λ_ _=>rfl),wah]at r;exact k _ B o r
inductive Oj(K:wa2)(C CB CP:Addr)(vs:List V)(H:Hp)(Q:VK)(dq:XK):Prop
 |mk (x a R ts) (_:vs=[.ref x,.ref a]) (_:ng K C CB CP H x R) (_:H a=some (.lst ((nI ts).map V.int))) (_:(∀t∈ts,(t:Int)<R.many)) (_:ts.length<=10000) (_:∀H',a8 H H'->Q (.str (KY R.wl R.b R.c ts)) H')
theorem wk{H:Hp}{x:Addr}{R:Wr}{Q:VK}{E:XK}(W:ng K C CB l H x R)(k:∀j,a8 H j->Q (.int (R.b:Int)) j):IC C CB [.ref x] H Q E:=by
 obtain⟨⟨a,p,c,h,i,dp,m,o,q,r,s,d,_,_,_,t,_,B⟩,ok⟩:=W;exact{x,c,a,_,R.n,R.g,R.bw,R.ss,R.ls,rfl,d,kg ..,ic ..,B,ok.n1,ok.oE,λw hw=>(ok.hw w hw).2,ok.bl,λb j e f=>by rw[Bs.kA.one f ok.bh];exact k j e}
inductive G0(K:wa2)(C CB CP:Addr)(vs:List V)(H:Hp)(Q:VK)(dq:XK):Prop
 |mk (x R) (_:vs=[.ref x]) (_:ng K C CB CP H x R) (_:∀a H',a8 H H'->gV H' a R.wl->Q (.ref a) H')
theorem ry{R:Wr}(ok:Dd R):∀k,k<=R.wl.length->(dA R.wl k).length<=k*8
 |0,_=>waq _
 |k+1,h=>by
  have a:=ry ok k (by lia);have:=ok.w.ln _ (wa8 (bM (show k<R.wl.length by lia)));have:=ok.m8;rw[vn,wa5,wa0]
  lia
theorem rz(L:Lk K mg):aS P w K mg base cO 2 L.kE L.kK ["writer"] (G0 K L.ak L.aA L.aR):=by
 have T:=L.T;refine L.kU.F.d8 (N:=["writer","steps","desk","word","end"]) (λgx A outer s H vs Q E nd m h=>?_);obtain⟨x,R,rfl,I,k⟩:=h
 refine{_,(a6 (ai (i:=1) da)
  (a6 (forA (bX rfl T.range (aM (ie (pv 0) L.aj.cl L.cN (cT L)))) (ax (i:=2)) (ae (forA (aP (yi (pv 0) L.aj.cl L.eA (eY L) (aM (pv 2)))) (dm rfl (aN (ax (i:=3)) (aN (ax (i:=4)) cA))) (ae (bj (gB waL waP waT cm (CZ (pv 1) (pv 3) (bY dN) ⟨rfl,rfl,rfl,rfl⟩) (aM (dP (a9 (pv 2) (aM (pv 4)))))))))))
  (ae (ay (pv 1))))),?_}
 ac_rfl
 refine λa ha=>?_;have s0:a8 H (upd H a (.dK [])):=a8.upd ha;obtain⟨⟨dx,p,xb,aa,ll,dp,wa,wb,wc,wz,ys,hx,_⟩,ok⟩:=id I;have OW:=ok.l1;have m8:=ok.m8;refine{_,rfl,x,dx,_,rfl,s0 _ _ hx,bE _ _ _ _ _ _ _ _ ∅,x,R,rfl,I.same s0,?_};refine{(R.wl.length:Int),rfl,by lia,by lia,?_};rw[war];refine bW (lo:=0) (n:=R.wl.length) (λi σ d=>i<=R.wl.length/\dY H d a (dA R.wl i)/\∃J f v4,σ=[some (.ref x),some (.ref a),J,f,v4]) {waq _,dY.start ha,none,none,none,rfl} ?_ ?_
 .rintro i σ d hi ⟨_,M,J,f,v4,rfl⟩;show cK 2 (V.int (0+(i:Int))) _ _ _;rw[wca];refine{_,rfl,x,dx,_,rfl,M.s _ _ hx,bE _ _ _ _ _ _ _ _ ∅,_,rfl,x,R,i,rfl,I.same M.s,hi,λy t s3 r3=>?_};obtain⟨yb,o,rfl,hS,O⟩:=cS r3;have S:=ok.w.ln _ (wa8 (bM hi));have U:=ry ok i (by lia);have u:o.length=(R.wl.getD i []).length:=by rw[O.1,wa0,wa0]
  have MB:=M.over s3;have X:a8 (aL d t) (lR H d t):=Im;have sO:a8 H (lR H d t):=Il M.s;have c:=vn R.wl i;generalize lR H d t=B at MB X sO;generalize R.wl.getD i []=b at O S u c;refine{yb,rfl,{_,(bI _ _).seq hS},dG (K:=K) (a:=yb) (xs:=o.map V.ref) (λj σ G=>dY B G a (dA R.wl i++(b.take j).map λq=>(i,q.1,q.2))/\∃f v4,σ=[some (.ref x),some (.ref a),some (.int (i:Int)),f,v4]) {by rw[wdB,wdY,waY];exact MB,f,v4,rfl} (λj σ G _ q=>(X.trans q.1.s).seq hS) ?_ ?_}
  .rintro j y σ G Y ⟨g,f,v4,rfl⟩;have hj:j<o.length:=by have:=(wa6.mp Y).1;rwa[wa0]at this
   have z:j<b.length:=by lia
   rw[wa3,wa1 hj]at Y;cases Y;have C:(aL d t) o[j]=some (.tup [.str b[j].1,.int (b[j].2:Int)]):=O.2 j o[j] (iE (dh b[j])) (wa1 hj) (by rw[wa3,wa3,wa1 z];rfl);have e:dA R.wl i++(b.take (j+1)).map (λq=>(i,q.1,q.2))=(dA R.wl i++(b.take j).map λq=>(i,q.1,q.2))++[(i,b[j].1,b[j].2)]:=by rw[waM,wa1 z,wai,waQ];rfl
   have Z:(dA R.wl i++(b.take j).map λq=>(i,q.1,q.2)).length<=400:=by rw[wa5,wa0,wad];lia
   generalize b[j]=q at C e;generalize dA R.wl i++(b.take j).map (λq=>(i,q.1,q.2))=done at g e Z;refine{o[j],_,rfl,g8.of (X.trans g.s _ _ C),rfl,_,_,rfl,_,_,rfl,rfl,?_};obtain⟨_,_,kv0,Ri,_⟩:=id g;refine{_,rfl,a,rfl,.inl {_,.inl Ri},_,rfl,waq _,λl0 Jd=>?_};obtain⟨D,k1,k2,k3,k4⟩:=g.step Jd q.1 i q.2;refine{D,wak q.1,k1,rfl,?_,λv hv=>?_,λhn=>?_}
   .have:=gA D (wak q.1:Key) (.ref l0);exact aq (by lia)
   .obtain⟨l,Sa,rfl,a1,a2,a3⟩:=k3 v hv;refine{.inl {rfl,_,aH.of a1},_,rfl,_,rfl,by show 2<=sizeLine;decide,λr m=>{l,_,_,rfl,rfl,a8.upd m _ _ a1,by rw[wa0];exact bg (by lia),?_}};rw[e];exact{a3 r m,_,_,rfl}
   .obtain⟨a1,a3⟩:=k4 hn;refine{.inl {rfl,_,aH.of a1},_,rfl,_,rfl,by show 2<=sizeLine;decide,λr m=>{l0,_,_,rfl,rfl,a8.upd m _ _ a1,by show 0<sizeLine;decide,?_}};rw[e];exact{a3 r m,_,_,rfl}
  .rintro σ G ⟨g,f,v4,rfl⟩;rw[wa0,u,waH,<-c]at g;exact{hi,g.back sO,_,_,_,rfl}
 .rintro σ d ⟨_,M,J,f,v4,rfl⟩;have U:=ry ok _ (waa _);exact{_,rfl,k a d M.s (M.done (by lia))}
inductive G1(K:wa2)(C CB CP CE:Addr)(vs:List V)(H:Hp)(Q:VK)(dq:XK):Prop
 |mk (z dz x R) (_:vs=[.ref z,.ref x]) (_:H z=some (.ins CE dz [])) (_:ng K C CB CP (fB H z) x R) (_:∀H',(∀c o,H c=some o->c≠z->H' c=some o)->Bd K C CB CP CE H' z R->Q .non H')
theorem oG(L:Lk K mg):aS P w K mg base cO 3 L.fN L.iJ ["self","writer"] (G1 K L.ak L.aA L.aR L.aQ):=by
 refine L.iO.F.d8 (N:=["self","writer"]) (λj A outer s H n Q E nd p h=>?_);obtain⟨z,b,x,R,rfl,l,g,k⟩:=h
 refine{_,(a6 (d1 (pv 0) (pv 1) rfl)
  (ae (d1 (pv 0) (au (rz L) L.kU (aM (pv 1))) rfl))),?_}
 ac_rfl
 refine{_,rfl,_,rfl,z,L.aQ,b,[],rfl,l,L.aG.cl,L.aG.cM,(show 0<1000 by decide),?_};rw[M0];have g2:(upd H z (.ins L.aQ b (xu x))) z=some (.ins L.aQ b (xu x)):=a7;have d:∀c o,H c=some o->c≠z->(upd H z (.ins L.aQ b (xu x))) c=some o:=λc o e hc=>by rw[af hc];exact e
 generalize upd H z (.ins L.aQ b (xu x))=q at g2 d;refine{_,rfl,x,R,rfl,g.same (eX d),λa m f P3=>?_};refine{_,rfl,z,L.aQ,b,_,rfl,f _ _ g2,L.aG.cl,L.aG.DP,(show 1<1000 by decide),?_};rw[Gu];have i:∀c o,H c=some o->c≠z->(upd m z (.ins L.aQ b (Gs x a))) c=some o:=λc o e hc=>by rw[af hc];exact f _ _ (d c o e hc)
 exact k _ i {b,x,a,a7,P3.put (f _ _ g2) _,g.same (eX i)}
inductive Lx(K:wa2)(C CB CP CE:Addr)(u:Wr->V)(vs:List V)(H:Hp)(Q:VK)(dq:XK):Prop
 |mk (z R) (_:vs=[.ref z]) (_:Bd K C CB CP CE H z R) (_:∀H',a8 H H'->Q (u R) H')
theorem iB(L:Lk K mg):aS P w K mg base cO 4 L.eK L.eL ["self"] (Lx K L.ak L.aA L.aR L.aQ (λR=>.int ((R.b:Int)+1+(R.c:Int)))):=by
 refine L.eN.F.d8 (N:=["self"]) (λl A outer s H n Q E nd o h=>?_);obtain⟨z,R,rfl,⟨f,x,a,g,q,e⟩,k⟩:=h;refine{_,(ae (ay (aD cu (aD cu (ie (aC (pv 0) rfl) L.aj.cl L.cx (cJ L)) ao) (ie (aC (pv 0) rfl) L.aj.cl L.fU (gO L))))),?_}
 ac_rfl
 obtain⟨⟨i,p,r,t,u,dp,v,y,B,C,D,j,_⟩,ok⟩:=id e;refine{_,rfl,z,L.aQ,f,_,_,rfl,g,L.aG.cl,L.aG.cM,bo x a,x,i,_,rfl,j,bE _ _ _ _ _ _ _ _ ∅,wk e λm d=>?_};exact{_,_,rfl,rfl,_,rfl,z,L.aQ,f,_,_,rfl,d _ _ g,L.aG.cl,L.aG.cM,bo x a,x,i,_,rfl,d _ _ j,bE _ _ _ _ _ _ _ _ ∅,x,R,rfl,e.same d,_,_,rfl,rfl,k m d}
inductive G2(K:wa2)(C CB CP CE:Addr)(vs:List V)(H:Hp)(Q:VK)(dq:XK):Prop
 |mk (z R us) (_:vs=[.ref z,.str (cat us)]) (_:Bd K C CB CP CE H z R) (_:(∀u∈us,u.length=R.n)) (_:us.length<=2000) (_:∀l ds H',a8 H H'->H' l=some (.lst ((nI ds).map V.int))->(∀e:Nat,e∈ds↔e<R.wl.length/\gD R.wl e us)->Q (.ref l) H')
theorem iY(L:Lk K mg):aS P w K mg base cO 2 L.fo L.fu ["self","row"] (G2 K L.ak L.aA L.aR L.aQ):=by
 have T:=L.T;refine L.fz.F.d8 (N:=["self","row","wide","blocks","desks","block"]) (λgx A outer s H vs Q E nd hr h=>?_);obtain⟨z,R,b,rfl,⟨dz,x,a,hz,hP,Wv⟩,O,ul,k⟩:=h;have hu:=eT hr
 refine{_,(a6 (ai (i:=2) (aC (aC (pv 0) rfl) rfl))
  (a6 (cZ (i:=3) rfl (aw ["row","wide"] [1,2]) nd rfl rfl (FE rfl T.range (a9 ao (a9 (y8 T.len (pv 1)) (aM (pv 2))))) (λ_ _ _ _ _ _=>b8) (λ_ _ _ _ _ _=>(b6 et (pv 1) (aV (pv 0)) (aV (aD cu (pv 0) (pv 2))))))
  (a6 (ai (i:=4) (bB (uK rfl) (by rfl) T.list i9 (aM (bB rL (by rfl) T.range DL (aM (ie (aC (pv 0) rfl) L.aj.cl L.cN (cT L)))))))
  (a6 (forA (O8 (by rfl) T.reversed (aM (pv 3))) (ax (i:=5)) (ae (ai (i:=4) (au (xa L) L.qf (a9 (Hk hu (aC (pv 0) rfl) (pv 5) (bY dN) ⟨rfl,rfl,rfl,rfl⟩) (aM (pv 4)))))))
  (ae (ay (pv 4))))))),?_}
 ac_rfl
 obtain⟨⟨dx,p,xb,aa,ll,dp,wa,wb,wc,wz,ys,hx,_⟩,ok⟩:=id Wv;have n1:=ok.n1;have oE:=ok.oE;have l1:=ok.l1;have zL:(cat b).length=R.n*b.length:=dX O;have OT:R.n*b.length<=10*2000:=wby oE ul;refine{_,rfl,z,L.aQ,dz,_,_,rfl,hz,L.aG.cl,L.aG.cM,bo x a,x,L.ak,dx,_,_,rfl,hx,L.aj.cl,L.aj.rj,ic ..,?_};refine{_,rfl,cat b,rfl,aq (),?_};rw[zL,wb0];refine{_,rfl,(R.n:Int),b.length,rfl,(),(),by rw[<-wb0];omega,(),λlb ZG=>?_};refine comp_map (λv=>match v with |.int i=>.str (waU (cat b) (some i) (some (i+(R.n:Int)))) |_=>.non) (lF 0 (R.n:Int) b.length) ZG (by rw[wa0,waJ];exact aq ()) (λ_ _=>trivial) (λv D Q' hv S q=>?_) (λD S G=>?_)
 .obtain⟨i,hi,rfl⟩:=wab.mp hv;exact{_,rfl,_,rfl,_,rfl,_,rfl,_,rfl,_,_,rfl,rfl,_,rfl,cat b,rfl,aq (),q D (a8.refl _)}
 have em:((waD b.length).map λ(i:Nat)=>V.int (0+(i:Int)*(R.n:Int))).map (λv=>match v with |.int i=>V.str (waU (cat b) (some i) (some (i+(R.n:Int)))) |_=>.non)=b.map V.str:=by
  rw[wah];refine List.ext_getElem (by rw[wa0,wa0,waJ]) λi h1 G=>?_;rw[wa0]at G;rw[whW,whW,List.getElem_range];show V.str (waU (cat b) (some (0+(i:Int)*(R.n:Int))) (some (0+(i:Int)*(R.n:Int)+(R.n:Int))))=_;rw[show (0:Int)+(i:Int)*(R.n:Int)=((R.n*i:Nat):Int) by rw[wca,wb0,weV],show ((R.n*i:Nat):Int)+(R.n:Int)=((R.n*(i+1):Nat):Int) by rw[wci];omega,ud O (wbR i) G];rw[show (b.take (i+1)).drop i=[b[i]] by rw[waM,wa1 G,wc3 (by rw[wad];omega),wbs (by rw[wad];omega)];rfl,zc]
 rw[em]at G;refine{_,rfl,z,L.aQ,dz,_,_,rfl,S _ _ hz,L.aG.cl,L.aG.cM,bo x a,x,dx,_,rfl,S _ _ hx,bE _ _ _ _ _ _ _ _ ∅,x,R,rfl,Wv.same S,?_};refine{_,rfl,λpg ZH=>{pg,R.wl.length,rfl,a7,aq (),λU Jd=>?_}};have s3:a8 D (upd (upd D pg (.rng 0 (R.wl.length:Int))) U (.lst ((waD R.wl.length).map λi=>V.int (i:Nat)))):=(a8.upd ZH).trans (a8.upd Jd);have h3:(upd (upd D pg (.rng 0 (R.wl.length:Int))) U (.lst ((waD R.wl.length).map λi=>V.int (i:Nat)))) U=some (.lst ((nI (waD R.wl.length)).map V.int)):=by rw[a7,vd]
 generalize upd (upd D pg (.rng 0 (R.wl.length:Int))) U (.lst ((waD R.wl.length).map λi=>V.int (i:Nat)))=H3 at s3 h3;have X:=S.trans s3;have Y:=s3 _ _ G;refine{_,rfl,lb,_,rfl,aH.of Y,iT (Ic K lb (b.map V.str)) (λi σ f=>i<=b.length/\a8 H3 f/\∃l j v5,σ=[some (.ref z),some (.str (cat b)),some (.int (R.n:Int)),some (.ref lb),some (.ref l),v5]/\f l=some (.lst ((nI j).map V.int))/\(∀e:Nat,e∈j↔e<R.wl.length/\gD R.wl e (b.drop (b.length-i)))/\j.length<=1000) {waq _,a8.refl _,U,_,none,rfl,h3,λe=>?_,by rw[waJ];omega} (λi σ f _ q=>aH.of (q.2.1 _ _ Y)) ?_ ?_}
 .rw[wb7,whm,wfN];exact{λh=>⟨h,trivial⟩,λh=>h.1}
 .rintro i y σ f hy ⟨_,Z,l,j,v5,rfl,h4,hd,dl⟩;have hi:i<b.length:=by have:=(wa6.mp hy).1;rwa[wcF,wa0]at this
  rw[wgC (by rw[wa0];exact hi),wa0,wa3,wa1 (show b.length-1-i<b.length by omega)]at hy;cases hy
  have B:b.drop (b.length-(i+1))=b[b.length-1-i]::b.drop (b.length-i):=by
   refine(congrArg (b.drop ·) (show b.length-(i+1)=b.length-1-i by omega)).trans ?_;rw[wcq (show b.length-1-i<b.length by omega),show b.length-1-i+1=b.length-i by omega]
  generalize b[b.length-1-i]'()=w at B;generalize b.drop (b.length-i)=rest at hd B;have C:=X.trans Z;obtain⟨kvs,p1,p2⟩:=id hP
  have fin:∀(lp:Addr) (I:List Addr) (ps:List (Nat×Nat)) (m:Hp),a8 f m->m lp=some (.lst (I.map V.ref))->bc m I (ps.map jd)->ps.length<=1000->(∀i e:Nat,(i,e)∈ps↔(w,e)∈R.wl.getD i [])->∀(y:Addr) (c:List Nat) (H':Hp),a8 m H'->(∀i:Nat,i∈c↔∃e∈j,(i,e)∈ps)->∀e:Nat,e∈c↔e<R.wl.length/\gD R.wl e (b.drop (b.length-(i+1))):=by
   intro lp I ps m _ _ _ _ J y c H' _ JH e;rw[JH,B];constructor
   .rintro⟨e',r,t⟩;have M:=(J _ _).mp t;refine{wbD λq=>?_,e',M,((hd _).mp r).2};rw[wa4,wcp ()]at M;cases M
   .rintro⟨_,e',r,t⟩;exact{e',(hd _).mpr {ok.rd.e _ _ r,t},(J _ _).mpr r}
  refine{_,rfl,z,L.aQ,dz,_,_,rfl,C _ _ hz,L.aG.cl,L.aG.DP,AO x a,a,rfl,.inl {_,.inl (C _ _ p1)},_,rfl,waq _,λle hle=>?_};have u:=a8.upd (H:=f) (o:=.lst []) hle;have h5:(upd f le (.lst [])) le=some (.lst (([]:List Addr).map V.ref)):=a7;generalize upd f le (.lst [])=m at u h5;have d:=C.trans u;have g:=ee.k (k:=(wak w:Key)) (d _ _ p1);rcases p2 w with⟨r,t⟩ |⟨lp,I,ps,r,t,M,q4,q5⟩
  .rw[r]at g;refine{none,g,_,rfl,le,l,[],[],j,rfl,aH.of h5,bc.nil _,aH.of (u _ _ h4),waq _,dl,λy c H6 s6 h6 J hl=>?_};exact{hi,Z.trans (u.trans s6),y,c,_,rfl,h6,fin le [] [] m u h5 (bc.nil _) (waq _) (λi e=>{(λh=>nomatch h),λh=>absurd h (t i e)}) y c H6 s6 J,wal hl (waq _)}
  .rw[r]at g;refine{some (.ref lp),g,_,rfl,lp,l,I,ps,j,rfl,aH.of (d _ _ t),M.same d,aH.of (u _ _ h4),q4,dl,λy c H6 s6 h6 J hl=>?_};exact{hi,Z.trans (u.trans s6),y,c,_,rfl,h6,fin lp I ps m u (d _ _ t) (M.same d) q4 q5 y c H6 s6 J,wal hl q4}
 .rintro σ f ⟨_,Z,l,j,v5,rfl,h4,hd,dl⟩;rw[wcF,wa0,wbA,wdz]at hd;exact{_,rfl,k l j f (X.trans Z) h4 hd}
inductive G3(K:wa2)(C CB CP CE:Addr)(vs:List V)(H:Hp)(Q:VK)(dq:XK):Prop
 |mk (z R bs w us) (_:vs=[.ref z,.str (cat (bs++w::us))]) (_:Bd K C CB CP CE H z R) (_:(∀u∈bs++w::us,u.length=R.n/\∀c∈ch u,c∈ch R.g)) (_:bs.length=R.b) (_:us.length=R.c) (_:(bears R.bw (cat bs)=true->∀H',a8 H H'->Q .non H')) (_:(∀i:Nat,bears R.bw (cat bs)=false->gQ R.ss R.hk R.wl (cat bs) w us i->∀H',a8 H H'->Q (.int (i:Int)) H')) (_:(bears R.bw (cat bs)=false->(∀i,¬gQ R.ss R.hk R.wl (cat bs) w us i)->∀H',a8 H H'->Q .non H'))
theorem kq(L:Lk K mg):aS P w K mg base cO 4 L.g9 L.gb ["self","window"] (G3 K L.ak L.aA L.aR L.aQ):=by
 have T:=L.T;refine L.gf.F.d8 (N:=["self","window","start","end","place","desks","desk","number","step"]) (λgx A outer s H vs Q E nd hr h=>?_);obtain⟨z,R,bs,w,k,rfl,D,hw,hb,hc,kB,kI,kN⟩:=h
 refine{_,(a6 (ai (i:=2) (aD f5 (ie (aC (pv 0) rfl) L.aj.cl L.cx (cJ L)) (aC (aC (pv 0) rfl) rfl)))
  (a6 (ai (i:=3) (aD cu (pv 2) (aC (aC (pv 0) rfl) rfl)))
  (a6 (bA (eh (cC (yi (aC (aC (pv 0) rfl) rfl) L.aI.cl L.mL (tP L) (aM (b6 et (pv 1) cB (aV (pv 2))))))) (ae (ay fC)) aO)
  (a6 (ai (i:=4) (yi (aC (aC (pv 0) rfl) rfl) L.aI.cl L.kZ (rx L) (aM (b6 et (pv 1) cB (aV (pv 2))))))
  (a6 (ai (i:=5) (yi (pv 0) L.aG.cl L.fz (iY L) (aM (b6 et (pv 1) (aV (pv 3)) cB))))
  (a6 (forA (bX rfl T.range (aM (ie (aC (pv 0) rfl) L.aj.cl L.cN (cT L)))) (ax (i:=6)) (ae (bA (d4 hZ (yi (aC (pv 0) rfl) L.aj.cl L.fV (iA L) (aM (pv 6))) (pv 4)) (ae (forA (jK (by rfl) T.enum (aM (yi (aC (pv 0) rfl) L.aj.cl L.eA (eY L) (aM (pv 6))))) (dm rfl (aN (ax (i:=7)) (aN (ax (i:=8)) cA))) (ae (bA (PW.pt (BE (d4 hZ (aW eQ (pv 8) ao (λ_ _=>rfl)) (b6 et (pv 1) (aV (pv 2)) (aV (pv 3)))) (yH (fD qH (aW eQ (pv 8) ao (λ_ _=>rfl)) (pv 5) rfl)))) (ae (ay (pv 7))) aO)))) aO)))
  (ae (ay fC)))))))),?_}
 ac_rfl
 obtain⟨I,x,a,J,hP,Wv⟩:=id D;obtain⟨⟨Y,p,xb,aa,ll,dp,wa,wb,wc,wz,ys,Z,_,_,_,_,_,B⟩,ok⟩:=id Wv;obtain⟨⟨Wx,bb,db,qb,mv,Wy,_⟩,_,_,_⟩:=id B;have n1:=ok.n1;have oE:=ok.oE;have l1:=ok.l1;have b1:=ok.b1;have c1:=ok.c1;have f:∀u∈bs++w::k,u.length=R.n:=λu h=>(hw u h).1;have zm:(cat (bs++w::k)).length=R.n*(R.b+(R.c+1)):=by rw[dX f,wa5,waE,hb,hc]
 have Ss:R.n*(R.b+(R.c+1))<=10*3000:=wby oE (by lia);have e1:waU (cat (bs++w::k)) none (some ((R.n*R.b:Nat):Int))=cat bs:=by rw[IZ f,<-hb,wef]
 have e2:waU (cat (bs++w::k)) (some ((R.n*(R.b+1):Nat):Int)) none=cat k:=by
  rw[J0 f,<-hb,show bs++w::k=(bs++[w])++k by rw[waQ];rfl,show bs.length+1=(bs++[w]).length by rw[wa5];rfl,wgB]
 have e3:waU (cat (bs++w::k)) (some ((R.n*R.b:Nat):Int)) (some ((R.n*(R.b+1):Nat):Int))=w:=by
  rw[ud f (show R.b<=R.b+1 by lia) (by rw[wa5,waE];lia),<-hb,show bs++w::k=(bs++[w])++k by rw[waQ];rfl,show bs.length+1=(bs++[w]).length by rw[wa5];rfl,wef,wgB,zc]
 have Wz:∀c∈ch (cat bs),c∈ch R.g:=D0 λu h=>(hw u (waS _ h)).2;have Sh:∀u∈k,u.length=R.n:=λu h=>f u (waI _ (wac _ h));generalize Ol:cat (bs++w::k)=win at zm e1 e2 e3;clear f hw Ol;refine nc λR1 q1=>?_;refine{_,rfl,z,L.aQ,I,_,_,rfl,J,L.aG.cl,L.aG.cM,bo x a,x,Y,_,rfl,Z,bE _ _ _ _ _ _ _ _ ∅,wk Wv λH1 M=>?_};refine{_,rfl,z,L.aQ,I,_,_,rfl,M _ _ J,L.aG.cl,L.aG.cM,bo x a,x,L.ak,Y,_,_,rfl,M _ _ Z,L.aj.cl,L.aj.rj,ic ..,_,_,rfl,rfl,.inl {by lia,by lia},?_};show cK 2 (V.int ((R.b:Int)*(R.n:Int))) _ _ _;rw[show (R.b:Int)*(R.n:Int)=((R.n*R.b:Nat):Int) by rw[wb0,weV]];refine q1 _ _ (nc λR2 q2=>?_);refine{_,rfl,_,rfl,z,L.aQ,I,_,_,rfl,M _ _ J,L.aG.cl,L.aG.cM,bo x a,x,L.ak,Y,_,_,rfl,M _ _ Z,L.aj.cl,L.aj.rj,ic ..,_,_,rfl,rfl,?_};show cK 3 (V.int (((R.n*R.b:Nat):Int)+(R.n:Int))) _ _ _;rw[show ((R.n*R.b:Nat):Int)+(R.n:Int)=((R.n*(R.b+1):Nat):Int) by rw[wci];lia];refine q2 _ _ (nc λR3 q3=>?_);refine{_,rfl,z,L.aQ,I,_,_,rfl,M _ _ J,L.aG.cl,L.aG.cM,bo x a,x,L.ak,Y,_,_,rfl,M _ _ Z,L.aj.cl,L.aj.vE,kg ..,xb,Wx,_,rfl,M _ _ Wy,Cg _ _ _ _ ∅ ∅ ∅ ∅,_,rfl,_,rfl,_,rfl,win,rfl,aq (by lia),?_};rw[e1];refine{xb,cat bs,R.g,R.bw,R.ss,R.ls,rfl,B.same M,Wz,ok.bl,λH2 s2=>?_};have t:=M.trans s2
 cases O:bears R.bw (cat bs) with
 |true=>exact{false,rfl,eB (kB O H2 t)}
 |false=>
  refine{true,rfl,cq ?_};refine q3 _ _ (nc λR4 q4=>?_);refine{_,rfl,z,L.aQ,I,_,_,rfl,t _ _ J,L.aG.cl,L.aG.cM,bo x a,x,L.ak,Y,_,_,rfl,t _ _ Z,L.aj.cl,L.aj.vE,kg ..,xb,Wx,_,rfl,t _ _ Wy,Cg _ _ _ _ ∅ ∅ ∅ ∅,_,rfl,_,rfl,_,rfl,win,rfl,aq (by lia),?_};rw[e1];refine{xb,cat bs,R.g,R.bw,R.ss,R.ls,rfl,B.same t,Wz,O,λw hw=>(ok.hw w hw).1,λH3 s3=>?_};have wu:=t.trans s3;refine q4 _ _ (nc λR5 q5=>?_);refine{_,rfl,z,I,_,rfl,wu _ _ J,i7 (by show ("desks_ahead_of":Str)∉[("writer":Str),"pairs"];decide+kernel),_,rfl,_,rfl,_,rfl,win,rfl,aq (by lia),?_};rw[e2];refine{z,R,k,rfl,D.same wu,Sh,by lia,λld ds H4 s4 h4 hd=>?_};have G:=wu.trans s4;generalize hpl:lend R.ss (cat bs)=pl;refine q5 _ _ ?_;clear q1 q2 q3 q4 q5;refine{_,rfl,z,L.aQ,I,_,_,rfl,G _ _ J,L.aG.cl,L.aG.cM,bo x a,x,Y,_,rfl,G _ _ Z,bE _ _ _ _ _ _ _ _ ∅,x,R,rfl,Wv.same G,(R.wl.length:Int),rfl,by lia,by lia,?_};rw[war];refine bW (lo:=0) (n:=R.wl.length) (Yv R H4 pl w win k z ld) {waq _,a8.refl _,λd j e h=>absurd h (wcP _),none,none,none,rfl} ?_ ?_
  .rintro i σ H5 hi ⟨_,s5,S,v6,v7,v8,rfl⟩;show cK 6 (V.int (0+(i:Int))) _ _ _;rw[wca];have l:=G.trans s5;refine{_,rfl,z,L.aQ,I,_,_,rfl,l _ _ J,L.aG.cl,L.aG.cM,bo x a,x,Y,_,rfl,l _ _ Z,bE _ _ _ _ _ _ _ _ ∅,_,rfl,x,R,i,rfl,Wv.same l,hi,_,rfl,rfl,_,rfl,o7 (λh1=>?_) (λh1=>?_)}
   .have Ls:R.hk.getD i ""=pl:=V.str.inj (of_decide_eq_true h1);refine{_,rfl,z,L.aQ,I,_,_,rfl,l _ _ J,L.aG.cl,L.aG.cM,bo x a,x,Y,_,rfl,l _ _ Z,bE _ _ _ _ _ _ _ _ ∅,_,rfl,x,R,i,rfl,Wv.same l,hi,λy H6 s6 r6=>?_};obtain⟨yb,U,rfl,hS,hT⟩:=cS (bK.same (bI _ _) _ _ r6);have zA:U.length=(R.wl.getD i []).length:=by rw[hT.1,wa0,wa0]
    refine{yb,_,rfl,hS,lJ (K:=K) (a:=yb) (xs:=U.map V.ref) (U0 R H6 pl w win k z ld i) {a8.refl _,λj e h=>absurd h (wcP _),v7,v8,rfl} (λj σ H7 _ q=>q.s.seq hS) ?_ (λσ H7 q=>?_)}
    .rintro j y σ H7 T hy ⟨s7,r,v7,v8,rfl⟩ ZI;have hj:j<U.length:=by have:=(wa6.mp hy).1;rwa[wa0]at this
     have WB:j<(R.wl.getD i []).length:=by lia
     rw[wa3,wa1 hj]at hy;cases hy;have Om:H6 U[j]=some (.tup [.str (R.wl.getD i [])[j].1,.int ((R.wl.getD i [])[j].2:Int)]):=hT.2 j U[j] (iE (dh (R.wl.getD i [])[j])) (wa1 hj) (by rw[wa3,wa3,wa1 WB];rfl);have X:(R.wl.getD i [])[j]?=some (R.wl.getD i [])[j]:=wa1 WB;generalize (R.wl.getD i [])[j]=q at Om X;have s8:=a8.upd (H:=H7) (o:=.tup [.int (j:Nat),.ref U[j]]) ZI;refine{T,_,rfl,g8.of a7,rfl,_,_,rfl,_,_,rfl,rfl,?_};generalize upd H7 T (.tup [.int (j:Nat),.ref U[j]])=H8 at s8;have v:=s7.trans s8;have Ly:=l.trans (s6.trans v)
     have next:¬(q.1=w/\gD R.wl q.2 k)->∀j' e:Nat,j'<j+1->(R.wl.getD i [])[j']?=some (w,e)->¬gD R.wl e k:=λhn j' e h1 C m=>by
      by_cases c:j'<j
      .exact r j' e c C m
      .obtain rfl:j'=j:=by lia
       rw[X]at C;have C:=waf C;exact hn {congrArg Prod.fst C,by rw[show q.2=e from congrArg Prod.snd C];exact m}
     refine{_,rfl,U[j],_,_,_,rfl,rfl,g8.of (v _ _ Om),rfl,_,rfl,_,rfl,_,rfl,_,rfl,_,rfl,win,rfl,aq (by lia),?_};rw[e3];refine{rfl,_,rfl,o7 (λC=>?_) (λC=>?_)}
     .have UU:q.1=w:=V.str.inj (of_decide_eq_true C);refine{_,rfl,U[j],_,_,_,rfl,rfl,g8.of (v _ _ Om),rfl,_,rfl,ld,_,rfl,.inl (aH.of ((s5.trans (s6.trans v)) _ _ h4)),rfl,gX _,_,rfl,?_};rw[Af];refine o7 (λm=>?_) (λm=>?_)
      .have m:=(hd _).mp (of_decide_eq_true m);exact{_,rfl,kI j O {i,q.2,hi,by rw[hpl];exact Ls,by rw[X,<-UU],m.2} H8 Ly}
      .exact{v,next λh=>m (decide_eq_true ((hd _).mpr ⟨ok.rd.e _ _ (wa8 X),h.2⟩)),_,_,rfl}
     .exact{v,next λh=>C (decide_eq_true (congrArg V.str h.1)),_,_,rfl}
    .obtain⟨s7,r,v7',v8',rfl⟩:=q;rw[wa0]at r;refine{hi,s5.trans (s6.trans s7),λd j e h1 C m=>?_,_,_,_,rfl}
     by_cases c:d<i
     .exact S d j e c C m
     .obtain rfl:d=i:=by lia
      exact r j e (by have:=(wa6.mp m).1;lia) m
   .refine{hi,s5,λd j e C m h4=>?_,_,_,_,rfl}
    by_cases c:d<i
    .exact S d j e c m h4
    .obtain rfl:d=i:=by lia
     exact absurd (decide_eq_true (congrArg V.str m)) h1
  .rintro σ H5 ⟨_,s5,S,v6,v7,v8,rfl⟩;refine kN O (λi h=>?_) H5 (G.trans s5);obtain⟨d,e,q1,q2,q3,q4⟩:=h;exact S d i e q1 (by rw[q2,hpl]) q3 q4
theorem Rj{R:Wr}(ok:Dd R):R.o.1.length=R.n*R.b:=by
 have m1:=ok.m1;have a:=qw ok.w (wc1.mpr ok.w.ne) (ts:=waj R.b 0) λt c=>by rw[(wdo.mp c).2];lia
 rw[waN]at a;exact a.2
inductive Ji(K:wa2)(C CB CP CE:Addr)(vs:List V)(H:Hp)(Q:VK)(dq:XK):Prop
 |mk (z R bs w us) (_:vs=[.ref z,.str (cat (bs++w::us))]) (_:Bd K C CB CP CE H z R) (_:(∀u∈bs++w::us,u.length=R.n/\∀c∈ch u,c∈ch R.g)) (_:bs.length=R.b) (_:us.length=R.c) (_:∀H',a8 H H'->Q (wG R bs w us) H')
theorem qx(L:Lk K mg):aS P w K mg base cO 5 L.jm L.jq ["self","window"] (Ji K L.ak L.aA L.aR L.aQ):=by
 have T:=L.T;refine L.jv.F.d8 (N:=["self","window"]) (λI A outer s H Y Q E nd Z h=>?_);obtain⟨z,R,bs,w,m,rfl,D,hw,v,hc,k⟩:=h
 refine{_,(a6 (bj (yi (aC (aC (pv 0) rfl) rfl) L.aI.cl L.eG (fY L) (aM (pv 1))))
  (a6 (bA (d4 M6 (y8 T.len (pv 1)) (aD f5 (ie (pv 0) L.aG.cl L.eN (iB L)) (aC (aC (pv 0) rfl) rfl))) d9 aO)
  (ae (ay (yi (pv 0) L.aG.cl L.gf (kq L) (aM (pv 1))))))),?_}
 ac_rfl
 obtain⟨j,x,a,l,hP,W⟩:=id D;obtain⟨⟨y,p,C,aa,ll,dp,wa,wb,wc,wz,ys,G,_,_,_,_,_,B⟩,ok⟩:=id W;obtain⟨⟨o,bb,db,qb,mv,q,_⟩,_,_,_⟩:=id B;have oE:=ok.oE;have b1:=ok.b1;have c1:=ok.c1;have r:(cat (bs++w::m)).length=R.n*(R.b+1+R.c):=by rw[dX λu h=>(hw u h).1,wa5,waE,v,hc,show R.b+(R.c+1)=R.b+1+R.c by lia]
 have J:R.n*(R.b+1+R.c)<=10*3000:=wby oE (by lia);refine{_,rfl,z,L.aQ,j,_,_,rfl,l,L.aG.cl,L.aG.cM,bo x a,x,L.ak,y,_,_,rfl,G,L.aj.cl,L.aj.vE,kg ..,C,o,_,rfl,q,Cg _ _ _ _ ∅ ∅ ∅ ∅,_,rfl,C,_,R.g,R.bw,R.ss,R.ls,rfl,B,D0 λu h=>(hw u h).2,λH1 t=>?_};refine{_,rfl,_,rfl,aq (by lia),_,rfl,z,j,_,rfl,t _ _ l,i7 (by show ("blocks_in_window":Str)∉[("writer":Str),"pairs"];decide+kernel),z,R,rfl,D.same t,λH2 M=>?_};have d:=t.trans M;refine{_,rfl,z,L.aQ,j,_,_,rfl,d _ _ l,L.aG.cl,L.aG.cM,bo x a,x,L.ak,y,_,_,rfl,d _ _ G,L.aj.cl,L.aj.rj,ic ..,_,_,rfl,rfl,.inl {by lia,by lia},rfl,false,?_,cq ?_}
 .show V.bl (!decide (V.int ((cat (bs++w::m)).length:Int)=V.int (((R.b:Int)+1+(R.c:Int))*(R.n:Int))))=_;rw[r,show ((R.b:Int)+1+(R.c:Int))*(R.n:Int)=((R.n*(R.b+1+R.c):Nat):Int) by rw[wb0,weV];rfl];exact MQ _
 obtain⟨O,S,U⟩:=Ea ok (bs:=bs) (w:=w) hc;refine{_,rfl,z,j,_,rfl,d _ _ l,i7 (by show ("word_fitting":Str)∉[("writer":Str),"pairs"];decide+kernel),_,rfl,z,R,bs,w,m,rfl,D.same d,hw,v,hc,λh e f=>?_,λi h X e f=>?_,λh hn e f=>?_}
 .rw[<-O h];exact k e (d.trans f)
 .rw[<-S i h X];exact k e (d.trans f)
 .rw[<-U h hn];exact k e (d.trans f)
inductive Jj(K:wa2)(C CB CP:Addr)(vs:List V)(H:Hp)(Q:VK)(dq:XK):Prop
 |mk (x R) (_:vs=[.ref x,.int (R.n:Int)]) (_:ng K C CB CP H x R) (_:∀H',a8 H H'->Q (.int ((R.n*(R.b+1+R.c):Nat):Int)) H')
theorem zG(L:Lk K mg):aS P w K mg base cO 4 L.sJ L.sY ["_law_told_here","_law_wide"] (Jj K L.ak L.aA L.aR):=by
 refine L.tu.F.d8 (N:=["_law_told_here","_law_wide"]) (λj A outer s H m Q E nd o h=>?_);obtain⟨x,R,rfl,a,k⟩:=h;refine{_,(ae (ay (aD f5 (pv 1) (aD cu (aD cu (ie (pv 0) L.aj.cl L.cx (cJ L)) ao) (ie (pv 0) L.aj.cl L.fU (gO L)))))),?_}
 ac_rfl
 obtain⟨⟨f,p,q,r,t,dp,u,v,y,z,B,g,_⟩,ok⟩:=id a;have oE:=ok.oE;have b1:=ok.b1;have c1:=ok.c1;refine{_,rfl,_,rfl,x,f,_,rfl,g,bE _ _ _ _ _ _ _ _ ∅,wk a λl d=>?_};refine{_,_,rfl,rfl,_,rfl,x,f,_,rfl,d _ _ g,bE _ _ _ _ _ _ _ _ ∅,x,R,rfl,a.same d,_,_,rfl,rfl,_,_,rfl,rfl,.inl {by lia,by lia},?_};have e:(R.n:Int)*((R.b:Int)+1+(R.c:Int))=((R.n*(R.b+1+R.c):Nat):Int):=by rw[wb0];rfl
 have i:=k l d;rw[<-e]at i;exact i
inductive Lz(K:wa2)(C CB CP:Addr)(vs:List V)(H:Hp)(Q:VK)(dq:XK):Prop
 |mk (x R cell) (_:vs=[.ref x,.str R.g,.int cell,.int R.many,.int (R.n:Int)]) (_:ng K C CB CP H x R) (_:1<=R.g.length) (_:2<=R.many) (_:R.n*(R.b+1+R.c)<=1000) (_:∀s H',a8 H H'->EX R s->Q (.str s) H')
inductive Eb(K:wa2)(C CB CP:Addr)(vs:List V)(H:Hp)(Q:VK)(dq:XK):Prop
 |mk (x a:Addr) (R:Wr) (bs:List Str) (w:Str) (us:List Str) (_:vs=[.ref x,.str (cat (bs++w::us)),.ref a,.int (R.n:Int)]) (_:ng K C CB CP H x R) (_:aH K H a (R.bw.map V.str)) (_:∀u∈bs++w::us,u.length=R.n) (_:bs.length=R.b) (_:us.length=R.c) (_:∀w∈R.bw,w.length<=5) (_:R.bw.length<=100)
  (_:∀(y:Addr) (ds:List Nat) (H':Hp),a8 H H'->H y=none->H' y=some (.lst ((nI ds).map V.int))->(∀i:Nat,i∈ds↔bears R.bw (cat bs)=false/\gQ R.ss R.hk R.wl (cat bs) w us i)->ds.length<=1000->Q (.ref y) H'):Eb K C CB CP vs H Q dq
theorem Be(L:Lk K mg):aS P w K mg base cO 4 L.vL L.vS ["_law_told_here","_law_window_here","_law_words","_law_wide"] (Eb K L.ak L.aA L.aR):=by
 have T:=L.T;refine L.vX.F.d8 (N:=["_law_told_here","_law_window_here","_law_words","_law_wide","_law_size","_law_good_here","_law_at","_law_block","_law_nearer","_law_k","_law_found","_law_desk","_law_moves","_law_number"]) (λgx A outer s H vs Q E nd hr h=>?_);obtain⟨x,a,R,bs,w,f,rfl,Wv,hA,r,hb,hc,WC,zm,k⟩:=h
 refine{_,(a6 (ai (i:=4) (aD f5 (pv 3) (ie (pv 0) L.aj.cl L.cx (cJ L))))
  (a6 (bA (eh (cC (au (zE L) L.tq (a9 (b6 et (pv 1) cB (aV (pv 4))) (aM (pv 2)))))) (ae (ay (bY dN))) aO)
  (a6 (ai (i:=5) (aD BK (bY (aM gz)) (ie (pv 0) L.aj.cl L.cN (cT L))))
  (a6 (forA (FG rfl T.range (a9 (aD lL (y8 T.len (pv 1)) (pv 3)) (a9 (pv 4) (aM (aD lL ao (pv 3)))))) (ax (i:=6)) (a6 (ai (i:=7) (b6 et (pv 1) (aV (pv 6)) (aV (aD cu (pv 6) (pv 3)))))
  (a6 (ai (i:=8) (bY dN))
  (a6 (forA (bX rfl T.range (aM (ie (pv 0) L.aj.cl L.cN (cT L)))) (ax (i:=9)) (ae (bj (gB waL waP waT cm (pv 8) (aM (aT (lM rfl) (by rfl) T.any Hw (aM (eV rfl (aw ["_law_block","_law_good_here"] [7,5]) (aw ["_law_block","_law_good_here"] [7,5]) ⋯ (aP (yi (pv 0) L.aj.cl L.eA (eY L) (aM (pv 9)))) (λ_ _ _ _ _ _=>b8) (λ_ _ _ _ _ _=>(lP (dS hZ (pv 0) (pv 2) (hX _)) (qF (aW (fE (K:=K) rfl) (pv 3) (pv 1) (λ_ _=>rfl)))))))))))))
  (ae (ai (i:=5) (pv 8)))))))
  (a6 (ai (i:=10) (bY dN))
  (a6 (forA (bX rfl T.range (aM (ie (pv 0) L.aj.cl L.cN (cT L)))) (ax (i:=11)) (ae (bA (d4 hZ (yi (pv 0) L.aj.cl L.fV (iA L) (aM (pv 11))) (au (xc L) L.qp (a9 (b6 et (pv 1) cB (aV (pv 4))) (aM (pv 2))))) (a6 (ai (i:=12) (yi (pv 0) L.aj.cl L.eA (eY L) (aM (pv 11))))
  (ae (forA (bX rfl T.range (aM (DU T.len (pv 12)))) (ax (i:=13)) (ae (bA (PW.pt (BE (d4 hZ (aW eQ (aW b5 (pv 12) (pv 13) (λ_ _=>rfl)) ao (λ_ _=>rfl)) (b6 et (pv 1) (aV (pv 4)) (aV (aD cu (pv 4) (pv 3))))) (yH (cC (aW b5 (pv 5) (aW eQ (aW b5 (pv 12) (pv 13) (λ_ _=>rfl)) ao (λ_ _=>rfl)) (λ_ _=>rfl)))))) (ae (bj (gB waL waP waT cm (pv 10) (aM (pv 13))))) aO))))) aO)))
  (ae (ay (pv 10))))))))),?_}
 ac_rfl
 obtain⟨⟨dx,p,xb,aa,ll,dp,wa,wb,wc,wz,ys,hx,_⟩,ok⟩:=id Wv;have n1:=ok.n1;have oE:=ok.oE;have b1:=ok.b1;have c1:=ok.c1;have l1:=ok.l1;have m8:=ok.m8;have WD:=Mr ok.bh WC n1;have Sn:(bs++w::f).length=R.b+(R.c+1):=by rw[wa5,waE,hb,hc]
 have WG:(cat (bs++w::f)).length=R.n*(R.b+(R.c+1)):=by rw[dX r,Sn]
 have Ss:R.n*(R.b+(R.c+1))<=10*3000:=wby oE (by lia);have e1:waU (cat (bs++w::f)) none (some ((R.n*R.b:Nat):Int))=cat bs:=by rw[IZ r,<-hb,wef]
 have Mz:(cat bs).length=R.n*R.b:=by rw[dX λu h=>r u (waS _ h),hb]
 have e3:waU (cat (bs++w::f)) (some ((R.n*R.b:Nat):Int)) (some ((R.n*R.b:Nat)+(R.n:Int)))=w:=by
  have:=J4 r (i:=R.b) (by lia);rw[show ((R.n*R.b:Nat):Int)+(R.n:Int)=((R.n*(R.b+1):Nat):Int) by rw[wci];lia,this];simp[<-hb]
 have e4:∀i,i<f.length->waU (cat (bs++w::f)) (some ((R.n*(R.b+1+i):Nat):Int)) (some ((R.n*(R.b+1+i):Nat)+(R.n:Int)))=f.getD i "":=λi hi=>by
  have:=J4 r (i:=R.b+1+i) (by lia);rw[show ((R.n*(R.b+1+i):Nat):Int)+(R.n:Int)=((R.n*(R.b+1+i+1):Nat):Int) by rw[wci R.n (R.b+1+i)];lia,this,List.getElem_append_right (by lia)];simp[<-hb,show bs.length+1+i-bs.length=i+1 by lia,wa4,hi]
 generalize cat (bs++w::f)=win at WG e1 e3 e4;refine nc λR1 q1=>?_;refine{_,rfl,_,rfl,x,dx,_,rfl,hx,bE _ _ _ _ _ _ _ _ ∅,wk Wv λH1 s1=>?_};refine{_,_,rfl,rfl,.inl {by lia,by lia},?_};show cK 4 (V.int ((R.n:Int)*(R.b:Int))) _ _ _;rw[show (R.n:Int)*(R.b:Int)=((R.n*R.b:Nat):Int) from (wb0 ..).symm];refine q1 (FK R x a win none none none none none none none none none) _ (nc λR2 q2=>?_);refine{_,rfl,_,rfl,_,rfl,win,rfl,aq (by lia),_,rfl,?_};rw[e1];refine{cat bs,a,R.bw,rfl,s1.seq hA,by lia,λH2 s2=>?_};have JG:=s1.trans s2
 cases UW:bears R.bw (cat bs) with
 |true=>exact{false,rfl,eB {waq _,λl0 Jd=>k l0 [] _ (JG.trans (a8.upd Jd)) (none_of JG Jd) a7 (λi=>{(λh=>nomatch h),λh=>by rw[UW]at h;exact nomatch h.1}) (waq _)}}
 |false=>
 refine{true,rfl,cq ?_};refine q2 _ _ (nc λR3 q3=>?_);clear q1 q2;refine{by show 1<=sizeLine;decide,λlo Mb=>?_};have s3:=a8.upd (H:=H2) (o:=.lst [V.bl true]) Mb;have g:(upd H2 lo (.lst [V.bl true])) lo=some (.lst [V.bl true]):=a7;generalize upd H2 lo (.lst [V.bl true])=H3 at s3 g;have wu:=JG.trans s3;refine{_,rfl,x,dx,_,rfl,wu _ _ hx,bE _ _ _ _ _ _ _ _ ∅,x,R,rfl,Wv.same wu,lo,(R.wl.length:Int),[V.bl true],rfl,rfl,g,by lia,by lia,aq (by show 1*((R.wl.length:Int)).toNat<=_;lia),λX Su=>?_};rw[war,HX];have s4:=a8.upd (H:=H3) (o:=.lst ((JB R []).map V.bl)) Su;have J:(upd H3 X (.lst ((JB R []).map V.bl))) X=some (.lst ((JB R []).map V.bl)):=a7;generalize upd H3 X (.lst ((JB R []).map V.bl))=H4 at s4 J;have MC:=wu.trans s4;refine q3 (FK R x a win (some (.ref X)) none none none none none none none none) _ (nc λR4 q4=>?_);clear q3 s3 g Mb Su;have etop:(win.length:Int)-(R.n:Int)=((R.n*R.b:Nat):Int)+(R.n:Int)*(f.length:Nat):=by rw[WG,hc,wci,wci,wbk,wbk,wb0 R.n R.c];lia
 refine{_,rfl,win,rfl,aq (by lia),_,rfl,_,_,rfl,rfl,_,rfl,_,rfl,_,_,rfl,rfl,((R.n*R.b:Nat):Int),(R.n:Int),f.length,?_,by lia,by lia,by lia,by lia,by lia,?_}
 .show [V.int ((win.length:Int)-(R.n:Int)),_,_]=_;rw[etop]
 refine iT (lF _ _ f.length) (Uc R x a win f H4) {waq _,a8.refl _,X,by rw[whm,wfN];exact J,_,_,_,_,rfl} (λ_ _ _ _ _=>trivial) ?_ ?_
 .rintro i y σ M hy ⟨_,s5,l,C,v6,v7,v8,v9,rfl⟩;have hi:i<f.length:=by have:=(wa6.mp hy).1;rwa[wa0,waJ]at this
  obtain⟨j,hj⟩:∃j,f.length=j+1+i:={f.length-1-i,by lia};rw[wa3,wdO hi]at hy;obtain rfl:=waf hy;show cK 6 (V.int (((R.n*R.b:Nat):Int)+(R.n:Int)*(f.length:Nat)+(i:Int)*(0-(R.n:Int)))) _ _ _;rw[NS hj];have UX:=Kz hj;have e5:=e4 j (by lia);generalize f.getD j ""=t at UX e5;generalize f.drop (f.length-i)=rest at C UX;refine{_,rfl,_,rfl,_,rfl,_,rfl,_,rfl,_,_,rfl,rfl,_,rfl,win,rfl,aq (by lia),?_};rw[e5];refine{waq _,λln Ga=>?_};have s6:=a8.upd (H:=M) (o:=.lst []) Ga;have h6:(upd M ln (.lst [])) ln=some (.lst []):=a7;generalize upd M ln (.lst [])=H6 at s6 h6;have Rk:=s5.trans s6;have O:=MC.trans Rk;refine{_,rfl,x,dx,_,rfl,O _ _ hx,bE _ _ _ _ _ _ _ _ ∅,x,R,rfl,Wv.same O,(R.wl.length:Int),rfl,by lia,by lia,?_};rw[war];refine bW (lo:=0) (n:=R.wl.length) (Ud R x a win t rest l ln _ H6) {λ_ _ _ e=>e,h6,_,rfl} ?_ ?_
  .rintro d σ H7 hd ⟨Y,h7,v9,rfl⟩;show cK 9 (V.int (0+(d:Int))) _ _ _;rw[wca];have m:a8 M H7:=λb o e=>Y _ _ (ag e Ga) (s6 _ _ e);have v:=MC.trans (s5.trans m);refine{_,rfl,.inl {rfl,_,aH.of h7},_,rfl,x,dx,_,rfl,v _ _ hx,bE _ _ _ _ _ _ _ _ ∅,_,rfl,x,R,d,rfl,Wv.same v,hd,λy H8 Z r8=>?_};obtain⟨yb,S,rfl,hS,hT⟩:=cS (bK.same (bI _ _) _ _ r8);have zA:S.length=(R.wl.getD d []).length:=by rw[hT.1,wa0,wa0]
   have ZJ:=ok.w.ln _ (wa8 (bM hd));have OX:=m _ _ C;refine{yb,rfl,{_,hS},λlc Lv=>jM (λ_=>true) (HY R t rest) (aK K yb (S.map V.ref)) hT Lv (aq (by lia)) (λH' s'=>s'.seq hS) (λq H9 Q' _ _ qq=>qq H9 (a8.refl _)) (λq H9 Q' hq _ s9 qq=>?_) (λH9 s9 h9=>?_)}
   .obtain⟨z,hz,rfl⟩:=wab.mp hq;have qz:=qq H9 (a8.refl _);have e6:HY R t rest (dh z)=.bl (decide (V.str z.1=V.str t)&&HV R rest z.2):=by show V.bl (_&&HV R rest ((z.2:Int)).toNat)=_;rw[war]
    rw[e6]at qz;refine{_,rfl,_,rfl,rfl,_,rfl,o7 (λh1=>?_) (λh1=>?_)}
    .rw[show decide (V.str z.1=V.str t)=true from h1,wcA]at qz;exact{_,rfl,_,rfl,l,_,_,_,rfl,rfl,aH.of ((Z.trans s9) _ _ OX),HW (ok.w.e _ (wa8 (bM hd)) z hz),qz}
    .rw[wfw.mpr (show ¬decide (V.str z.1=V.str t)=true from h1),wcG]at qz;exact qz
   obtain⟨Uk,eb,ea⟩:=HZ R t rest d;rw[wb1.mpr (λ_ _=>rfl),eb]at h9;refine{lc,Uk,rfl,aH.of h9,?_};rw[ea];have Sv:=(Z.trans s9) _ _ h7;refine{ln,_,_,rfl,rfl,Sv,by rw[wa0,wa0,waJ];exact bg (by lia),?_};refine{λb o n e=>by rw[af n];exact(Z.trans s9) _ _ (Y _ _ n e),?_,_,rfl};rw[a7,wcv,wai,wai];rfl
  .rintro σ H7 ⟨Y,h7,v9,rfl⟩;have m:a8 M H7:=λb o e=>Y _ _ (ag e Ga) (s6 _ _ e);exact{_,rfl,hi,s5.trans m,ln,by rw[UX];exact h7,_,_,_,_,rfl}
 .rintro σ M ⟨_,s5,X,C,v6,v7,v8,v9,rfl⟩;refine q4 _ _ ?_;clear q4 etop J e4;rw[wa0,waJ,wbA,wdz]at C;have Oo:=MC.trans s5;refine{waq _,λlf U=>?_};have s6:=a8.upd (H:=M) (o:=.lst []) U;have h6:(upd M lf (.lst [])) lf=some (.lst []):=a7;generalize upd M lf (.lst [])=H6 at s6 h6;have O:=Oo.trans s6;have f0:=none_of Oo U;refine{_,rfl,x,dx,_,rfl,O _ _ hx,bE _ _ _ _ _ _ _ _ ∅,x,R,rfl,Wv.same O,(R.wl.length:Int),rfl,by lia,by lia,?_};rw[war];refine bW (lo:=0) (n:=R.wl.length) (Ue R x a win (lend R.ss (cat bs)) w f X lf v6 v7 v8 v9 H6) {waq _,λ_ _ _ e=>e,[],h6,λi=>{(λh=>nomatch h),λh=>?_},waq _,none,none,none,rfl} ?_ ?_
  .obtain⟨d,e,h1,_⟩:=h
   lia
  .rintro d σ H7 hd ⟨_,Y,ds,h7,hm,dl,v11,HS,HU,rfl⟩;show cK 11 (V.int (0+(d:Int))) _ _ _;rw[wca];have m:a8 M H7:=λb o e=>Y _ _ (ag e U) (s6 _ _ e);have v:=Oo.trans m;refine{_,rfl,x,dx,_,rfl,v _ _ hx,bE _ _ _ _ _ _ _ _ ∅,_,rfl,x,R,d,rfl,Wv.same v,hd,_,rfl,_,rfl,_,rfl,win,rfl,aq (by lia),?_};rw[e1];refine{_,rfl,cat bs,a,R.bw,R.ss,rfl,v.seq hA,ok.pm,WC,zm,UW,by lia,λH8 Z=>{rfl,_,rfl,o7 (λh1=>?_) (λh1=>?_)}}
   .have Ls:R.hk.getD d ""=lend R.ss (cat bs):=V.str.inj (of_decide_eq_true h1);have WH:=v.trans Z;have h8:=Z _ _ h7;refine{_,rfl,x,dx,_,rfl,WH _ _ hx,bE _ _ _ _ _ _ _ _ ∅,_,rfl,x,R,d,rfl,Wv.same WH,hd,λy H9 s9 r9=>?_};obtain⟨yb,S,rfl,hS,hT⟩:=cS r9;have zA:S.length=(R.wl.getD d []).length:=by rw[hT.1,wa0,wa0]
    have ZJ:=ok.w.ln _ (wa8 (bM hd));have off:∀{H':Hp},(∀b o,b≠lf->H9 b=some o->H' b=some o)->a8 (aL H8 H9) H':=λq b o e=>q _ _ (λz=>by rw[z]at e;unfold aL at e;rw[h8]at e;cases e) (bI _ _ _ _ e);refine{_,rfl,yb,_,rfl,.inl ((bI _ _).seq hS),?_};rw[wa0,zA];refine{((R.wl.getD d []).length:Int),rfl,by lia,by lia,?_};rw[war];refine bW (lo:=0) (n:=(R.wl.getD d []).length) (Ug R x a win w f ds X lf yb d v6 v7 v8 v9 H9) {λ_ _ _ e=>e,ds,s9 _ _ h8,λn=>{.inl,λh=>h.elim id λh=>by lia},by lia,_,rfl} ?_ ?_
    .rintro j σ LA hj ⟨B,D,G,Mu,ZK,HU,rfl⟩;show cK 13 (V.int (0+(j:Int))) _ _ _;rw[wca];have sN:=off B;have WK:j<S.length:=by lia
     have Om:LA S[j]=some (.tup [.str (R.wl.getD d [])[j].1,.int ((R.wl.getD d [])[j].2:Int)]):=sN _ _ (hT.2 j S[j] (iE (dh (R.wl.getD d [])[j])) (wa1 WK) (by rw[wa3,wa3,wa1 hj];rfl));have OY:(R.wl.getD d [])[j]?=some (R.wl.getD d [])[j]:=wa1 hj;have WL:=ok.w.e _ (wa8 (bM hd)) _ (wa8 OY);have WM:ui (S.map V.ref) (j:Int)=some (.ref S[j]):=bz (by rw[wa3,wa1 WK];rfl);generalize (R.wl.getD d [])[j]=q at Om OY WL;have Rl:=sN.seq hS
     have next:¬(q.1=w/\gD R.wl q.2 f)->∀n:Nat,n∈D↔n∈ds\/n<j+1/\∃e,(R.wl.getD d [])[n]?=some (w,e)/\gD R.wl e f:=λhn n=>by
      rw[Mu n];refine or_congr Iff.rfl {λh=>{by lia,h.2},λ⟨h1,e,I,g⟩=>{wbD λc=>?_,e,I,g}};obtain rfl:n=j:=by lia
      rw[OY]at I;cases I;exact hn ⟨rfl,g⟩
     refine{_,rfl,_,rfl,yb,_,_,_,rfl,rfl,Rl,WM,S[j],_,_,_,rfl,rfl,g8.of Om,rfl,_,rfl,_,rfl,_,rfl,_,rfl,_,rfl,_,_,rfl,rfl,_,rfl,win,rfl,aq (by lia),?_};rw[e3];refine{rfl,_,rfl,o7 (λI=>?_) (λI=>?_)}
     .have UU:q.1=w:=V.str.inj (of_decide_eq_true I);have UY:aH K LA X ((JB R f).map V.bl):=aH.of (B _ _ (ag C U) ((Z.trans s9) _ _ (m _ _ C)));refine{_,rfl,_,rfl,_,rfl,yb,_,_,_,rfl,rfl,Rl,WM,S[j],_,_,_,rfl,rfl,g8.of Om,rfl,X,_,_,_,rfl,rfl,UY,HW WL,_,rfl,o7 (λg=>?_) (λg=>?_)}
      .refine{_,rfl,.inl {rfl,_,aH.of G},_,rfl,lf,_,_,rfl,rfl,G,by rw[wa0,bR];exact bg (by lia),?_};refine{λb o n e=>by rw[af n];exact B _ _ n e,D++[j],by rw[a7,mV,wai];rfl,λn=>?_,by rw[wa5];show _+1<=_;lia,_,rfl};rw[wax,wao,Mu n];constructor
       .rintro((h |⟨J,C⟩) |rfl)
        .exact .inl h
        .exact .inr {by lia,C}
        .exact .inr {by lia,q.2,by rw[OY,<-UU],mZ.mp g}
       .rintro(h |⟨J,C⟩)
        .exact .inl (.inl h)
        .by_cases c:n=j
         .exact .inr c
         .exact .inl (.inr {by lia,C})
      .exact{B,D,G,next λh=>g (mZ.mpr h.2),by lia,_,rfl}
     .exact{B,D,G,next λh=>I (decide_eq_true (congrArg V.str h.1)),by lia,_,rfl}
    .rintro σ LA ⟨B,D,G,Mu,ZK,HU,rfl⟩;refine{hd,λb o n e=>B _ _ n (s9 _ _ (Z _ _ (Y _ _ n e))),D,G,λn=>?_,by lia,_,_,_,rfl};rw[Mu n,hm n];constructor
     .rintro(⟨d',e,I,g⟩ |⟨I,e,g⟩)
      .exact{d',e,by lia,g}
      .exact{d,e,by lia,Ls,g}
     .rintro⟨d',e,I,g,J,C⟩
      by_cases c:d'<d
      .exact .inl ⟨d',e,c,g,J,C⟩
      .obtain rfl:d'=d:=by lia
       exact .inr {(wa6.mp J).1,e,J,C}
   .refine{hd,λb o n e=>Z _ _ (Y _ _ n e),ds,Z _ _ h7,λn=>?_,by lia,_,_,_,rfl};rw[hm n];refine{λ⟨d',e,I,g⟩=>{d',e,by lia,g},λ⟨d',e,I,g,J⟩=>{d',e,wbD λc=>?_,g,J}};obtain rfl:d'=d:=by lia
    exact h1 (decide_eq_true (congrArg V.str g))
  .rintro σ H7 ⟨_,Y,ds,h7,hd,dl,v11,HS,HU,rfl⟩;have m:a8 M H7:=λb o e=>Y _ _ (ag e U) (s6 _ _ e);exact{_,rfl,k lf ds H7 (Oo.trans m) f0 h7 (λi=>(hd i).trans {λh=>⟨UW,h⟩,λh=>h.2}) (by lia)}
theorem Ia.v{R:Wr}(ok:Dd R){bs:List Str}{w:Str}{us:List Str}{g:List Nat}(hc:us.length=R.c)(hd:∀i:Nat,i∈g↔bears R.bw (cat bs)=false/\gQ R.ss R.hk R.wl (cat bs) w us i):(g=[]/\wG R bs w us=.non)\/∃i:Nat,wG R bs w us=.int (i:Int)/\g≠[]/\∀d∈g,d=i:=by
 obtain⟨e,f,j⟩:=Ea ok (bs:=bs) (w:=w) hc
 cases g with
 |nil=>
  refine .inl {rfl,?_}
  cases a:bears R.bw (cat bs) with
  |true=>exact e a
  |false=>exact j a λi h=>nomatch (hd i).mpr ⟨a,h⟩
 |cons i g=>
  obtain⟨k,b⟩:=(hd i).mp (wag ..);exact .inr {i,f i k b,List.cons_ne_nil _ _,λd h=>gQ.one ok.rd hc ((hd d).mp h).2 b}
end
end K51
namespace Sx
inductive G4(K:wa2)(C:Addr)(vs:List V)(H:Hp)(Q:VK)(dq:XK):Prop
 |mk (x:Addr) (d:Nat) (hs:List Str) (ws:List Int) (lns:List (List (Str×Nat))) (_:vs=[.ref x,.int (d:Int)]) (_:cb K C H x hs ws lns) (_:d<lns.length) (_:(∀l∈lns,∀q∈l,q.2<lns.length)) (_:lns.getD d []≠[]) (_:lns.length<=1000) (_:∀(l:Addr) (rs:List Nat) (H':Hp),a8 H H'->H l=none->H' l=some (.lst ((nI rs).map V.int))->Reach lns rs->Q (.ref l) H')
inductive Jk(K:wa2)(C CP CS CX CO:Addr)(vs:List V)(H:Hp)(Q:VK)(E:XK):Prop
 |mk (x:Addr) (many:Int) (n:Nat) (g:Str) (bw ss ls:List Str) (_:vs=[.ref x,.int many,.int (n:Int)]) (_:b4 C H x g bw ss ls) (_:(∀w∈bw,1<=w.length)) (_:(ch g).Nodup) (_:2<=g.length) (_:g.length<=10) (_:ss.length<=900) (_:gj g.length many n) (_:(F9 g bw ss many n->∀(y:Addr) (f0 f:Str->Int) (qB:List z4) (ks:List Nat) (hs:List Str) (ws:List Int) (lns:List (List (Str×Nat))) (H':Hp),a8 H H'->ow K CP CS (aL H H') y (cy f ls) qB ks hs ws lns->uc g bw ss ls many n f0->(∀p∈ls,f p<=f0 p)->gN g bw ss ls many n f qB ks hs ws lns->Q (.ref y) H')) (_:U5 CX g bw ss many n H E) (_:(F9 g bw ss many n->zp g bw ss ls many n->∀H',a8 H H'->E (.ref CO) none H'))
inductive Jl(K:wa2)(vs:List V)(H:Hp)(Q:VK)(dq:XK):Prop
 |mk (v:V) (d:Nat) (a:Addr) (many:Int) (n:Nat) (wl:List (List (Str×Nat))) (ts:List Nat) (_:vs=[v,.int (d:Int),.ref a]) (_:bK K H (jY wl) v) (_:aH K H a ((nI ts).map V.int)) (_:Gb many n wl) (_:d<wl.length) (_:(∀t∈ts,(t:Int)<many)) (_:ts.length<=100000) (_:n<=10) (_:∀p H',a8 H H'->H' p=some (.tup [.str (cH wl d ts).1,.int ((cH wl d ts).2:Int)])->Q (.ref p) H')
inductive G5(K:wa2)(C CB CP CS CX CO:Addr)(vs:List V)(H:Hp)(Q:VK)(E:XK):Prop
 |mk (x dx xb:Addr) (many:Int) (n:Nat) (g:Str) (bw ss ls:List Str) (_:vs=[.ref x,.ref xb,.int many,.int (n:Int)]) (_:H x=some (.ins C dx [])) (_:b4 CB H xb g bw ss ls) (_:(∀w∈bw,1<=w.length/\w.length<=900)) (_:bw.length<=1000) (_:("":Str)∈ss) (_:(ch g).Nodup) (_:2<=g.length) (_:g.length<=10) (_:ss.length<=900) (_:gj g.length many n) (_:(F9 g bw ss many n->∀(p a l:Addr) (f0 f:Str->Int) (qB:List z4) (ks:List Nat) (hs:List Str) (ws:List Int) (lns:List (List (Str×Nat))) (b:Nat) (H':Hp),(∀c o,H c=some o->c≠x->H' c=some o)->H' x=some (.ins C dx (lY p xb many (n:Int) a l (cH (f7 lns ks many.toNat) 0 (waj b 0)).1 ((cH (f7 lns ks many.toNat) 0 (waj b 0)).2:Int)))->ow K CP CS (aL H H') p (cy f ls) qB ks hs ws lns->bK K (aL H H') (se (ks.map λd=>hs.getD d "")) (.ref a)->bK K (aL H H') (jY (f7 lns ks many.toNat)) (.ref l)->uc g bw ss ls many n f0->(∀p∈ls,f p<=f0 p)->gN g bw ss ls many n f qB ks hs ws lns->Gb many n (f7 lns ks many.toNat)->kA bw n b->Q .non H')) (_:U5 CX g bw ss many n H E) (_:(F9 g bw ss many n->zp g bw ss ls many n->∀H',a8 H H'->E (.ref CO) none H'))
inductive LC(K:wa2)(C CB CP CS:Addr)(vs:List V)(H:Hp)(Q:VK)(dq:XK):Prop
 |mk (g:Str) (a:Addr) (many:Int) (n:Nat) (bw:List Str) (_:vs=[.str g,.ref a,.int many,.int (n:Int)]) (_:aH K H a (bw.map V.str)) (_:Aj g) (_:bw.length<=6) (_:(∀w∈bw,z9 g w)) (_:gj g.length many n) (_:∀(v:V) (H':Hp),a8 H H'->(v=.non\/∃x,v=.ref x/\Oi K C CB CP CS H' x g bw many n)->Q v H')
end Sx
namespace K51
section
variable{P:waC}{w:World}{K:wa2}{mg:Str->Option Value}{base:Heap}
local macro_rules|`(tactic|ac_rfl)=>`(tactic|try dsimp only[cW,cX,aZ,b0])
theorem tQ(L:Lk K mg):aS P w K mg base cO 1 L.me L.mC ["sheet","desk"] (G4 K L.aB):=by
 have T:=L.T;refine L.mK.F.d8 (N:=["sheet","desk","reached","waiting","line","word","end"]) (λgx A outer s H vs Q E nd n h=>?_);obtain⟨x,d,hs,ws,c,rfl,S,hd,he,BU,hn,k⟩:=h;have hu:=eT n
 refine{_,(a6 (ai (i:=2) da)
  (a6 (ai (i:=3) (bY (aM (pv 1))))
  (a6 (j8 wdh (d4 lI (DU T.len (pv 3)) ao) (a6 (ai (i:=4) (aW b5 (aC (pv 0) rfl) (He waL whg PySem.F.type_list_pop Nm (pv 3)) (λ_ _=>rfl)))
  (ae (forA (aP (pv 4)) (dm rfl (aN (ax (i:=5)) (aN (ax (i:=6)) cA))) (ae (bA (yG (xO hu (pv 6) (pv 2))) (a6 (dU hu (pv 2) (pv 6) gz rfl)
  (ae (bj (gB waL waP waT cm (pv 3) (aM (pv 6)))))) aO))))))
  (ae (ay (bB (jJ rfl) (by rfl) T.list i9 (aM (pv 2)))))))),?_}
 ac_rfl
 obtain⟨dx,ah,bw,cl,hx,rh,JE,rl⟩:=id S;obtain⟨R9,xs,ec,hc,zL⟩:=id rl;cases ec;have xl:xs.length=c.length:=by rw[zL.len,wa0]
 refine λrd UZ=>?_;refine{_,rfl,by show 1<=sizeLine;decide,λwl zm=>?_};have J:rd≠wl:=ag a7 zm;have s0:a8 H (upd (upd H rd (.dK [])) wl (.lst [.int (d:Int)])):=(a8.upd UZ).trans (a8.upd zm);have WN:(upd (upd H rd (.dK [])) wl (.lst [.int (d:Int)])) rd=some (.dK (dB [])):=by rw[af J,a7];rfl
 have WO:(upd (upd H rd (.dK [])) wl (.lst [.int (d:Int)])) wl=some (.lst ((nI [d]).map V.int)):=a7;have WQ:H wl=none:=none_of (a8.upd UZ) zm;generalize upd (upd H rd (.dK [])) wl (.lst [.int (d:Int)])=H0 at s0 WN WO
 refine{λq σ Y=>∃(f Z:List Nat) (v4 M v6:Option V),q=2*(c.length-f.length)+Z.length/\σ=[some (.ref x),some (.int (d:Int)),some (.ref rd),some (.ref wl),v4,M,v6]/\a8 H Y/\Y rd=some (.dK (dB f))/\Y wl=some (.lst ((nI Z).map V.int))/\f.Nodup/\(∀r∈f,r<c.length)/\(∀w∈Z,w<c.length)/\(∀r∈f,r∉Z->∀q∈c.getD r [],q.2∈f)/\(d∉Z->∀q∈c.getD d [],q.2∈f)/\Z.length<=f.length+1,
  {_,[],[d],none,none,none,rfl,rfl,s0,WN,WO,wdx,λr h=>absurd h wbn,λw h=>by rw[wao.mp h];exact hd,λr h=>absurd h wbn,λh=>absurd (wao.mpr rfl) h,waa _},?_}
 rintro q σ Y ⟨f,Z,v4,M,v6,rfl,rfl,s3,Sq,O,nd,Rm,Ss,Rn,Si,R⟩;have zA:=lX nd Rm
 by_cases WR:Z=[]
 .subst WR;refine{_,rfl,wl,_,rfl,.inl (aH.of O),_,_,rfl,rfl,false,rfl,cq ?_};refine{_,rfl,rd,_,rfl,Sq,λl hl=>?_};rw[DG];refine k l f _ (s3.trans (a8.upd hl)) (none_of s3 hl) a7 {λr n=>Rn r n wbn,Rm,λz=>?_,nd}
  cases e:c.getD d [] with
  |nil=>exact BU e
  |cons q qs=>
   have:=Si wbn q (by rw[e];exact wag ..);rw[z]at this;cases this
 obtain⟨z,t,rfl,hz,Jb⟩:=Kf WR;refine{_,rfl,wl,_,rfl,.inl (aH.of O),_,_,rfl,rfl,true,congrArg V.bl (decide_eq_true (by rw[wa0,bR,wa5];show (0:Int)<((_+1:Nat):Int);lia)),eB ?_};have ZL:z<c.length:=Ss z (waI _ (wao.mpr rfl));have WT:c[z]?=some (c.getD z []):=by rw[wa4,wa1 ZL];rfl
 have UP:∀q∈c.getD z [],q.2<c.length:=he _ (wa8 WT);obtain⟨v,Oh,ZM⟩:=zL.at (i:=z) (d:=bV (c.getD z [])) (by rw[wa3,WT];rfl);obtain⟨a,rr,rfl,hS,hT⟩:=cS ZM;have Wu:rr.length=(c.getD z []).length:=by rw[hT.1,wa0,wa0]
 refine{λσ' H'=>∃(ad:List Nat) (M v6:Option V),σ'=[some (.ref x),some (.int (d:Int)),some (.ref rd),some (.ref wl),some (.ref a),M,v6]/\a8 H H'/\H' rd=some (.dK (dB (f++ad)))/\H' wl=some (.lst ((nI (t++ad)).map V.int))/\(f++ad).Nodup/\(∀r∈f++ad,r<c.length)/\(∀q∈c.getD z [],q.2∈f++ad),?_,?_}
 .rintro σ' H' ⟨ad,M,v6,rfl,s',UI,ZN,WU,IM,j⟩;have Ro:=lX WU IM;rw[wa5]at Ro;refine{_,?_,f++ad,t++ad,_,M,v6,rfl,rfl,s',UI,ZN,WU,IM,λw hw=>?_,λr n U q I=>?_,λU q I=>?_,?_}
  .rw[wa5,wa5,wa5];show _<2*(c.length-f.length)+(t.length+1)
   lia
  .rcases wax.mp hw with hw |hw
   .exact Ss w (waS _ hw)
   .exact IM w (waI _ hw)
  .rcases wax.mp n with n |n
   .by_cases B:r=z
    .rw[B]at I;exact j q I
    .refine waS _ (Rn r n (λm=>?_) q I);rcases wax.mp m with m |m
     .exact U (waS _ m)
     .exact B (wao.mp m)
   .exact absurd (waI _ n) U
  .by_cases B:d=z
   .rw[B]at I;exact j q I
   .refine waS _ (Si (λm=>?_) q I);rcases wax.mp m with m |m
    .exact U (waS _ m)
    .exact B (wao.mp m)
  .rw[wa5]at R;rw[wa5,wa5];have:t.length+1<=f.length+1:=R
   lia
 refine{_,rfl,x,L.aB,dx,_,_,rfl,s3 _ _ hx,L.az.cl,L.az.cP,bO ah bw cl,_,rfl,.inl {rfl,_,aH.of O},wl,_,_,rfl,rfl,O,hz,?_};rw[Jb];have s4:a8 H (upd Y wl (.lst ((nI t).map V.int))):=λb o e=>by rw[af (ag e WQ)];exact s3 _ _ e
 have Mw:(upd Y wl (.lst ((nI t).map V.int))) rd=some (.dK (dB f)):=by rw[af J];exact Sq
 have Rc:(upd Y wl (.lst ((nI t).map V.int))) wl=some (.lst ((nI t).map V.int)):=a7;generalize upd Y wl (.lst ((nI t).map V.int))=H4 at s4 Mw Rc;refine{cl,xs,_,_,rfl,rfl,s4.seq (.inl hc),bz Oh,?_};refine{_,rfl,a,rfl,{_,s4.seq hS},dG (K:=K) (a:=a) (xs:=rr.map V.ref) (TZ c f t x rd wl a d z H) {[],_,_,rfl,s4,by rw[waY];exact Mw,by rw[waY];exact Rc,by rw[waY];exact nd,by rw[waY];exact Rm,λq I=>by rw[wdB]at I;cases I} (λi σ H5 _ q=>q.s.seq hS) ?_ ?_}
 .rintro i y σ H5 hy ⟨ad,M,v6,rfl,s5,C,X,D,G,j⟩;have hi:i<rr.length:=by have:=(wa6.mp hy).1;rwa[wa0]at this
  have V0:i<(c.getD z []).length:=by lia
  rw[wa3,wa1 hi]at hy;cases hy;have Rg:H rr[i]=some (.tup [.str (c.getD z [])[i].1,.int ((c.getD z [])[i].2:Int)]):=hT.2 i rr[i] (iE (dh (c.getD z [])[i])) (wa1 hi) (by rw[wa3,wa3,wa1 V0];rfl);have Ra:(c.getD z []).take (i+1)=(c.getD z []).take i++[(c.getD z [])[i]]:=by rw[waM,wa1 V0];rfl
  have My:=UP _ (waK V0);generalize (c.getD z [])[i]=q at Rg Ra My;have ZO:=lX D G;refine{rr[i],_,rfl,g8.of (s5 _ _ Rg),rfl,_,_,rfl,_,_,rfl,rfl,?_};have g:=ee.k (k:=(wb4 (q.2:Int):Key)) C;rw[yY]at g
  by_cases m:q.2∈f++ad
  .rw[if_pos m]at g;refine{_,rfl,_,rfl,rd,_,rfl,g,false,rfl,cq ?_};refine{ad,_,_,rfl,s5,C,X,D,G,λp u=>?_};rw[Ra]at u;rcases wax.mp u with u |u
   .exact j p u
   .rw[wao.mp u];exact m
  .rw[if_neg m]at g;refine{_,rfl,_,rfl,rd,_,rfl,g,true,rfl,eB ?_};refine{_,rfl,_,rfl,rd,_,rfl,jG.k (k:=wb4 (q.2:Int)) C (bg (by unfold dB;rw[wa0];lia)),?_};rw[Hr m];have WV:(upd H5 rd (.dK (dB (f++ad++[q.2])))) wl=some (.lst ((nI (t++ad)).map V.int)):=by rw[af J.symm];exact X
   refine{_,rfl,.inl {rfl,_,aH.of WV},_,rfl,wl,_,_,rfl,rfl,WV,?_,?_}
   .rw[wa5]at R ZO;rw[wa0,bR,wa5];have:t.length+1<=f.length+1:=R;exact bg (by lia)
   refine{ad++[q.2],_,_,rfl,λb o e=>by rw[af (ag e WQ),af (ag e UZ)];exact s5 _ _ e,by rw[af J,a7,waQ],by rw[a7,<-waQ,mV (t++ad),wai];rfl,?_,λr n=>?_,λp u=>?_}
   .rw[<-waQ];refine wft.mpr {D,by simp,λa ha b hb e=>?_};rw[wao.mp hb]at e;rw[e]at ha;exact m ha
   .rw[<-waQ]at n;rcases wax.mp n with n |n
    .exact G r n
    .rw[wao.mp n];exact My
   .rw[<-waQ];rw[Ra]at u;rcases wax.mp u with u |u
    .exact waS _ (j p u)
    .rw[wao.mp u];exact waI _ (wao.mpr rfl)
 .rintro σ H5 ⟨ad,M,v6,rfl,s5,C,X,D,G,j⟩;rw[wa0,Wu,waH]at j;exact⟨ad,M,v6,rfl,s5,C,X,D,G,j⟩
theorem yx(L:Lk K mg):aS P w K mg base cO 1 L.AW L.AZ ["lines","desk","data"] (Jl K):=by
 refine L.vW.F.d8 (N:=["lines","desk","data","row","thing","step"]) (λX A outer s H vs Q E nd hr h=>?_);obtain⟨v,d,a,many,n,wl,ts,rfl,Y,T,z,hd,m,Z,hn,k⟩:=h
 refine{_,(a6 (ai (i:=3) dO)
  (a6 (forA (aP (pv 2)) (ax (i:=4)) (a6 (ai (i:=5) (aW b5 (aW b5 (pv 0) (pv 1) (λ_ _=>rfl)) (pv 4) (λ_ _=>rfl)))
  (a6 (uC (i:=3) nd rfl (we1 rfl) (aW eQ (pv 5) ao (λ_ _=>rfl)) K7)
  (ae (ai (i:=1) (aW eQ (pv 5) ao (λ_ _=>rfl)))))))
  (ae (ay (dP (a9 (pv 3) (aM (pv 1)))))))),?_}
 ac_rfl
 obtain⟨cl,xs,rfl,hc,B⟩:=id Y;refine{_,rfl,a,rfl,{_,T},dG (K:=K) (a:=a) (xs:=(nI ts).map V.int) (λi σ u=>∃(v4 C:Option V),σ=[some (.ref cl),some (.int ((cH wl d (ts.take i)).2:Int)),some (.ref a),some (.str (cH wl d (ts.take i)).1),v4,C]/\a8 H u) {none,none,rfl,a8.refl _} (λi σ u _ {_,_,_,c}=>c.seq T) ?_ ?_}
 .rintro i y σ u D ⟨v4,C,rfl,c⟩;have hi:i<ts.length:=by have:=(wa6.mp D).1;rwa[wa0,bR]at this
  have g:ts[i]?=some ts[i]:=wa1 hi;rw[yX g]at D;cases D;have G:=m _ (waK hi);have qA:ts.take (i+1)=ts.take i++[ts[i]]:=by rw[waM,g];rfl
  generalize ts[i]=t at g G qA;obtain⟨w1,w2⟩:=qw z hd (ts:=ts.take i) λx hx=>m x ((wbp _ _).subset hx);have e:=y6 wl d (ts.take i) t;rw[<-qA]at e;have I:=bM w1;have Ga:=z.ln _ (wa8 I);have J:=z.wd _ (wa8 I);have M:kD wl (cH wl d (ts.take i)) t=((cH wl d (ts.take i)).1++((wl.getD (cH wl d (ts.take i)).2 []).getD t ("",0)).1,((wl.getD (cH wl d (ts.take i)).2 []).getD t ("",0)).2):=rfl;rw[M]at e;generalize cH wl d (ts.take i)=O at *;obtain⟨v,R,rd⟩:=B.at (i:=O.2) (d:=bV (wl.getD O.2 [])) (by rw[wa3,I];rfl);generalize wl.getD O.2 []=f at *;obtain⟨b,j,rfl,hS,U⟩:=cS rd;have zA:j.length=f.length:=by rw[U.1,wa0,wa0]
  have l:t<f.length:=by lia
  have o:t<j.length:=by lia
  have r:H j[t]=some (.tup [.str f[t].1,.int (f[t].2:Int)]):=U.2 t j[t] (iE (dh f[t])) (wa1 o) (by rw[wa3,wa3,wa1 l];rfl);have eq:f.getD t ("",0)=f[t]:=by rw[wa4,wa1 l];rfl
  have S:=J _ (waK l);rw[eq]at e;generalize f[t]=q at *;refine{_,rfl,_,rfl,cl,xs,_,_,rfl,rfl,c.seq (.inl hc),bz R,_,rfl,b,_,_,_,rfl,rfl,c.seq hS,bz (v:=.ref j[t]) (by rw[wa3,wa1 o];rfl),?_};refine{_,rfl,_,rfl,j[t],_,_,_,rfl,rfl,g8.of (c _ _ r),rfl,_,_,rfl,rfl,aq ?_,?_}
  .rw[w2,S,wad];have h1:n*min i ts.length<=10*99999:=wby hn (by lia)
   lia
  refine{_,rfl,j[t],_,_,_,rfl,rfl,g8.of (c _ _ r),rfl,?_};rw[e];exact{_,_,rfl,c}
 .rintro σ u ⟨v4,C,rfl,c⟩;rw[wa0,bR,waH];refine{_,rfl,_,rfl,by show 2<=sizeLine;decide,λp hp=>?_};exact k p _ (c.trans (a8.upd hp)) a7
theorem qy(L:Lk K mg):aS P w K mg base cO 6 L.jo L.jt ["band","many","wide","weights"] (Iz L.aA):=by
 have T:=L.T;refine L.ju.F.d8 (N:=["band","many","wide","weights","sheet","lots","homes","closed","place"]) (λgx A outer s H vs Q E nd hr h=>?_);obtain⟨x,d,many,n,f,g,ws,ss,ls,rfl,B,Mx,Rp,E7,E6,E5,Je,hd,D,Z,WW,k⟩:=h;have hu:=eT hr
 refine{_,(a6 (ai (i:=4) (au (mQ L) L.iX (a9 (pv 0) (a9 (pv 1) (a9 (pv 2) (aM (pv 3)))))))
  (a6 (cZ (i:=5) rfl (aw ["sheet"] [4]) nd rfl rfl (bX rfl T.range (aM (DU T.len (aC (pv 4) rfl)))) (λ_ _ _ _ _ _=>b8) (λ_ _ _ _ _ _=>(au (tQ L) L.mK (a9 (pv 1) (aM (pv 0))))))
  (a6 (cZ (i:=6) rfl (aw ["sheet"] [4]) nd rfl rfl (aP (L8 rfl (by rfl) T.min (by rfl) T.len (aM (pv 5)))) (λ_ _ _ _ _ _=>b8) (λ_ _ _ _ _ _=>(aW (fE (K:=K) rfl) (mU (K:=K) rfl (pv 1) rfl) (pv 0) (λ_ _=>rfl))))
  (a6 (ai (i:=7) da)
  (a6 (forA (A9 (pv 3)) (ax (i:=8)) (ae (dU hu (pv 7) (pv 8) (zV (fD qH (pv 8) (pv 6) rfl) (d7 hu (pv 3) (pv 8) (λ_ _=>rfl)) ao) rfl)))
  (ae (ay (pv 7)))))))),?_}
 ac_rfl
 have nd:ls.Nodup:=B.nd.sublist B.lv.sub;have CL:ls.length<=900:=wal B.lv.sub.length_le E5;refine{_,rfl,_,rfl,_,rfl,_,rfl,x,d,many,n,cy f ls,f,g,ws,ss,ls,rfl,B,E7,E6,E5,Je,.inl hd,jP f ls,λy H1 s1 S1=>?_};have S:=S1.same (bI _ _);have hB:=iG.first (g:=g) (ws:=ws) (ss:=ss) (n:=n) (many:=many) D Z;have Wo:(av ls f).length<=ls.length:=wb6 _ _;have I:=hB.l;have hmn:(1:Int)<=many:=by have:=Je.a;lia
 generalize WX:av ls f=m at S hB Wo I;generalize V1:bD g ws ss ls n m=G at S hB I
 have V2:m≠[]:=λz=>by
  have h1:=xS D;rw[WX,z]at h1;have:(0:Int)=(ls.map f).sum:=h1
  lia
 have Jd:0<m.length:=wc1.mpr V2
 have V3:∀i,i<G.length->G.getD i []≠[]:=λi hi z=>by
  have U:G[i]?=some (G.getD i []):=by rw[wa4,wa1 hi];rfl
  have h1:=hB.b i _ U;rw[z]at h1;have h2:many*(m.map f).getD i 0<=0:=h1;have hw:=hB.w;have h3:=hB.p _ (jb (ws:=m.map f) (i:=i) (by lia));have:=wgg (show 0<many by lia) (show 0<(m.map f).getD i 0 by lia)
  lia
 obtain⟨dx,ah,bw,cl,hx,rh,JE,rl⟩:=id S;have hh:=ub rh;refine{_,rfl,y,L.aB,dx,_,_,rfl,hx,L.az.cl,L.az.fM,fj ah bw cl,ah,_,rfl,.inl (.inl hh),_,rfl,by lia,by rw[wa0];lia,λll V4=>?_};have en:(((m.map V.str).length:Nat):Int).toNat=m.length:=by rw[wa0,war]
 rw[en];refine uH (λi v H'=>∃q r,v=.ref q/\q≠ll/\H' q=some (.lst ((nI r).map V.int))/\Reach G r) (λi v Ha Hb ys h hl kp=>?_) (o8 0 m.length) V4 (aq (by rw[wa0,waJ];lia)) (λ_ _=>wbz) (λi v H3 ys Q' hv s3 G8 qq=>?_) (λys H3 s3 h3 LD hR=>?_)
 .obtain⟨q,r,rfl,U,ZP,X⟩:=h;exact{q,r,rfl,U,kp _ _ ZP U,X}
 .have hi:i<m.length:=by have:=(wa6.mp hv).1;rwa[wa0,waJ]at this
  rw[wa3,wdO hi]at hv
  have hv:v=.int (i:Int):=by
   rw[<-waf hv];show V.int (0+(i:Int))=_;rw[wca]
  subst hv;refine{_,rfl,_,rfl,y,i,m,_,G,rfl,S.same s3,by lia,λl hl q U=>by rw[I];exact hB.e l hl q U,V3 i (by lia),by lia,λl r H' s' fl Ro t=>?_};exact qq _ H' s' {l,r,rfl,(λz=>by rw[z,G8]at fl;cases fl),Ro,t}
 obtain⟨ps,rfl,Sw⟩:=Kh (ys:=ys) (R:=λq=>∃r,H3 q=some (.lst ((nI r).map V.int))/\Reach G r) λv hv=>by
  obtain⟨i,hi,e⟩:=wbZ hv;obtain⟨q,r,e1,_,e2,e3⟩:=hR i v (by rw[wa1 hi,e]);exact⟨q,e1,r,e2,e3⟩
 have hpl:ps≠[]:=λz=>by
  rw[wa0,wa0,waJ,z]at LD;have:0=m.length:=LD
  lia
 refine{_,rfl,ll,ps,rfl,aH.of h3,hpl,λq U=>by obtain⟨r,e,_⟩:=Sw q U;exact{_,aH.of e},λq U=>?_};obtain⟨r,X,t⟩:=Sw q U;have zA:=lX t.nd t.lt;refine{q,rfl,{_,aH.of X},λlh OU=>?_};refine dJ (λ_=>true) (λv=>match v with |.int d=>.str (m.getD d.toNat "") |_=>.non) (aK K q _) OU (aq (by rw[wa0,bR];lia)) (λH' s'=>aH.of (s' _ _ X)) (λv H8 Q' hy s8 qq=>qq H8 (a8.refl _)) (λv H4 Q' hy _ s4 qq=>?_) (λH4 s4 h4=>?_)
 .obtain⟨n',Bk,rfl⟩:=vc hy;have Rq:n'<m.length:=by rw[<-I];exact t.lt n' Bk
  have Y:=s3.trans s4;exact{_,rfl,y,L.aB,dx,_,_,rfl,Y _ _ hx,L.az.cl,L.az.fM,fj ah bw cl,_,rfl,ah,_,_,_,rfl,rfl,Y.seq (.inl hh),bz (v:=.str (m.getD n' "")) (by rw[wa3,wa1 Rq,wa4,wa1 Rq];rfl),qq H4 (a8.refl _)}
 have e4:(((nI r).map V.int).filter λ_=>true).map (λv=>match v with |.int d=>V.str (m.getD d.toNat "") |_=>.non)=(r.map λd=>m.getD d "").map V.str:=by
  rw[wb1.mpr (λ_ _=>rfl)];unfold nI;rw[wah,wah,wah];rfl
 rw[e4]at h4;have Y:=s3.trans s4;refine λdl C=>?_;have M:=s1.trans Y;have OQ:d≠dl:=ag (M _ _ hd) C;have JH:(upd H4 dl (.dK [])) d=some (.dK (bH (cy f ls))):=a8.upd C _ _ (M _ _ hd);refine{_,rfl,d,_,rfl,.inl JH,λo H5 h5 Oq=>?_};have Ws:H5 dl=some (.dK []):=by rw[Oq dl (wbx OQ),a7]
 have ZQ:lh≠d:=λz=>by rw[z]at h4;rw[M _ _ hd]at h4;cases h4
 have ZR:H5 lh=some (.lst ((r.map λd=>m.getD d "").map V.str)):=by rw[Oq lh ZQ];exact a8.upd C _ _ h4
 have k5:∀c O,H c=some O->c≠d->H5 c=some O:=λc O e hc=>by rw[Oq c hc];exact a8.upd C _ _ (M _ _ e)
 have V5:H dl=none:=none_of M C;have V6:dl≠lh:=λz=>by rw[z]at C;rw[h4]at C;cases C
 have J:=j9 d o (bH (cy f ls));rw[show ((bH (cy f ls)).map λkv=>kV kv.1)=ls.map V.str by unfold bH cy;rw[wah,wah];rfl]at J;refine iT J (λj σ H6=>∃(v8:Option V),σ=[some (.ref x),some (.int many),some (.int (n:Int)),some (.ref d),some (.ref y),some (.ref ll),some (.ref lh),some (.ref dl),v8]/\H6 dl=some (.dK (bH (cy (d2 (r.map λd=>m.getD d "") f) (ls.take j))))/\∀c O,H5 c=some O->c≠dl->H6 c=some O) {none,rfl,Ws,λc O e _=>e} (λj σ H6 _ {_,_,_,kk}=>kk _ _ h5 OQ) ?_ ?_
 .rintro j v σ H6 hy ⟨v8,rfl,h6,kk⟩;obtain⟨p,OS,rfl,hj,D7,qA⟩:=gE hy;have Ja:p∉(cy (d2 (r.map λd=>m.getD d "") f) (ls.take j)).map (·.1):=by rw[qT];exact ib nd OS
  have put:∀u,u=d2 (r.map λd=>m.getD d "") f p->putK (bH (cy (d2 (r.map λd=>m.getD d "") f) (ls.take j))) (wak p:Key) (.int u)=bH (cy (d2 (r.map λd=>m.getD d "") f) (ls.take (j+1))):=λu ZS=>by
   rw[qP Ja,qA,ZS];unfold cy;rw[wai];rfl
  have hlen:(bH (cy (d2 (r.map λd=>m.getD d "") f) (ls.take j))).length<sizeLine:=by rw[ja];unfold cy;rw[wa0,wad];exact bg (by lia)
  have g6:=ee.f (k:=(wak p:Key)) (kk _ _ h5 OQ);rw[eC,jP f ls p D7]at g6;refine{_,rfl,_,rfl,lh,_,rfl,.inl (aH.of (kk _ _ ZR (wbx V6))),rfl,fi _,decide (p∈r.map λd=>m.getD d ""),congrArg V.bl (j4 p _),?_}
  by_cases hp:p∈r.map λd=>m.getD d ""
  .rw[decide_eq_true hp];refine eB {_,rfl,_,rfl,d,_,rfl,g6,_,rfl,_,rfl,dl,_,rfl,jG.k (k:=wak p) h6 hlen,?_};exact{_,rfl,by rw[a7,put (f p) (by unfold d2;rw[if_pos hp])],λc O e hc=>by rw[af hc];exact kk c O e hc}
  .rw[decide_eq_false hp];refine cq {_,rfl,_,rfl,dl,_,rfl,jG.k (k:=wak p) h6 hlen,?_};exact{_,rfl,by rw[a7,put 0 (by unfold d2;rw[if_neg hp])],λc O e hc=>by rw[af hc];exact kk c O e hc}
 rintro σ H6 ⟨v8,rfl,h6,kk⟩;rw[wa0,waH]at h6;subst WX;subst V1;exact{_,rfl,k dl _ H6 (λc o e hc=>kk _ _ (k5 c o e hc) (ag e V5)) V5 h6 (vq D) (FY D Z t) (F8 D (λd hd=>by rw[<-I];exact t.lt d hd) t.ne) (Av D) (F7 D)}
theorem tR(L:Lk K mg):aS P w K mg base cO 3 L.ml L.mG ["self","data"] (Oj K L.ak L.aA L.aR):=by
 refine L.mN.F.d8 (N:=["self","data","found"]) (λgx A outer s H vs Q E nd hr h=>?_);obtain⟨x,a,R,ts,rfl,S,ha,e,htl,k⟩:=h
 refine{_,(a6 (bj (au (x9 L) L.qo (a9 (pv 1) (aM (aC (pv 0) rfl)))))
  (a6 (ai (i:=2) (au (yx L) L.vW (a9 (aC (pv 0) rfl) (a9 (aC (pv 0) rfl) (aM (aD yQ (pv 1) (aD BK (bY (aM ao)) (ie (pv 0) L.aj.cl L.fU (gO L)))))))))
  (ae (ay (aD i6 (aC (pv 0) rfl) (aW eQ (pv 2) ao (λ_ _=>rfl))))))),?_}
 ac_rfl
 obtain⟨⟨f,p,xb,aa,ll,dp,wa,wb,wc,wz,ys,r,_,_,_,rl,_⟩,ok⟩:=id S;have m1:=ok.m1;have hb:=ok.b1;have E5:=ok.c1;have u:=qw ok.w (wc1.mpr ok.w.ne) (ts:=waj R.b 0) λt B=>by rw[(wdo.mp B).2];lia
 rw[waN]at u;refine{_,rfl,_,rfl,x,L.ak,f,_,_,rfl,r,L.aj.cl,L.aj.IX,CV ..,a,ts,R.many,rfl,ha,e,λC T=>?_};have U:=T _ _ r;refine{_,rfl,x,L.ak,f,_,_,rfl,U,L.aj.cl,L.aj.cP,sq ..,_,rfl,x,L.ak,f,_,_,rfl,U,L.aj.cl,L.aj.DV,AK ..,_,rfl,by show 1<=sizeLine;decide,λv D=>?_};have X:=a8.upd (H:=C) (o:=.lst [V.int 0]) D;have G:(upd C v (.lst [V.int 0])) v=some (.lst [V.int 0]):=a7;generalize upd C v (.lst [V.int 0])=I at X G;have d:=T.trans X;refine{_,rfl,x,f,_,rfl,d _ _ r,bE _ _ _ _ _ _ _ _ ∅,x,R,rfl,S.same d,?_};refine{v,(R.c:Int),[V.int 0],rfl,rfl,G,by lia,by lia,aq (by show 1*((R.c:Int)).toNat<=_;lia),λy J=>?_};rw[war,vh];have Y:=a8.upd (H:=I) (o:=.lst ((nI (waj R.c 0)).map V.int)) J;have Z:(upd I y (.lst ((nI (waj R.c 0)).map V.int))) y=some (.lst ((nI (waj R.c 0)).map V.int)):=a7;generalize upd I y (.lst ((nI (waj R.c 0)).map V.int))=M at Y Z;have g:=d.trans Y;refine{a,y,_,_,rfl,rfl,g _ _ ha,Z,aq ?_,λz O=>?_}
 .rw[wa0,wa0,bR,bR,waN]
  lia
 rw[<-wai,<-mV];have s4:=a8.upd (H:=M) (o:=.lst ((nI (ts++waj R.c 0)).map V.int)) O;have h4:(upd M z (.lst ((nI (ts++waj R.c 0)).map V.int))) z=some (.lst ((nI (ts++waj R.c 0)).map V.int)):=a7;generalize upd M z (.lst ((nI (ts++waj R.c 0)).map V.int))=H4 at s4 h4;have j:=g.trans s4;have l:∀t:Nat,t∈ts++waj R.c 0->(t:Int)<R.many:=λt B=>ri m1 e R.b R.c t (waI _ B);have w1:=qw ok.w u.1 l;rw[wa5,waN]at w1;refine{.ref ll,_,z,R.many,R.n,R.wl,ts++waj R.c 0,rfl,bK.same j _ _ rl,aH.of h4,ok.w,u.1,l,by rw[wa5,waN];lia,ok.oE,λq H5 s5 hq=>?_};have m:=j.trans s5;refine{_,rfl,x,L.ak,f,_,_,rfl,m _ _ r,L.aj.cl,L.aj.rk,nv ..,_,rfl,q,_,_,_,rfl,rfl,g8.of hq,rfl,_,_,rfl,rfl,aq ?_,k H5 m};show R.o.1.length+_<=_;unfold Wr.o;rw[u.2,w1.2];have h1:R.n*R.b<=10*1000:=wby ok.oE hb;have G:R.n*(ts.length+R.c)<=10*11000:=wby ok.oE (by lia)
 lia
end
end K51
namespace L2
open PySem.Spec PyProof.Rows
theorem Df{X:Cx}{g:List (Addr×Obj)}{σ:St}{H:Hp}{s:Shared}{j:List Addr}{h':Heap}(I:Inv X g σ H s)(l:∀b∈j,tG X g H b)(k:∀b o,b∉j->s.heap.get? b=some o->h'.get? b=some o):Inv X g σ H {s with heap:=h'}:=by
 have a:∀b u,H b=some u->b∉j:=λb u e z=>by rw[(l b z).1]at e;cases e
 refine I.step (g':=s.gens) (d':=s.drawn) (ch:=j) (λb d=>?_) (λb o _ _ hc e _=>k b o hc e) (λb o _ _ hc e _=>{o.slots,k b o hc e}) (λ_ _ _ _ n=>n)
  (λb o hc e=>{o,k b o hc e}) (λ_ _ e=>e) (λ_ _ _ e=>e) (λb ps e=>{#[],by rw[e];simp}) (λm f=>?_) (λb u e=>?_) I.bare
 .obtain⟨_,f1,_,h,i,p⟩:=l b d;exact⟨h,f1,i,p⟩
 .obtain⟨o,t,w,x,r⟩:=f;exact{o,t,w,k _ o (λz=>(l _ z).2.1 rfl) x,r}
 .refine(I.b9 b u e).uz (λc v hc q=>k c v ?_ q) (λ_ q=>q) λ_ _ q=>q;rcases hc with z |z
  .rw[z];exact a b u e
  .exact a c _ z
theorem Jm{P:waC}{w:World}{K:wa2}{r:List Expr}{k:Nat}{pos:Pos}{a b z TI TO i1 i2:Addr}(D:ZipApart z TI TO i1 i2 a b) :
 Turn P w K (.Tuple r k pos) (PX K a b) [z,TI,TO,i1,i2] z (λi h=>IsZip h z TI TO .none/\IsPair h TI (.ref i1) (.ref i2)/\(∃p q,IsPair h TO p q)/\h.IsListIter i1 a i/\h.IsListIter i2 b i) where
 mem:=wag ..
 obj:=λi h st c hc=>by
  obtain⟨f,d,⟨p,q,g⟩,⟨o4,j,_,Z⟩,o5,l,_,d5⟩:=st;simp only[waG,wbn,or_false]at hc;rcases hc with rfl |rfl |rfl |rfl |rfl
  .exact{_,f,λv q=>by cases q}
  .exact{_,d,λv q=>by cases q}
  .exact{_,g,λv q=>by cases q}
  .exact{_,j,λv q=>by rw[Z]at q;cases q}
  .exact{_,l,λv q=>by rw[d5]at q;cases q}
 keep:=λi h U {f,d,⟨p,q,g⟩,j,l} k=>{k z (by simp) _ f,k TI (by simp) _ d,{p,q,k TO (by simp) _ g},j.at λo e=>k i1 (by simp) o e,l.at λo e=>k i2 (by simp) o e}
 item:=by
  intro X G hw J hc i t s σ H E I L st M;subst G hw J;obtain⟨xs,ys,x,y,B,C,ex,V⟩:=M;obtain⟨N,O,Q,_⟩:=I.list B;obtain⟨A,m,R,_⟩:=I.list C;obtain⟨u,hu,ru⟩:=O.get ex;obtain⟨v,hv,S⟩:=m.get V;obtain⟨f,d,⟨p,q,g⟩,j,l⟩:=st;refine wpAny_pyNext_zip_item D f d g j l Q.isList R.isList (x:=u) (y:=v) (by simpa using hu) (by simpa using hv) λU a1 a2 a3 a4 a5 _ hk=>?_;refine{_,rfl,wpAny_letOwnedTupleGo_zip a1 λTL b1 n=>?_};obtain⟨_,q4,_⟩:=id j;obtain⟨_,q5,_⟩:=id l;have Y:z<s.heap.objs.size:=wae f
  obtain⟨fr,I1,hn⟩:=oS (y:=x) (x:=y) s.toks I L (λc o h e=>(n.2 c (zf h).1).trans (hk c o (zf h).1 (zf h).2.1 (zf h).2.2.1 (zf h).2.2.2 e)) ((n.2 _ (wc4 Y)).trans a5) ru S
   (λc hc=>by
     simp only[waG,wbn,or_false]at hc;rcases hc with rfl |rfl |rfl |rfl |rfl
     .exact Y
     .exact wae d
     .exact wae g
     .exact wae q4
     .exact wae q5)
  exact{.ref s.heap.objs.size,_,I1,rfl,{s.heap.objs.size,x,y,fr,rfl,rfl,(λzs T=>by rw[I.j6 T B];exact ex),λzs T=>by rw[I.j6 T C];exact V},
   {b1,(n.2 _ D.TIz).trans (hk _ _ D.TIz D.TITO D.TIi1 D.TIi2 d),{u,v,(n.2 _ D.TOz).trans a2},a3.at λo e=>(n.2 _ D.i1z).trans e,a4.at λo e=>(n.2 _ D.i2z).trans e},hn}
 done:=by
   intro X G hw J hc i t s σ H E I L st M;subst G hw J;obtain⟨xs,ys,B,C,hl⟩:=M;obtain⟨N,O,Q,_⟩:=I.list B;obtain⟨A,m,R,_⟩:=I.list C;have l1:=O.length;have l2:=m.length;obtain⟨f,d,⟨p,q,g⟩,j,l⟩:=st;refine wpAny_pyNext_zip_end (I.ok.hd hc) D f d g j l Q.isList R.isList ?_ λU eb=>{rfl,?_}
   .rcases hl with hl |hl
    .exact .inl (wdu (by simp;omega))
    .exact .inr (wdu (by simp;omega))
   .exact Df I L λc o h e=>eb c o (zf h).1 (zf h).2.1 (zf h).2.2.1 (zf h).2.2.2 e
 self:=λ_ _ _ _ _ st h=>wpAny_pyIter_zip st.1 h
section
variable{X:Cx}{elts:List Expr}{k:Nat}{V7:Pos}
theorem Ot{l m:Expr}{r:TA}{p pos:Pos}(C:Gl X "zip")(J:X.mg "zip"=none)(ha:PA X [l,m] r)(he:starEach [l,m] X.env=(false,eval l X.env)::starEach [m] X.env:=by rfl)(hpl:(backTo pos (starEach [m] X.env)).any (·.1)=false:=by rfl) :
 PI X (.Tuple elts k V7) (.Call (.Name "zip" p) [l,m] [] pos) (Tb X.K r):=by
 refine{?_};intro d s σ H R I h;refine wbr (eR I C J El ?_ ⋯ ⋯);refine waZ (bN (ha pos d s σ H _ I h) λV e ⟨Y,n,f,y,A⟩=>?_) he hpl;obtain⟨a,b,Z,ys,rfl,B,D,q⟩:=A;obtain⟨u,v,rfl,E,G⟩:=PF y;cases E;cases G;obtain⟨L,_,o,_⟩:=f.list B;obtain⟨t,_,w,_⟩:=f.list D;refine call_zip_2 o.isList w.isList λM x i j N O Q kp=>?_;obtain⟨oa,S,_⟩:=o.isList;obtain⟨ob,T,_⟩:=w.isList;have la:@LT.lt Nat _ a _:=wae S;have lb:@LT.lt Nat _ b _:=wae T;refine wpAny_pyIter_zip x ?_;have U:Inv X d σ n {e with heap:=M}:=f.kept (t':=e.toks) kp;refine{_,_,_,_,n,rfl,U,Jm (TI:=e.heap.objs.size+2) (TO:=e.heap.objs.size+3) (i1:=e.heap.objs.size) (i2:=e.heap.objs.size+1) (a:=a) (b:=b) (by constructor<;>(intro z;have z:@Eq Nat _ _:=z;omega)),{x,i,{_,_,j},N,O},λc hc=>?_,q}
 have g:e.heap.objs.size<=c:=by
  simp only[waG,wbn,or_false]at hc;rcases hc with rfl |rfl |rfl |rfl |rfl
  .exact wdI _ 4
  .exact wdI _ 2
  .exact wdI _ 3
  .exact waa _
  .exact wdI _ 1
 exact f.tH g (f.b9.fresh g)
end
end L2
namespace HT
open PyProof.Rows
noncomputable def zM(n d:Nat):Option Int->Nat
 |none=>d
 |some v=>if v<0 then(v+(n:Int)).toNat else min v.toNat n
theorem LI(n d k:Nat):zM n d (some (k:Int))=min k n:=by
 show (if (k:Int)<0 then((k:Int)+(n:Int)).toNat else min (k:Int).toNat n)=min k n;rw[if_neg (by lia),war]
end HT
namespace L2
open PySem.Spec PyProof.Rows
section
variable{lo hi:Option Expr}
noncomputable def jy(xs:List V)(lo hi:Option Int):List V:=(xs.drop (HT.zM xs.length 0 lo)).take (HT.zM xs.length xs.length hi-HT.zM xs.length 0 lo)
theorem Bf(xs:List V)(lo hi:Option Int):(jy xs lo hi).length<=xs.length:=by
 unfold jy;rw[wad,waW]
 lia
theorem Ec(xs:List V)(n:Nat):jy xs none (some (n:Int))=xs.take n:=by simp_all [jy,HT.zM,wdz,whm,if_neg,wdS,Nat.min_eq_right,waH,wbf]
theorem Bg(xs:List V)(k:Nat):jy xs (some (k:Int)) none=xs.drop k:=by
 unfold jy HT.zM;simp only;split
 .lia
 .by_cases h:k<=xs.length
  .rw[show min ((k:Int)).toNat xs.length=k by lia];exact wbf (by rw[waW];exact waa _)
  .rw[show min ((k:Int)).toNat xs.length=xs.length by lia,wbA,wdB,wbs (by lia)]
theorem LJ(xs:List V){i j:Nat}(h:i<=j):jy xs (some (i:Int)) (some (j:Int))=(xs.drop i).take (j-i):=by
 unfold jy HT.zM;simp only;rw[if_neg (by lia),if_neg (by lia)]
 by_cases a:i<=xs.length
 .by_cases b:j<=xs.length
  .rw[show min ((i:Int)).toNat xs.length=i by lia,show min ((j:Int)).toNat xs.length=j by lia]
  .rw[show min ((i:Int)).toNat xs.length=i by lia,show min ((j:Int)).toNat xs.length=xs.length by lia];rw[wbf (by rw[waW];exact waa _),wbf (by rw[waW];lia)]
 .rw[show min ((i:Int)).toNat xs.length=xs.length by lia,wbs (waa _),wbs (by lia),List.take_nil,List.take_nil]
theorem Jn(xs:List V)(k:Nat)(h:k<=xs.length):jy xs none (some (k:Int))=xs.take k:=by simp_all [jy,HT.zM,if_neg]
end
section
variable{a:Expr}
theorem zH(lo hi:Option Int)(n:Nat):(whI lo hi none n).1=((HT.zM n 0 lo:Nat):Int)/\(whI lo hi none n).2.1=((HT.zM n n hi:Nat):Int)/\(whI lo hi none n).2.2=1:=by
 have key:∀(i:Int) (d:Nat),max 0 (min (if i<0 then i+(n:Int) else i) (n:Int))=((HT.zM n d (some i):Nat):Int):=by
  intro i d
  by_cases h:i<0<;>simp only[HT.zM,h,if_true,if_false]<;>lia
 exact{by cases lo with |none=>rfl |some i=>exact key i 0,by cases hi with |none=>rfl |some i=>exact key i n,rfl}
theorem xf(g:List Value)(lo hi:Option Int):slicePick g.toArray lo hi none=((g.drop (HT.zM g.length 0 lo)).take (HT.zM g.length g.length hi-HT.zM g.length 0 lo)).toArray:=by
 obtain⟨a,b,c⟩:=zH lo hi g.toArray.size;unfold slicePick;rw[a,b,c];simp only[sliceRange_one,pick_run,waF]<;>rfl
inductive V8(K:wa2)(x:V)(lo hi:Option Int)(H:Hp)(Q:VK):Prop
 |mk (a xs) (_:x=.ref a) (_:aH K H a xs) (_:∀p,H p=none->Q (.ref p) (upd H p (.lst (jy xs lo hi))))
theorem Bh(ns:List Int)(lo hi:Option Int):∃g:List Int,jy (ns.map V.int) lo hi=g.map V.int/\g.length<=ns.length:=by
 refine{_,by unfold jy;rw[<-wer,<-wdd],?_};rw[wad,waW]
 lia
end
section
variable{X:Cx}
theorem fZ:TQ X (V8 X.K):=by
 intro e s σ H x v n p lo hi sl Q I g i pl j h;obtain⟨a,c,rfl,k,q⟩:=h;cases g;obtain⟨l,r,f,m⟩:=I.list k;have d:=r.length;refine{"list",_,slot_list_getitem.lookup,f.isList.typeIs,?_};refine wpAny_getItem_list_slice f.isList i pl j .none (by simp) ?_ (by grind);rw[xf,<-d];refine{.ref s.heap.objs.size,_,I.laid (t':=s.toks) (o:=.lst (jy c lo hi)) (λb ob q=>wa9 _ q) (waa _) ?_,rfl,q _ (I.b9.fresh (waa _))};exact{wal (Bf c lo hi) m,_,0,(r.drop (HT.zM c.length 0 lo)).take (HT.zM c.length c.length hi-HT.zM c.length 0 lo),wap _ rfl}
end
end L2
namespace K51
section
variable{P:waC}{w:World}{K:wa2}{mg:Str->Option Value}{base:Heap}
local macro_rules|`(tactic|ac_rfl)=>`(tactic|try dsimp only[cW,cX,aZ,b0])
theorem jz(L:Lk K mg):aS P w K mg base cO 2 L.fO L.fQ ["line","kept","many"] (KU K):=by
 refine L.fT.F.d8 (N:=["line","kept","many"]) (λX A outer s H vs Q E nd t h=>?_);obtain⟨v,b,many,c,g,rfl,Y,S,u,x,m0,k⟩:=h;refine{_,(ae (ay (eV rfl (aw ["kept"] [1]) (aw ["kept"] [1]) ⋯ (aP (b6 fZ (au (nX L) L.kl (a9 (pv 0) (aM (pv 1)))) cB (aV (pv 2)))) (λ_ _ _ _ _ _=>b8) (λ_ _ _ _ _ _=>(dP (a9 (pv 0) (aM (Hf (K:=K) rfl waL wd9 wg1 (F6 (K:=K) rfl) (pv 2) (aM (pv 1)))))))))),?_}
 ac_rfl
 have B:many=((many.toNat:Nat):Int):=();refine{_,rfl,_,rfl,v,b,c,g,rfl,Y,S,x,λy C D Z=>?_};obtain⟨a,f,rfl,hS,T⟩:=cS (bK.same (bI _ _) _ _ Z);have zA:f.length=(cR c g).length:=by rw[T.1,wa0,wa0]
 have Yx:=Hn c g;refine{_,rfl,((many.toNat:Nat):Int),congrArg V.int B,a,_,rfl,hS,λm G=>?_};rw[Ec,<-wdd];have n:=a8.upd (H:=C) (o:=.lst ((f.take many.toNat).map V.ref)) G;have I:(upd C m (.lst ((f.take many.toNat).map V.ref))) m=some (.lst ((f.take many.toNat).map V.ref)):=a7;generalize upd C m (.lst ((f.take many.toNat).map V.ref))=H2 at n I;refine{m,rfl,{_,aH.of I},λl hl=>?_};refine jl (prs:=((cR c g).take many.toNat).map dh) (λ_=>true) (λq=>match q.2 with |.int e=>.tup [.at q.1,.at (.int (c.idxOf e.toNat:Int))] |_=>.at .non) (aK K m _) (by grind) (λi q j=>?_) hl (aq (by grind)) (λU J=>aH.of (J _ _ I)) (λq M Q' _ _ O=>O M (a8.refl _)) (λq M Q' j _ s3 O=>?_) (λU J r=>?_)
 .rw[wa3]at j
  have hi:i<((cR c g).take many.toNat).length:=by
   cases e:((cR c g).take many.toNat)[i]? with
   |none=>rw[e]at j;cases j
   |some z=>exact(wa6.mp e).1
  have d:i<many.toNat/\i<f.length:=by rw[wad]at hi;omega
  rw[wd1 d.1,wa1 ()]at j;cases j;refine{f[i],by rw[wa3,wd1 d.1,wa1 d.2];rfl,g8.of (n _ _ ?_)};exact T.2 i f[i] (iE (dh (cR c g)[i])) (wa1 d.2) (by rw[wa3,wa3,wa1 ()];rfl)
 .obtain⟨z,hz,rfl⟩:=wab.mp j;have R:=of_decide_eq_true (wau.mp ((wbp _ _).subset hz)).2;have p:aH K M b ((nI c).map V.int):=((D.trans n).trans s3).seq S;obtain⟨i1,i2⟩:=KG R;refine{_,rfl,_,rfl,.inl {rfl,_,p},_,rfl,b,nI c,(z.2:Int),c.idxOf z.2,rfl,rfl,p,by rw[bR];exact u,i1,i2,by show 2<=sizeLine;decide,λr t=>?_};exact O _ _ (a8.upd t) (lW t (z.1,c.idxOf z.2))
 .rw[wb1.mpr (λ_ _=>rfl),wah]at r;refine k _ U ((D.trans n).trans J) (bK.same (eF (D.trans n)) _ _ ?_);unfold fG bV;rw[wah];exact r
theorem kr(L:Lk K mg):aS P w K mg base cO 1 L.sE L.sT ["_law_script","_law_place_here"] (QE K):=by
 have T:=L.T;refine L.iN.F.d8 (N:=["_law_script","_law_place_here"]) (λb A outer s H e Q E nd f h=>?_);obtain⟨a,ns,p,rfl,c,k⟩:=h;refine{_,(ae (ay (aT (lN rfl) (by rfl) T.sum EJ (aM (b6 fZ (pv 0) (aV (pv 1)) (aV (aD cu (pv 1) ao))))))),?_}
 ac_rfl
 refine{_,rfl,_,rfl,_,rfl,_,rfl,_,_,rfl,rfl,_,rfl,a,_,rfl,c,λl hl=>?_};obtain⟨d,em,_⟩:=Bh ns (some p) (some (p+1));rw[em];exact{l,d,rfl,aH.of a7,k _ _ (a8.upd hl)}
theorem g7(L:Lk K mg):aS P w K mg base cO 1 L.nG L.nP ["_law_cell","_law_many"] HB:=by
 have T:=L.T;refine L.eW.F.d8 (N:=["_law_cell","_law_many","_law_found","_law_one","_law_turn","_law_two","_law_more"]) (λx A outer s H C Q E nd D h=>?_);obtain⟨c,m,rfl,G,k⟩:=h
 refine{_,(a6 (ai (i:=2) (bY dN))
  (a6 (ai (i:=3) (aD uJ (pv 0) ao))
  (a6 (bA (d4 hZ (aD cD (pv 0) ao) ao) (a6 (forA (bX rfl T.range (aM (pv 1))) (ax (i:=4)) (a6 (bj (gB waL waP waT cm (pv 2) (aM (aD cD (pv 3) ao))))
  (ae (ai (i:=3) (aD uJ (pv 3) ao)))))
  (ae (ay (pv 2)))) aO)
  (a6 (ai (i:=5) (aD cD (aD uJ (pv 3) ao) ao))
  (a6 (ai (i:=3) (aD cD (pv 3) ao))
  (a6 (forA (bX rfl T.range (aM (aD cu (pv 1) ao))) (ax (i:=4)) (a6 (ai (i:=6) (aD cu (aD cu (aD cu (aD f5 (pv 3) ao) (aD f5 (pv 5) (pv 5))) (aD f5 ao (pv 4))) ao))
  (a6 (ai (i:=3) (pv 5))
  (a6 (ai (i:=5) (aD cD (pv 6) ao))
  (ae (bj (gB waL waP waT cm (pv 2) (aM (pv 5)))))))))
  (ae (ay (b6 fZ (pv 2) (aV ao) cB))))))))),?_}
 ac_rfl
 refine{waq _,λl hl=>?_};have t:a8 H (upd H l (.lst [])):=a8.upd hl;have app:∀{f:Hp} {d:List Int} {v:Int},a8 H f->f l=some (.lst (d.map V.int))->a8 H (upd f l (.lst (d.map V.int++[.int v])))/\(upd f l (.lst (d.map V.int++[.int v]))) l=some (.lst ((d++[v]).map V.int)):=λ{f d v} j g=>{λb I e=>by rw[af (ag e hl)];exact j _ _ e,by rw[a7,wai];rfl};refine{_,rfl,_,_,rfl,rfl,{⋯,∅},?_};refine{_,rfl,_,_,rfl,rfl,(by show (0:Int)<2;decide),rfl,_,rfl,o7 (λ_=>?_) (λ_=>?_)}
 .refine{_,rfl,(m:Int),rfl,by lia,by lia,?_};rw[war];refine bW (lo:=0) (n:=m) (λi σ f=>∃(one:Int) (d:List Int) (v4:Option V),σ=[some (.int c),some (.int (m:Int)),some (.ref l),some (.int one),v4,none,none]/\a8 H f/\f l=some (.lst (d.map V.int))/\d.length=i) {_,[],none,rfl,t,a7,rfl} ?_ ?_
  .rintro i σ f hi ⟨one,d,v4,rfl,j,g,o⟩;refine{_,rfl,.inl {rfl,_,aH.of g},_,rfl,_,_,rfl,rfl,(by show (0:Int)<1999999973;decide),l,_,_,rfl,rfl,g,by rw[wa0];exact bg (by lia),?_};exact{_,rfl,_,_,rfl,rfl,{⋯,∅},_,d++[one%1999999973],_,rfl,(app j g).1,(app j g).2,by rw[wa5,o];rfl}
  .rintro σ f ⟨one,d,v4,rfl,j,g,o⟩;exact{_,rfl,k l d f j hl g o}
 .refine{_,rfl,_,_,rfl,rfl,{⋯,∅},_,_,rfl,rfl,(by show (0:Int)<1999999943;decide),?_};have q:=wbb (c/2/1999999973) (show (1999999943:Int)≠0 by decide);have u:=wbh (c/2/1999999973) (show (0:Int)<1999999943 by decide);refine{_,rfl,_,_,rfl,rfl,(by show (0:Int)<1999999973;decide),?_};refine{_,rfl,_,_,rfl,rfl,_,rfl,by lia,by lia,?_};rw[show ((m:Int)+2).toNat=m+2 by lia];refine bW (lo:=0) (n:=m+2) (λi σ f=>∃(one a:Int) (d:List Int) (v4 v6:Option V),σ=[some (.int c),some (.int (m:Int)),some (.ref l),some (.int one),v4,some (.int a),v6]/\0<=a/\a<2000000000/\a8 H f/\f l=some (.lst (d.map V.int))/\d.length=i) {c/2%1999999973,c/2/1999999973%1999999943,[],none,none,rfl,q,by lia,t,a7,rfl} ?_ ?_
  .rintro i σ f hi ⟨one,a,d,v4,v6,rfl,q,u,j,g,o⟩;refine{_,rfl,_,_,rfl,rfl,.inr {⋯,⋯},_,rfl,_,rfl,_,_,rfl,rfl,.inl {by lia,by lia},_,_,rfl,rfl,_,rfl,_,_,rfl,rfl,.inl {⋯,⋯},_,_,rfl,rfl,_,_,rfl,rfl,?_};refine{_,rfl,?_};refine{_,rfl,_,_,rfl,rfl,(by show (0:Int)<1999999973;decide),?_};have y:=wbb (one*1664525+a*a+97*(0+(i:Int))+40503) (show (1999999973:Int)≠0 by decide);have J:=wbh (one*1664525+a*a+97*(0+(i:Int))+40503) (show (0:Int)<1999999973 by decide);refine{_,rfl,.inl {rfl,_,aH.of g},_,rfl,l,_,_,rfl,rfl,g,by rw[wa0];exact wbg (m:=2000) (by lia) (by rw[wcg];decide),?_};exact{_,_,d++[(one*1664525+a*a+97*(0+(i:Int))+40503)%1999999973],_,_,rfl,y,by lia,(app j g).1,(app j g).2,by rw[wa5,o];rfl}
  .rintro σ f ⟨one,a,d,v4,v6,rfl,q,u,j,g,o⟩;refine{_,rfl,_,rfl,l,_,rfl,aH.of g,λz p=>?_};have B:=Bg (d.map V.int) 2;have r:jy (d.map V.int) (some 2) none=(d.drop 2).map V.int:=by rw[wer];exact B
   rw[r];exact k z (d.drop 2) _ (j.trans (a8.upd p)) (none_of j p) a7 (by rw[waW];lia)
theorem zI(L:Lk K mg):aS P w K mg base cO 2 L.sF L.sU ["_law_script"] (KN K):=by
 have T:=L.T;refine L.t9.F.d8 (N:=["_law_script","_law_known","_law_xs","_law_size","_law_step","_law_signs","_law_words","_law_k","_law_ys","_law_long"]) (λgx A outer s H vs Q E nd hr h=>?_);obtain⟨a,ns,rfl,hS,k⟩:=h
 refine{_,(a6 (ai (i:=1) dO)
  (a6 (ai (i:=2) (au (g7 L) L.eW (a9 (au (kr L) L.iN (a9 (pv 0) (aM ao))) (aM ao))))
  (a6 (ai (i:=3) (aW b5 (bY (oV (is:=[2,2,2,3,2,4,2,3]) ∅)) (aD cD (aW b5 (pv 2) ao (λ_ _=>rfl)) ao) (λ_ _=>rfl)))
  (a6 (ai (i:=4) (aW b5 (bY (oV (is:=[1,5,7,11,13,35]) ∅)) (aD cD (aW b5 (pv 2) ao (λ_ _=>rfl)) ao) (λ_ _=>rfl)))
  (a6 (ai (i:=5) (gB weq weH weI yP dO (aM (cn rfl (aw ["_law_known","_law_xs","_law_step"] [1,2,4]) (bX rfl T.range (aM (pv 3))) (λ_ _ _ _ _ _=>b8) (λ_ _ _ _ _ _=>(aW yN (pv 1) (aD cD (aD cu (aW (fE (K:=K) rfl) (pv 2) ao (λ_ _=>rfl)) (aD f5 (pv 3) (pv 0))) ao) (λ_ _=>rfl)))))))
  (a6 (ai (i:=6) (bY dN))
  (a6 (forA (bX rfl T.range (aM (aW b5 (bY (oV (is:=[0,1,2,3,1,2,3,6]) ∅)) (aD cD (aW b5 (pv 2) ao (λ_ _=>rfl)) ao) (λ_ _=>rfl)))) (ax (i:=7)) (a6 (ai (i:=8) (b6 fZ (au (g7 L) L.eW (a9 (au (kr L) L.iN (a9 (pv 0) (aM (aD cu ao (aD cD (pv 7) ao))))) (aM ao))) (aV (aD f5 (aD jI (pv 7) ao) ao)) cB))
  (a6 (ai (i:=9) (aW b5 (bY (oV (is:=[2,3,4,2,3,4,1,5]) ∅)) (aD cD (aW b5 (pv 8) ao (λ_ _=>rfl)) ao) (λ_ _=>rfl)))
  (ae (bj (gB waL waP waT cm (pv 6) (aM (gB weq weH weI yP dO (aM (cn rfl (aw ["_law_signs","_law_size"] [5,3]) (aP (b6 fZ (pv 8) (aV ao) (aV (aD cu ao (pv 9))))) (λ_ _ _ _ _ _=>b8) (λ_ _ _ _ _ _=>(aW yN (pv 1) (aD cD (pv 0) (pv 2)) (λ_ _=>rfl)))))))))))))
  (ae (ay (dP (a9 (pv 5) (aM (pv 6))))))))))))),?_}
 ac_rfl
 refine{_,rfl,a,ns,0,rfl,hS,λc1 H1 s1=>?_};refine{c1,4,rfl,⋯,λlx xs H2 s2 fx h2 hx=>?_};obtain⟨x0,x1,x2,x3,rfl⟩:=Ky hx;clear hx;have JG:=s1.trans s2;obtain⟨n,hn,n1⟩:=NM _ (wbb x0 (show (8:Int)≠0 by decide)) (wbh x0 (show (0:Int)<8 by decide));refine{⋯,λp hp=>?_};have G:=a8.upd (o:=.lst [.int 2,.int 2,.int 2,.int 3,.int 2,.int 4,.int 2,.int 3]) hp _ _ h2;have wu:=JG.trans (a8.upd (o:=.lst [.int 2,.int 2,.int 2,.int 3,.int 2,.int 4,.int 2,.int 3]) hp);refine{_,rfl,lx,_,0,_,rfl,rfl,aH.of G,rfl,_,_,rfl,rfl,(by show (0:Int)<8;decide),p,_,_,_,rfl,rfl,aH.of a7,hn,?_};generalize upd H2 p _=H3 at G wu;obtain⟨sp,WW,WY⟩:=NN _ (wbb x2 (show (6:Int)≠0 by decide)) (wbh x2 (show (0:Int)<6 by decide));refine{⋯,λp2 Rr=>?_};have f:=a8.upd (o:=.lst [.int 1,.int 5,.int 7,.int 11,.int 13,.int 35]) Rr _ _ G;have MC:=wu.trans (a8.upd (o:=.lst [.int 1,.int 5,.int 7,.int 11,.int 13,.int 35]) Rr);refine{_,rfl,lx,_,2,_,rfl,rfl,aH.of f,rfl,_,_,rfl,rfl,(by show (0:Int)<6;decide),p2,_,_,_,rfl,rfl,aH.of a7,WW,?_};generalize upd H3 p2 _=H4 at f MC
 have WZ:sp<=35:=by
  simp only[waG,wbn,or_false]at WY
  lia
 have hn4:n<=4:=by
  simp only[waG,wbn,or_false]at n1
  lia
 obtain⟨st,ZT⟩:∃st:Nat,x1%36=(st:Int):={(x1%36).toNat,by lia};have ZU:st<36:=by lia
 refine{rfl,_,rfl,(n:Int),rfl,by lia,by lia,λl hl=>?_};rw[war];refine comp_map (Ks st sp) (o8 0 n) hl (by rw[wa0,waJ];exact aq (by lia)) (λ_ _=>trivial) (λx H5 Q' hx s5 q=>?_) (λH5 s5 m=>?_)
 .obtain⟨i,hi,rfl⟩:=wab.mp hx;have hi':i<n:=wb7.mp hi;have hd:(st+i*sp)%36<(ch fH).length:=by rw[aE,Ak];exact Nat.mod_lt _ ⋯
  have e1:(ch fH)[(st+i*sp)%36]?=some ((ch fH).getD ((st+i*sp)%36) 0):=by rw[wa4,wa1 hd];rfl
  have e2:=bz e1
  have e3:(((st+i*sp)%36:Nat):Int)=(x1+(sp:Int)*(0+(i:Int)))%36:=by
   rw[wca,weV (sp:Int),Int.natCast_emod,wbk,wb0,<-ZT];show (x1%36+(i:Int)*(sp:Int))%36=_;rw[Int.emod_add_emod]
  rw[e3]at e2
  have e4:Ks st sp (.int (0+(i:Int)))=.str {#[(ch fH).getD ((st+i*sp)%36) 0]}:=by
   rw[wca];rfl
  have q':=q H5 (a8.refl _);rw[e4]at q';exact{_,rfl,_,rfl,lx,_,1,_,rfl,rfl,aH.of (s5 _ _ f),rfl,_,rfl,_,rfl,_,_,rfl,rfl,.inl {by lia,by lia},_,_,rfl,rfl,_,_,rfl,rfl,(by show (0:Int)<36;decide),fH,_,_,rfl,rfl,aq (by rw[Ak];decide),e2,q'}
 have X0:((waD n).map λ(i:Nat)=>V.int (0+(i:Int))).map (Ks st sp)=((lU st sp n).map λc=>({#[c]}:Str)).map V.str:=by
  unfold lU;rw[wah,wah,wah];refine waX λi _=>?_;show Ks st sp (.int (0+(i:Int)))=_;rw[wca];rfl
 have d:(lU st sp n).length=n:=by unfold lU;rw[wa0,waJ]
 rw[X0]at m;refine{_,l,_,rfl,rfl,aH.of m,?_,?_}
 .have u:∀r:List Nat,((r.map λc=>({#[c]}:Str)).map (·.length)).sum=r.length:=by
   intro r
   induction r with
   |nil=>rfl
   |cons c r ih=>rw[wat,wat,wbu,ih,waE];show 1+r.length=_;lia
  rw[u,wa0,d];show n+n*0<=16777216
  lia
 have I:∀r:List Nat,((r.map λc=>({#[c]}:Str)).map ch).flatten=r:=by
  intro r
  induction r with
  |nil=>rfl
  |cons c r ih=>rw[wat,wat,wbV,ih];rfl
 have X1:=Ap ZU WY n1 (x:=wd2 "" ((lU st sp n).map λc=>({#[c]}:Str))) (by rw[mW ∅,I]);have E6:(wd2 "" ((lU st sp n).map λc=>({#[c]}:Str))).length=n:=by rw[<-aE,mW ∅,I,d]
 generalize wd2 "" ((lU st sp n).map λc=>({#[c]}:Str))=g at X1 E6 ⊢;clear m X0 d I;have Oo:=MC.trans s5;have ZV:=s5 _ _ f;obtain⟨nw,ZW,nw6⟩:=NP _ (wbb x3 (show (8:Int)≠0 by decide)) (wbh x3 (show (0:Int)<8 by decide));refine{waq _,λJ M=>?_};have fw:H J=none:=none_of Oo M;have ZX:=a8.upd (o:=.lst []) M _ _ ZV;have Rt:=Oo.trans (a8.upd (o:=.lst []) M);refine{⋯,λp3 O=>?_};have X2:=a8.upd (o:=.lst [.int 0,.int 1,.int 2,.int 3,.int 1,.int 2,.int 3,.int 6]) O _ _ ZX;have X3:=a8.upd (o:=.lst [.int 0,.int 1,.int 2,.int 3,.int 1,.int 2,.int 3,.int 6]) O _ _ (a7 (H:=H5) (a:=J) (o:=.lst []));have Sy:=Rt.trans (a8.upd (o:=.lst [.int 0,.int 1,.int 2,.int 3,.int 1,.int 2,.int 3,.int 6]) O);refine{_,rfl,lx,_,3,_,rfl,rfl,aH.of X2,rfl,_,_,rfl,rfl,(by show (0:Int)<8;decide),p3,_,_,_,rfl,rfl,aH.of a7,ZW,?_};generalize upd (upd H5 J _) p3 _=H7 at X2 X3 Sy;refine{_,rfl,by lia,by lia,?_};rw[war]
 refine bW (lo:=0) (n:=nw) (λi σ H8=>∃(R:List Str) (v7 v8 v9:Option V),σ=[some (.ref a),some (.str fH),some (.ref lx),some (.int (n:Int)),some (.int (sp:Int)),some (.str g),some (.ref J),v7,v8,v9]/\a8 H H8/\H8 J=some (.lst (R.map V.str))/\R.length=i/\∀w∈R,z9 g w)
  {[],none,none,none,rfl,Sy,X3,rfl,(λw h=>nomatch h)} ?_ ?_
 .rintro i σ H8 hi ⟨R,v7,v8,v9,rfl,s8,h8,zm,S⟩;refine{_,rfl,_,rfl,_,_,rfl,rfl,(by show (0:Int)<3;decide),_,_,rfl,rfl,a,ns,_,rfl,s8.seq hS,λcc H9 s9=>?_};refine{cc,12,rfl,⋯,λly ys LA Jo fy LK hy=>?_};have hq:(0+(i:Int))/3*6=((i/3*6:Nat):Int):=by lia
  have hq6:i/3*6<=6:=by lia
  refine{_,rfl,_,_,rfl,rfl,{⋯,⋯},_,_,rfl,rfl,.inr {⋯,⋯},_,rfl,ly,_,rfl,aH.of LK,λl2 m=>?_}
  have ec:jy (ys.map V.int) (some ((0+(i:Int))/3*6)) none=(ys.drop (i/3*6)).map V.int:=by
   rw[wer,hq];exact Bg _ _
  rw[ec];have U:(ys.drop (i/3*6)).length ≥ 6:=by rw[waW];lia
  generalize ys.drop (i/3*6)=zs at U;have B:(upd LA l2 (.lst (zs.map V.int))) l2=some (.lst (zs.map V.int)):=a7;have Ou:=((s8.trans s9).trans Jo).trans (a8.upd (o:=.lst (zs.map V.int)) m);have Ru:=a8.upd (o:=.lst (zs.map V.int)) m _ _ (Jo _ _ (s9 _ _ h8));generalize upd LA l2 _=Gd at B Ou Ru
  obtain⟨C,D,rfl⟩:∃C D,zs=C::D:=by
   cases zs with
   |nil=>exact absurd U ⋯
   |cons C D=>exact⟨C,D,rfl⟩
  obtain⟨lg,Su,lg1,lg5⟩:=NQ _ (wbb C (show (8:Int)≠0 by decide)) (wbh C (show (0:Int)<8 by decide));refine{⋯,λp4 X=>?_};have v:=a8.upd (o:=.lst [.int 2,.int 3,.int 4,.int 2,.int 3,.int 4,.int 1,.int 5]) X _ _ B;have LL:=Ou.trans (a8.upd (o:=.lst [.int 2,.int 3,.int 4,.int 2,.int 3,.int 4,.int 1,.int 5]) X);have Y:=a8.upd (o:=.lst [.int 2,.int 3,.int 4,.int 2,.int 3,.int 4,.int 1,.int 5]) X _ _ Ru;refine{_,rfl,l2,_,0,_,rfl,rfl,aH.of v,(bz (xs:=(C::D).map V.int) (j:=0) rfl),_,_,rfl,rfl,(by show (0:Int)<8;decide),p4,_,_,_,rfl,rfl,aH.of a7,Su,?_};generalize upd Gd p4 _=Jp at v LL Y;refine{_,rfl,.inl {rfl,_,aH.of Y},rfl,_,rfl,?_};refine{_,rfl,_,rfl,_,_,rfl,rfl,_,rfl,l2,_,rfl,aH.of v,λl3 G8=>?_}
  obtain⟨ms,em,Sr⟩:∃ms:List Int,jy ((C::D).map V.int) (some 1) (some (1+(lg:Int)))=ms.map V.int/\ms.length=lg:=by
   refine{D.take lg,?_,by rw[wad];rw[waE]at U;lia};rw[show (1+(lg:Int))=((1+lg:Nat):Int) by lia,show (1:Int)=((1:Nat):Int) from rfl,LJ _ (by lia),wdd];show (((D.map V.int).take (1+lg-1)))=_;rw[wcB]
  rw[em];have ZY:=LL.trans (a8.upd (o:=.lst (ms.map V.int)) G8);have Sz:=a8.upd (o:=.lst (ms.map V.int)) G8 _ _ Y;refine{l3,rfl,{_,aH.of a7},λlc Lv=>?_}
  have X4:0<(n:Int):=by
   simp only[waG,wbn,or_false]at n1
   lia
  refine uF (λy=>∃t,y=.str t/\∃cc,t={#[cc]}/\cc∈ch g) (aK K l3 (ms.map V.int)) Lv (by rw[wa0];exact aq (by lia)) (λH' s'=>s'.seq (aH.of a7)) (λx X5 Q' hx Z q=>?_) (λus X5 Z d hR ZZ=>?_)
  .obtain⟨y,hy,rfl⟩:=wab.mp hx;have y0:=wbb y (show (n:Int)≠0 by lia);have y1:=wbh y X4;obtain⟨dd,edd⟩:∃dd:Nat,y%(n:Int)=(dd:Int):={(y%(n:Int)).toNat,by lia};have hd:dd<(ch g).length:=by rw[aE];lia
   have e1:(ch g)[dd]?=some (ch g)[dd]:=by simp[hd]
   have e2:=bz e1;rw[<-edd]at e2;exact{_,rfl,_,rfl,_,rfl,_,_,rfl,rfl,X4,g,_,_,rfl,rfl,aq (by lia),e2,q _ X5 {_,rfl,_,rfl,waK hd} (a8.refl _)}
  obtain⟨ts,rfl,X6⟩:=tU hR;rw[wa0,wa0]at d;have u:=Ab X6;refine{_,lc,ts,rfl,rfl,aH.of ZZ,?_,?_}
  .rw[u];show ts.length+ts.length*0<=16777216
   lia
  have X7:z9 g (wd2 "" ts):=EK ∅ (by lia) (by lia) X6;generalize wd2 "" ts=wd at X7;have SA:=ZY.trans Z;have h15:=Z _ _ Sz;refine{J,_,_,rfl,rfl,h15,by rw[wa0];exact bg (by lia),?_};refine{R++[wd],_,_,_,rfl,λb o e=>?_,?_,by simp[zm],λw hw=>?_}
  .rw[af (ag e fw)];exact SA _ _ e
  .rw[a7,wai];rfl
  .rcases wax.mp hw with z |z
   .exact S w z
   .rw[wao.mp z];exact X7
 .rintro σ H8 ⟨R,v7,v8,v9,rfl,s8,h8,zm,S⟩;refine{_,rfl,_,rfl,by show 2<=sizeLine;decide,λq hq=>?_};exact k q J g R _ (s8.trans (a8.upd hq)) (none_of s8 hq) fw a7 (a8.upd hq _ _ h8) X1 (by lia) S
theorem zJ(L:Lk K mg):aS P w K mg base cO 2 L.sG L.sV ["_law_script","_law_signs"] (Kn K):=by
 have T:=L.T;refine L.tf.F.d8 (N:=["_law_script","_law_signs","_law_some","_law_many","_law_wide"]) (λV A outer s H vs Q E nd hr h=>?_);obtain⟨a,ns,g,rfl,Y,u,v,k⟩:=h;obtain⟨x,l,y,B,Z,C,D⟩:∃(x:Pos) (l:List Expr) (y B:Pos),c9 (top 86)=.Assign [.Name "_law_some" x] (.List l y) B::(c9 (top 86)).tail/\(∀X,PA X l (uk U1))/\∀env,wcc (.List l y) (some (.Name "_law_some" x)) B.line env=pure false:={_,_,_,_,rfl,λ_=>by repeat first |exact dN |refine Kc ?_,λ_=>rfl};rw[Z]
 refine{_,(IY (i:=2) nd rfl (we1 rfl) C (a6 (uB (aW b5 (pv 2) (aD cD (au (kr L) L.iN (a9 (pv 0) (aM ao))) ao) (λ_ _=>rfl)) (dm rfl (aN (ax (i:=3)) (aN (ax (i:=4)) cA))))
  (K4 (bA (d4 lI (y8 T.len (pv 1)) ao) (ae (ai (i:=4) (aT (qN rfl) (by rfl) T.min Km (a9 (pv 4) (aM ao))))) aO)
  (ae (ay (dP (a9 (pv 3) (aM (pv 4)))))))) (D _)),?_}
 ac_rfl
 refine Dx λe G I hl hI=>{hl ▸ (by show 12<=sizeLine;decide),λb f=>?_};have d:=I.trans (a8.upd (o:=.lst G) f);have M:=a7 (H:=e) (a:=b) (o:=.lst G);have O:=a8.upd (o:=.lst G) f;generalize upd e b _=G12 at d M O;refine{_,rfl,_,rfl,a,ns,4,rfl,d.seq Y,λc H2 J=>?_};have R:=wbb c (show (12:Int)≠0 by decide);obtain⟨⟨many,wide⟩,m,m2,m8,n,r⟩:=NR _ R (wbh c (show (0:Int)<12 by decide));obtain⟨q,t,hm⟩:=hI _ _ m;have t:=bz t;rw[wh3 R]at t;have j:=d.trans J;refine{_,_,rfl,rfl,(by show (0:Int)<12;decide),b,_,_,_,rfl,rfl,aH.of (J _ _ M),t,q,_,rfl,g8.of (J _ _ (O _ _ hm)),rfl,_,_,rfl,_,_,rfl,rfl,?_};refine{λσ S=>S=H2/\∃(wd:Int),σ=[some (.ref a),some (.str g),some (.ref b),some (.int many),some (.int wd)]/\1<=wd/\wd<=6/\(2<g.length->wd<=3),?_,?_}
 .refine{_,rfl,g,rfl,aq (by lia),_,_,rfl,rfl,_,rfl,o7 (λU=>?_) (λU=>?_)}
  .refine{_,rfl,wide,3,rfl,?_}
   by_cases z:(3:Int)<wide
   .rw[if_pos z];exact{rfl,3,rfl,⋯,⋯,λ_=>wfa _}
   .rw[if_neg z];exact{rfl,wide,rfl,n,r,λ_=>by lia}
  .exact{rfl,wide,rfl,n,r,λz=>absurd (decide_eq_true (by lia)) U}
 .rintro σ S ⟨rfl,wd,rfl,n,r,w3⟩;refine{_,rfl,_,rfl,by show 2<=sizeLine;decide,λp m=>?_};exact k p many wd _ (j.trans (a8.upd m)) (none_of j m) a7 (HR u v m2 m8 n r w3)
theorem wm(L:Lk K mg):aS P w K mg base cO 5 L.nH L.nQ ["_law_told_here","_law_signs","_law_cell","_law_many","_law_wide"] (Lz K L.ak L.aA L.aR):=by
 have T:=L.T;refine L.nU.F.d8 (N:=["_law_told_here","_law_signs","_law_cell","_law_many","_law_wide","_law_xs","_law_data","_law_row","_law_at","_law_window_here","_law_k","_law_place_here","_law_sign","_law_drawn"]) (λgx A outer s H vs Q E nd hr h=>?_);obtain⟨x,R,cell,rfl,O,g1,m2,hl,k⟩:=h
 refine{_,(a6 (ai (i:=5) (au (g7 L) L.eW (a9 (pv 2) (aM ao))))
  (a6 (cZ (i:=6) rfl (aw ["_law_many"] [3]) nd rfl rfl (aP (b6 fZ (pv 5) cB (aV (aD cu (aD cD (aW b5 (pv 5) ao (λ_ _=>rfl)) ao) ao)))) (λ_ _ _ _ _ _=>b8) (λ_ _ _ _ _ _=>(aD cD (pv 0) (pv 1))))
  (a6 (ai (i:=7) (yi (pv 0) L.aj.cl L.mN (tR L) (aM (bB dk (by rfl) T.list i9 (aM (pv 6))))))
  (a6 (ai (i:=8) (aD lL (y8 T.len (ie (pv 0) L.aj.cl L.nW (wj L))) (aD f5 (pv 4) (ie (pv 0) L.aj.cl L.cx (cJ L)))))
  (a6 (ai (i:=8) (aD cu (pv 8) (aD f5 (pv 4) (aD cD (aW b5 (pv 5) ao (λ_ _=>rfl)) (DU T.len (pv 6))))))
  (a6 (ai (i:=9) (b6 et (pv 7) (aV (pv 8)) (aV (aD cu (pv 8) (au (zG L) L.tu (a9 (pv 0) (aM (pv 4))))))))
  (a6 (forA (bX rfl T.range (aM (aD cD (aW b5 (pv 5) ao (λ_ _=>rfl)) ao))) (ax (i:=10)) (a6 (ai (i:=11) (aD cD (aD jI (aW b5 (pv 5) (pv 10) (λ_ _=>rfl)) ao) (y8 T.len (pv 9))))
  (a6 (ai (i:=12) (aW yN (pv 1) (aD cD (aD jI (aW b5 (pv 5) (aD cu (pv 10) ao) (λ_ _=>rfl)) ao) (y8 T.len (pv 1))) (λ_ _=>rfl)))
  (ae (ai (i:=9) (aD i6 (aD i6 (b6 et (pv 9) cB (aV (pv 11))) (pv 12)) (b6 et (pv 9) (aV (aD cu (pv 11) ao)) cB)))))))
  (a6 (bA (d4 hZ (aD cD (aD jI (aW b5 (pv 5) ao (λ_ _=>rfl)) ao) ao) ao) (a6 (ai (i:=13) (au (g7 L) L.eW (a9 (aD cu (pv 2) ao) (aM (y8 T.len (pv 9))))))
  (ae (ai (i:=9) (gB weq weH weI yP dO (aM (cn rfl (aw ["_law_signs"] [1]) (aP (pv 13)) (λ_ _ _ _ _ _=>b8) (λ_ _ _ _ _ _=>(aW yN (pv 1) (aD cD (pv 0) (y8 T.len (pv 1))) (λ_ _=>rfl))))))))) aO)
  (ae (ay (pv 9))))))))))),?_}
 ac_rfl
 obtain⟨⟨dx,p,xb,aa,ll,dp,wa,wb,wc,wz,ys,hx,_⟩,ok⟩:=id O;have n1:=ok.n1;have oE:=ok.oE;have b1:=ok.b1;have c1:=ok.c1;have gl:=ok.gl;have hol:=Rj ok;have WD:R.n*R.b<=10*1000:=wby oE b1;refine nc λR1 q1=>?_;refine{_,rfl,cell,12,rfl,⋯,λd a H1 s1 flx v hxl=>?_};refine q1 _ _ (nc λR2 q2=>?_);obtain⟨f,k9,ek⟩:=ph (a.getD 11 0) (show 1<=9 by decide);refine{_,rfl,_,rfl,d,_,11,_,rfl,rfl,aH.of v,qZ (i:=11) (by lia),_,_,rfl,rfl,(by show (0:Int)<9;decide),_,_,rfl,rfl,_,rfl,d,_,rfl,aH.of v,?_};rw[show a.getD 11 0%9+1=((f+1:Nat):Int) by rw[show a.getD 11 0%9=(f:Int) from ek];rfl,Jn _ _ (by rw[wa0];lia),<-wdd];refine λS U=>{S,rfl,{_,aH.of a7},λld B=>?_};have t1:=a8.upd (H:=H1) (o:=.lst ((a.take (f+1)).map V.int)) U;have g2:(upd H1 S (.lst ((a.take (f+1)).map V.int))) S=some (.lst ((a.take (f+1)).map V.int)):=a7;generalize upd H1 S (.lst ((a.take (f+1)).map V.int))=H2 at B t1 g2;have X:(a.take (f+1)).length=f+1:=by rw[wad];lia
 refine comp_map (Qr R.many) (aK K S _) B (by rw[wa0];exact aq (by lia)) (λH' s'=>aH.of (s' _ _ g2)) (λz H7 Q' hz s7 q=>?_) (λH3 s3 h3=>?_)
 .obtain⟨c,hc,rfl⟩:=wab.mp hz;exact{_,rfl,_,rfl,_,_,rfl,rfl,by lia,q H7 (a8.refl _)}
 obtain⟨r,e1,tl,tm⟩:=Hv m2 (a.take (f+1));rw[e1]at h3;rw[X]at tl;have C:=s1.trans (t1.trans s3);have Y:=(t1.trans s3) _ _ v;clear t1 g2 e1 X;refine q2 (EY R x d ld cell none none none none none none none) _ (nc λR3 q3=>?_);refine{_,rfl,x,dx,_,rfl,C _ _ hx,bE _ _ _ _ _ _ _ _ ∅,_,rfl,ld,_,rfl,.inl (aH.of h3),λl1 OW=>?_};have s4:=a8.upd (H:=H3) (o:=.lst ((nI r).map V.int)) OW;have h4:(upd H3 l1 (.lst ((nI r).map V.int))) l1=some (.lst ((nI r).map V.int)):=a7;generalize upd H3 l1 (.lst ((nI r).map V.int))=H4 at s4 h4;refine{x,l1,R,r,rfl,O.same (C.trans s4),h4,tm,by lia,λH5 s5=>?_};obtain⟨D,Z⟩:=UT ok tm;rw[Z.row];have m:=s4.trans s5;have e:=C.trans m;have X8:=m _ _ Y;have X9:=m _ _ h3;have zA:(cat D).length=R.n*(R.b+r.length+R.c):=by rw[dX λu h=>(Z.u u h).1,Z.l]
 have Rm:R.n*(R.b+r.length+R.c)<=10*3000:=wby oE (by lia);refine q3 (EY R x d ld cell (some (.str (cat D))) none none none none none none) _ (nc λR4 q4=>?_);clear q1 q2 q3 h4 s4 U B s5 h3 Y s3;refine{_,rfl,x,dx,_,rfl,e _ _ hx,bE _ _ _ _ _ _ _ _ ∅,x,R,rfl,O.same e,R.o.1,rfl,aq (by lia),_,rfl,_,rfl,x,dx,_,rfl,e _ _ hx,bE _ _ _ _ _ _ _ _ ∅,wk (O.same e) λH6 s6=>?_};refine{_,_,rfl,rfl,.inl {by lia,by lia},_,_,rfl,rfl,?_};show cK 8 (V.int ((R.o.1.length:Int)-(R.n:Int)*(R.b:Int))) _ _ _;rw[show (R.o.1.length:Int)-(R.n:Int)*(R.b:Int)=0 by rw[hol,wb0];lia];have G:=s6 _ _ X8;have Xa:=s6 _ _ X9;have I:=e.trans s6;clear X8 X9 e s6 m;refine q4 (EY R x d ld cell (some (.str (cat D))) (some (.int 0)) none none none none none) _ (nc λR5 q5=>?_);obtain⟨j,hj,ej⟩:=ph (a.getD 10 0) (show 1<=r.length by lia);refine{_,rfl,_,rfl,_,rfl,d,_,10,_,rfl,rfl,aH.of G,qZ (i:=10) (by lia),_,rfl,ld,_,rfl,.inl (aH.of Xa),?_};rw[wa0,bR];refine{_,_,rfl,rfl,by lia,?_};rw[ej];have hjb:R.n*j<=10*10:=wby oE (by lia);refine{_,_,rfl,rfl,.inl {by lia,by lia},_,_,rfl,rfl,?_};show cK 8 (V.int (0+(R.n:Int)*(j:Int))) _ _ _;rw[show 0+(R.n:Int)*(j:Int)=((R.n*j:Nat):Int) by rw[wb0];lia];refine q5 (EY R x d ld cell (some (.str (cat D))) (some (.int ((R.n*j:Nat):Int))) none none none none none) _ (nc λR6 q6=>?_);refine{_,rfl,_,rfl,_,rfl,_,rfl,_,rfl,_,rfl,x,R,rfl,O.same I,λH7 s7=>{_,_,rfl,rfl,_,rfl,cat D,rfl,aq (by lia),?_}};have w1:=QP (Z.win hj);rw[show R.n*(j+(R.b+1+R.c))=R.n*j+R.n*(R.b+1+R.c) from wci ..,wbk]at w1;generalize waU (cat D) (some ((R.n*j:Nat):Int)) (some (((R.n*j:Nat):Int)+((R.n*(R.b+1+R.c):Nat):Int)))=win at w1;generalize cat D=row;have J:=s7 _ _ G;have Sy:=I.trans s7;have h1:1<=R.n*(R.b+1+R.c):=Nat.mul_pos n1 (by lia);refine q6 (EY R x d ld cell (some (.str row)) (some (.int ((R.n*j:Nat):Int))) (some (.str win)) none none none none) _ (nc λR7 q7=>?_);clear q4 q5 q6 G Xa I s7 Z zA Rm;obtain⟨k3,SD,ek3⟩:=ph (a.getD 9 0) (show 1<=3 by decide);refine{_,rfl,d,_,9,_,rfl,rfl,aH.of J,qZ (i:=9) (by lia),_,_,rfl,rfl,(by show (0:Int)<3;decide),?_};rw[show a.getD 9 0%3=(k3:Int) from ek3];refine{(k3:Int),rfl,by lia,by lia,?_};rw[war];refine bW (lo:=0) (n:=k3) (U2 R x d ld cell (some (.str row)) (some (.int ((R.n*j:Nat):Int))) H7) {a8.refl _,win,w1,_,_,_,rfl} ?_ ?_
 .rintro i σ H8 hi ⟨s8,win,⟨wl,wg⟩,v10,v11,HS,rfl⟩;show cK 10 (V.int (0+(i:Int))) _ _ _;rw[wca];have Xb:=aH.of (K:=K) (s8 _ _ J);obtain⟨pl,hpl,epl⟩:=ph (a.getD i 0/8) (show 1<=win.length by lia);refine{_,rfl,_,rfl,d,_,_,_,rfl,rfl,Xb,qZ (i:=i) (by lia),_,_,rfl,rfl,{⋯,⋯},_,rfl,win,rfl,aq (by lia),_,_,rfl,rfl,by lia,?_};show cK 11 (V.int (a.getD i 0/8%(win.length:Int))) _ _ _;rw[epl];obtain⟨c,hc,ec⟩:=DQ R.g (a.getD (i+3) 0/8) g1;refine{_,rfl,_,rfl,_,rfl,_,_,rfl,rfl,d,_,((i+3:Nat):Int),_,rfl,rfl,Xb,qZ (i:=i+3) (by lia),_,_,rfl,rfl,{⋯,⋯},_,rfl,R.g,rfl,aq (by lia),_,_,rfl,rfl,by lia,R.g,_,c,rfl,rfl,aq (by lia),ec,?_};refine{_,rfl,_,rfl,_,rfl,win,rfl,aq (by lia),_,rfl,_,_,rfl,rfl,?_,?_}
  .exact aq (by show (bZ win pl).length+1<=_;rw[<-aE,fI,wad,aE];lia)
  refine{_,rfl,_,rfl,_,_,rfl,rfl,_,rfl,win,rfl,aq (by lia),_,_,rfl,rfl,?_,?_}
  .exact aq (by show (bZ win pl++({#[c]}:Str)).length+(bq win (pl+1)).length<=_;rw[<-len_app,DN hpl];lia)
  exact{s8,_,{(DN hpl).trans wl,NV wg hc},_,_,_,rfl}
 .rintro σ H8 ⟨s8,win,w8,v10,v11,HS,rfl⟩;refine q7 _ _ (nc λR8 q8=>?_);clear q7;have Ly:=Sy.trans s8;refine{_,rfl,d,_,9,_,rfl,rfl,aH.of (s8 _ _ J),qZ (i:=9) (by lia),_,_,rfl,rfl,{⋯,⋯},_,_,rfl,rfl,(by show (0:Int)<4;decide),rfl,_,rfl,o7 (λ_=>?_) (λ_=>?_)}
  .have wl:=w8.l;refine{_,rfl,_,_,rfl,rfl,_,rfl,win,rfl,aq (by lia),cell+1,win.length,rfl,by lia,λly zs H9 s9 _ Xc LD=>?_};refine{rfl,_,rfl,ly,rfl,{_,aH.of Xc},λlj hlj=>?_};refine uF (λy=>∃t,y=.str t/\∃cc,t={#[cc]}/\cc∈ch R.g) (aK K ly (zs.map V.int)) hlj (by rw[wa0];exact aq (by lia)) (λH' s'=>aH.of (s' _ _ Xc)) (λz M Q' hz Jo q=>?_) (λys M Jo hlen hR LK=>?_)
   .obtain⟨c,_,rfl⟩:=wab.mp hz;obtain⟨cc,hc,ec⟩:=DQ R.g c g1;exact{_,rfl,_,rfl,_,rfl,R.g,rfl,aq (by lia),_,_,rfl,rfl,by lia,R.g,_,cc,rfl,rfl,aq (by lia),ec,q _ M {_,rfl,_,rfl,hc} (a8.refl _)}
   obtain⟨us,rfl,hus⟩:=tU hR;rw[wa0,wa0]at hlen;obtain⟨j1,j2,j3⟩:=Le (z:="") ∅ hus;refine{_,lj,us,rfl,rfl,aH.of LK,?_,?_}
   .rw[j3];show us.length+us.length*0<=16777216
    lia
   refine q8 _ _ {_,rfl,k _ M (Ly.trans (s9.trans Jo)) {by rw[j1];lia,j2}}
  .exact q8 _ _ {_,rfl,k _ H8 Ly w8}
theorem Ed(xs:List V):jy xs none (some 1)=xs.take 1:=by
 cases xs with
 |nil=>rfl
 |cons x xs=>exact Jn _ 1 (by simp)
end
end K51
namespace L2
open PySem.Spec PyProof.Rows PySem.W
section
variable{t:Nat}{C:Addr}
noncomputable abbrev fh(C t:Addr):Obj:={cls:=.ref C,data:=.fields #[.ref t,.none,.none,.none,.bool false,.none]}
noncomputable abbrev rA(vs:List Value):Obj:={cls:=.type "tuple",data:=.seq vs.toArray}
end
end L2
namespace L2
open PySem.Spec PyProof.Rows
noncomputable def XN(x C:Addr):HO:=.ext λh=>∃t,h.get? x=some (fh C t)
def Ov(K:wa2)(CB:Addr)(t:TA):TE:=λσ H Q=>t σ H λvs H1=>∃x C nm m,vs=[.ref x,m]/\H1 x=some (XN x C)/\fb K C CB nm/\Q .non H1
def Ow(K:wa2)(C:Addr)(sp:Sp)(E:XK)(t:TA):TS:=λ_ σ H=>t σ H λvs H1=>vs.length<=sizeLine/\∀x,H1 x=none ->
 sp (.ref x::vs) (upd H1 x (XN x C)) (λv H2=>v=.non/\((H2 x=some (XN x C)/\E (.ref C) none (del H2 x))\/∃d,H2 x=some (XD x C d)/\E (.ref C) (some d) (del H2 x))) E0
section
variable{prog:waC}{w:World}{A:Around}{R:wek->Shared->Prop}{h:Heap}{g:Array wdD}{d:Drawn}{t:Nat}{os:wc2}{nm q:Str}{C CB N:Addr}{bs:List Value}{hdct:Bool}{sn:List Str}{sub:List Value}{ab:Bool}{col:Option Bool}{dd:Option Addr}{k0 k1 k2 k3 k5:Option Value}
theorem Jq{rest:List Value}{init:Value}{p:Around}(l:h.get? C=some (wbL nm q C N bs (oJ CB) hdct sn sub ab col dd k0 k1 k2 k3 k5 "ValueError.__new__"))
 (hi:Looks (model prog w) h (wfy (.ref C) "__init__") (some init)) (J:∀self,Looks (model prog w) h (bindSpecial init self) (init,[self])) (j:rest.length<=sizeLine)
 (T:codeAny (model prog w) p (.call init {.ref (h.objs.size+1)::rest,[]}) (InitBack (h.objs.size+1) R) {(h.push (rA rest)).push (fh C h.objs.size),g,d,t,os}) :
 wpAny (model prog w) p (wey.«type.__call__» {.ref C::rest,[]}) (λfin s'=>match fin with |.done f=>R (.ok f) s' |.again I=>I.quiet=true/\codeAny (model prog w) A I R s') (λe s'=>R (.error e) s') ⟨h,g,d,t,os⟩:=by
 have F:=wcl
 repeat (first |with_reducible refine wbd l ?_ |with_reducible refine wpAny_madeBy_exc l ?_ |wp_step)
 refine codeAny_call_builtin_code (we6 _ F.quiet) (Lg l ?_);refine Lh l ?_ j;show wpAny _ _ _ _ _ _;have k:∀b o,h.get? b=some o->((h.push (rA rest)).push (fh C h.objs.size)).get? b=some o:=λb o e=>wa9 _ (wa9 _ e)
 have a:=wa9 {cls:=.ref C,data:=.fields #[.ref h.objs.size,.none,.none,.none,.bool false,.none]}
  (wa9 {cls:=.type "tuple",data:=.seq rest.toArray} l)
 have c:((h.push {cls:=.type "tuple",data:=.seq rest.toArray}).push {cls:=.ref C,data:=.fields #[.ref h.objs.size,.none,.none,.none,.bool false,.none]}).get? (h.objs.size+1)=some {cls:=.ref C,data:=.fields #[.ref h.objs.size,.none,.none,.none,.bool false,.none]}:=by heap_get
 have i:(wam C::oJ CB).contains (.ref C)=true:=by simp
 have m:=hi.keeps k;have b1:=(J (.ref (h.objs.size+1))).keeps k;unfold isInstance
 repeat (first |with_reducible refine wbd c ?_ |(with_reducible refine wc0 a ?_;rw[i]) |wp_step)
 show wpAny _ _ (wfy (.ref C) _) _ _ _;refine m.at ?_;refine wbt (wa7 (b1.at ?_));refine wa7 (wdn (wch T λr s' z=>?_));rcases r with e |(v |_ |_ |_)<;>first |exact z |exact z.elim |skip
 obtain⟨rfl,z⟩:=z
 wp_walk
 exact z
theorem Bi{rest:List Value}{init:Value}(l:h.get? C=some (wbL nm q C N bs (oJ CB) hdct sn sub ab col dd k0 k1 k2 k3 k5 "ValueError.__new__"))
 (hi:Looks (model prog w) h (wfy (.ref C) "__init__") (some init)) (p:∀self,Looks (model prog w) h (bindSpecial init self) (init,[self])) (j:rest.length<=sizeLine)
 (r:codeAny (model prog w) (A.under (.builtin "type.__call__" {.ref C::rest,[]})) (.call init {.ref (h.objs.size+1)::rest,[]}) (InitBack (h.objs.size+1) R) {(h.push (rA rest)).push (fh C h.objs.size),g,d,t,os}) :
 codeAny (model prog w) A (.call (.ref C) {rest,[]}) R ⟨h,g,d,t,os⟩:=by
 have f1:=tc_lookup;have f2:=PySem.tc_bind (.ref C);have a:(⟨h,g,d,t,os⟩:Shared).TypeIs (.ref C) "type":={_,l,rfl};refine wgc ?_;show wpAny _ _ (callAny (.ref C) _) _ _ _
 repeat (any_goals (first |assumption |with_reducible refine wbd l ?_ |wp_step))
 refine{rfl,?_};exact codeAny_call_builtin_at (we6 _ ∅) entry_typeCall (wpAny_check_type_call_sub l (Jq l hi p j r))
end
section
variable{CB C:Addr}{name:Str}{ta tv:TE}
def Rv(K:wa2)(CB:Addr)(ta tv:TE)(name:Str):TS:=λD σ H=>tv σ H λy H1=>ta σ H1 λz H2=>∃x C nm,z=.ref x/\H2 x=some (XN x C)/\fb K C CB nm/\findIn K (.ref C) name=some none /\
 ∀d,H2 d=none->D.nx σ (upd (upd H2 d (.xd [(name,y)])) x (XD x C d))
end
section
variable{P:waC}{w:World}{H:Hp}{h:Heap}{x C t:Addr}
theorem Ox(e:h.get? x=some (fh C t)):bU P w H h x (XN x C):={⟨t,e⟩,{_,e},λc d ⟨a,b⟩ k=>{a,k _ b}}
end
section
variable{X:Cx}{CB C f:Addr}{fd:wbw}{ps:List Str}{sp:Sp}{E:XK}{k:Nat}{p pos eP:Pos}{e:Expr}{es:List Expr}{t:TA}{x nm:Str}
theorem Inv.newExc(I:Inv X g σ H s)(us:List Value)(C:Addr) :
 Inv X g σ (upd H (s.heap.objs.size+1) (XN (s.heap.objs.size+1) C)) {s with heap:=(s.heap.push (rA us)).push (fh C s.heap.objs.size)}:=by
 have c:=I.kept (h':=s.heap.push (rA us)) (t':=s.toks) λb u q=>wa9 _ q;refine c.laid (a:=s.heap.objs.size+1) (t':=s.toks) (λb u q=>wa9 _ q) (we2 (wbS _ _)) (Ox (t:=s.heap.objs.size) ?_);have:=wap (s.heap.push (rA us)) (o:=fh C s.heap.objs.size) rfl;rwa[wbS]at this
theorem Jr(hT:Ds X E)(hc:X.calm=true)(U:fb X.K C CB nm)(hi:findIn X.K (.ref C) "__init__"=some (some (.ref f)))(J:isFn X.K (.ref f)=true)
 (F:aS X.prog X.w X.K X.mg X.base cO k f fd ps sp) (hr:dF (k+1) X.A) (hb:Binds X.K fd ps []) (hg:Gl X x) (hm:X.mg x=some (.ref C)) (ha:PA X (e::es) t)
 (T:(x==("__debug__":Str))=false:=by decide) (he:starEach (e::es) X.env=(false,eval e X.env)::starEach es X.env:=by rfl) (hpl:(backTo eP (starEach es X.env)).any (·.1)=false:=by rfl) :
 PS X (.Raise (some (.Call (.Name x p) (e::es) [] eP)) none pos) (Ow X.K C sp E t):=by
 refine{?_};intro a s σ H D I h;obtain⟨Z,N,bs,sn,sub,ab,col,dd,k0,k1,k2,k3,k5,lk⟩:=U.lk;refine sr (C:=C) (CB:=CB) (nm:=nm) (q:=Z) (N:=N) (bs:=bs) (hdct:=true) (sn:=sn) (sub:=sub) (ab:=ab) (col:=col) (dd:=dd) (k0:=k0) (k1:=k1) (k2:=k2) (k3:=k3) (k5:=k5) (I.ok.hd hc) ?_;refine wbr (gu I hg hm ?_ T);refine wcL (h₀:=X.base) I.ok.mod.LO U.kp (bN (ha eP a s σ H _ I h) λc i ⟨vs,H1,j,r,m,q⟩=>{j.gT,?_}) he hpl;have B:=j.b9.fresh (wbR i.heap.objs.size);have Q:=q (i.heap.objs.size+1) B;have G:=Inv.newExc j c C;have R:Vals (V.ref (i.heap.objs.size+1)::vs) (wam (i.heap.objs.size+1)::c):=.cons rfl r
 have hl:(wam (i.heap.objs.size+1)::c++[]).length=ps.length:=by
  have S:=R.length;rw[F.len _ _ _ _ Q]at S;rw[waY];exact S.symm
 have n:=hb _ (wam (i.heap.objs.size+1)::c) G.gT hl;rw[waY]at n;obtain⟨L,g,dr,tk,os⟩:=i;refine wdn (Bi (j.gT _ _ lk) (wf8 j.gT hi) (λself=>bind_fn j.gT self (beq_iff_eq.mp J)) (by show c.length<=sizeLine;rw[<-r.length];exact m) ?_);refine wch (F.run _ X.stack _ _ {wam (L.objs.size+1)::c,[]} (wam (L.objs.size+1)::c) _ _ E0 (hr.make C c []) (G.K5.make C c []) n R Q) λrr Y b=>?_
 cases rr with
 |error e=>exact wb3 b
 |ok fl=>
  cases fl with
  |next=>exact wb3 b
  |brk=>exact wb3 b
  |cont=>exact wb3 b
  |ret u=>
   obtain⟨v,H',l,rv,ev,q3⟩:=G.after b;subst ev;refine{rv,?_};have o:X.s₀.heap.objs.size<=L.objs.size+1:=wal j.sz (wbR _);rcases q3 with⟨y,M⟩ |⟨d,y,M⟩
   .obtain⟨⟨O,z⟩,_⟩:=l.b9 _ _ y;exact{_,none,O,rfl,l.gT _ _ lk,z,hT a σ _ Y _ C none (l.del y) {o,gy,_,_,z,by show 1<6;decide,.inl rfl} M}
   .obtain⟨⟨O,z⟩,_⟩:=l.b9 _ _ y;exact{_,some d,O,rfl,l.gT _ _ lk,z,hT a σ _ Y _ C (some d) (l.del y) {o,gy,_,_,z,by show 1<6;decide,.inl rfl} M}
end
end L2
namespace L2
open PySem.Spec PyProof.Rows PySem.W Builtin Builtin.ObjectAttr
section
variable{X:Cx}{CB:Addr}{o value:Expr}{ta tv:TE}{name:Str}{pos pos':Pos}
def Oy(K:wa2)(CB:Addr)(ta tv:TE)(name:Str):TS:=λD σ H=>tv σ H λy H1=>ta σ H1 λz H2=>∃x C nm d fs,z=.ref x/\H2 x=some (XD x C d)/\H2 d=some (.xd fs)/\fs.length<=50/\fb K C CB nm/\findIn K (.ref C) name=some none/\fs.lookup name=none/\D.nx σ (upd H2 d (.xd (fs++[(name,y)])))
theorem Js(ha:PE X o ta)(J:PE X value tv)(hs:wcc value (some (.Attribute o name pos')) pos.line X.env=pure false):PS X (.Assign [.Attribute o name pos'] value pos) (Oy X.K CB ta tv name):=by
 refine{?_};intro c s σ H D I h;refine wd5 (bN (J c s σ H _ I h) λu G ⟨y,L,M,O,q⟩=>bN (ha c G σ L _ M q) λQ E R=>?_) hs;obtain⟨z,i,g,S,x,C,T,d,fs,V,Y,hd,hl,U,hn,Z,q2⟩:=R;subst V;obtain rfl:Q=wam x:=S;obtain⟨⟨t,ht⟩,_⟩:=g.b9 x _ Y;obtain⟨mA,ns,r⟩:=g.b9 d _ hd;obtain⟨qn,N,bs,sn,sub,ab,m,dd,k0,k1,k2,k3,k5,lk⟩:=U.lk;refine FN (CB:=CB) g.gT ht ns (FL r) (by rw[wa0];lia) (cd:={name:=T,bases:=bs,mro:=.ref C::oJ CB,ns:=N,qualname:=qn,hasDict:=true,slotNames:=sn,subclasses:=sub,abstract:=ab,collection:=m,hasDel:=false}) (by unfold clsIn;rw[lk]) rfl rfl hn U.sa λp tk k j=>{σ,_,?_,q2};obtain⟨o',_,_,eo,_⟩:=id j;have nx:∀{b:Addr} {o:HO},i b=some o->(∀fs,o≠.xd fs)->b≠d:=λe n z=>by rw[z,hd]at e;exact n _ (waf e).symm
 have A:∀{b:Addr},i b=none->b≠d:=λe z=>by rw[z,hd]at e;cases e
 have un:Un (rB X.stack) [] i (upd i d (.xd (fs++[(name,y)]))) E.heap p:=by
  refine{λb o q n _ _=>by rw[k b (A n)];exact q,λb o q n _ _=>{o.slots,by rw[k b (A n)];exact q},λb o q n _=>?_,λb o q _=>?_,λb vs q=>?_,λb o v q=>?_,λb ps q=>?_}
  .rw[af (A n)];exact n
  .by_cases z:b=d
   .rw[z];exact{_,eo}
   .exact{o,by rw[k b z];exact q}
  .rw[af (nx q λψ z=>by cases z)];exact q
  .rw[af (nx q λψ z=>by cases z)];exact q
  .exact{#[],by rw[af (nx q λψ z=>by cases z),q];simp}
 have b9:jC X.prog X.w (upd i d (.xd (fs++[(name,y)]))) p:=λa o e=>by
  by_cases z:a=d
  .subst z;rw[a7]at e;cases e;refine{_,j,λf=>?_};rw[AQ Z]
   by_cases e:f=name
   .rw[if_pos e,if_pos e];exact O
   .rw[if_neg e,if_neg e];exact r f
  .rw[af z]at e;refine(g.b9 a o e).uz (λb u l q=>?_) (λb q=>?_) λb vs q=>?_
   .rw[k b ?_]
    .exact q
    .rintro rfl;rcases l with rfl |l
     .exact z rfl
     .rw[hd]at l;cases l
   .rw[af (λB=>by rw[B,hd]at q;cases q)];exact q
   .rw[af (λB=>by rw[B,hd]at q;cases q)];exact q
 exact g.xC (s':={E with heap:=p,toks:=tk}) rfl un b9 g.bare λb z=>absurd z (by simp)
end
section
variable{prog:waC}{w:World}{A:Around}{E:Value->Shared->Prop}{s:Shared}{K:wa2}{x C CB:Addr}{name:Str}{v:Value}
theorem Jt{Q:Unit->Shared->Prop}(X:K.In s.heap)(hx:s.heap.get? x=some (fh C t))(hc:clsIn K C=some cd)(hm:cd.mro=.ref C::oJ CB)(hh:cd.hasDict=true)(ha:findIn K (.ref C) name=some none)
 (hs:findIn K (.ref C) "__setattr__"=some (some (.builtin "object.__setattr__")))
 (h:∀h' d tk,s.heap.objs.size<=d->(∀b o,b≠x->s.heap.get? b=some o->h'.get? b=some o)->h'.get? x=some {cls:=.ref C,dict:=some d,data:=.fields #[.ref t,.none,.none,.none,.bool false,.none]}->h'.Ns1 d (λy=>if y=name then some v else none)->Q .unit {s with heap:=h',toks:=tk}) :
 wpAny (model prog w) A (setAttr (.ref x) name v) Q E s:=by
 have J:InstAt s.heap x (fh C t) C none:=⟨hx,rfl,rfl,trivial⟩;refine wfs X J hs (yh (s:={s with toks:=s.toks+1}) X J hc hm ha ?_);unfold storeInOwnDict;refine wa7 (waz ?_);rw[if_neg (by simp)];unfold ownDictForStores instanceDict;refine wa7 (wa7 (wgz hx ?_));dsimp only;refine wa7 (wfc (s:={s with toks:=s.toks+1}) (wei X hc) ?_);rw[hh];have Xd:(s.heap.push {cls:=.type "dict",data:=.dict #[]}).get? x=some (fh C t):=wa9 _ hx;have Xe:x≠s.heap.objs.size:=wav (wae hx);simp only[wgZ,wc5,if_false,Bool.not_false,Bool.false_or];rw[if_neg (by simp[typeHasDict])];refine wa7 (wpAny_alloc ?_);refine wa7 (wpAny_update Xd ?_);refine waz ?_
 have SE:((s.heap.push {cls:=.type "dict",data:=.dict #[]}).update x λo=>{cls:=o.cls,dict:=some s.heap.objs.size,data:=o.data,slots:=o.slots}).get? s.heap.objs.size
  =some {cls:=.type "dict",data:=.dict #[]}:=(wh7 _ _ _ _ Xe.symm).trans (Heap.get?_push_at rfl rfl)
 have Uv:((s.heap.push {cls:=.type "dict",data:=.dict #[]}).update x λo=>{cls:=o.cls,dict:=some s.heap.objs.size,data:=o.data,slots:=o.slots}).Ns s.heap.objs.size (λ_=>none):=
  {_,#[],_,SE,rfl,λe he=>absurd he (by simp),λ_=>rfl}
 show wpAny _ _ (storeInDict s.heap.objs.size (.str name s.toks) name v) _ _ _;unfold storeInDict newKeyGuard;refine wa7 (waz (wa7 (whf (whr Uv) λh' Bk Mf=>?_)));obtain⟨oD,YF,YG,Ui,W8,Wa⟩:=Bk.count (wgb name v Within.nil);refine wa7 (wfJ Ui (by rw[W8];exact wfK (wal Wa (by grind))) ?_)
 wp_walk
 refine h h' s.heap.objs.size _ (waa _) (λb ob hbx hb=>?_) ?_ Bk
 .exact(Mf.2 b (wav (wae hb))).trans ((wh7 _ _ _ _ hbx).trans (wa9 _ hb))
 .exact(Mf.2 x Xe).trans (wbG _ Xd rfl)
end
section
variable{prog:waC}{w:World}{A:Around}{s:Shared}{K:wa2}{x C CB:Addr}{R:wek->Shared->Prop}{nm q:Str}{N:Addr}{bs:List Value}{sn:List Str}{sub:List Value}{ab:Bool}{col:Option Bool}{dd:Option Addr}{k0 k1 k2 k3 k5:Option Value}
theorem wo(X:K.In s.heap)(j:s.heap.get? x=some (fh C t))(hk:K.lookup C=some (wbL nm q C N bs (oJ CB) true sn sub ab col dd k0 k1 k2 k3 k5 "ValueError.__new__"))
 (h:∀h' t',(∀b o,b≠x->s.heap.get? b=some o->h'.get? b=some o)->h'.get? x=some (fh C t')->R (.ok (.ret .none)) {s with heap:=h'}) :
 codeAny (model prog w) A (.call (.builtin "ValueError.__init__") {[.ref x,u],[]}) R s:=by
 have F:=wcl;have f:=X _ _ hk;have J:InstAt s.heap x (fh C t) C none:=⟨j,rfl,rfl,trivial⟩;have sub:Looks (model prog w) s.heap (isInstance (.ref x) (.type "ValueError")) true:=J.type.andThen (looks_mroIn X (by unfold mroIn clsIn;rw[hk];rfl));refine wcV F.init.plain F.initEntry ?_;simp only[wew,F.initKind,F.initSplit,F.initRow];refine wa7 (sub.here ?_);simp only[wgZ,wc5,if_false];have a:=F.noStar;obtain⟨c,g,d,l,os⟩:=s
 repeat (first |with_reducible refine wbd f ?_ |wp_step)
 have i:x≠c.objs.size:=wav (wae j);refine h _ c.objs.size (λb o k e=>?_) ?_
 .rw[waO _ _ (wbx k)];exact wa9 _ e
 .exact wbG _ (wa9 _ j) rfl
end
section
variable{prog:waC}{w:World}{A:Around}{E:Value->Shared->Prop}{s:Shared}{K:wa2}{x C CB:Addr}{nm q:Str}{N:Addr}{bs:List Value}{sn:List Str}{sub:List Value}{ab:Bool}{col:Option Bool}{dd:Option Addr}{k0 k1 k2 k3 k5:Option Value}
theorem Dg{Q:Value->Shared->Prop}(X:K.In s.heap)(g:s.heap.get? x=some (fh C t))(hk:K.lookup C=some (wbL nm q C N bs (oJ CB) true sn sub ab col dd k0 k1 k2 k3 k5 "ValueError.__new__"))
 (h:∀h' t',(∀b o,b≠x->s.heap.get? b=some o->h'.get? b=some o)->h'.get? x=some (fh C t')->Q .none {s with heap:=h'}) :
 wpAny (model prog w) A (call (.builtin "ValueError.__init__") [.ref x,u]) Q E s:=wdn (wo X g hk h)
end
end L2
namespace L2
open PySem.Spec PyProof.Rows
section
variable{X:Cx}{CB:Addr}{pos:Pos}{name:Str}{ta tv:TE}{o value:Expr}{pos':Pos}
theorem LN(ha:PE X o ta)(T:PE X value tv)(hs:wcc value (some (.Attribute o name pos')) pos.line X.env=pure false):PS X (.Assign [.Attribute o name pos'] value pos) (Rv X.K CB ta tv name):=by
 refine{?_};intro g s σ H D I h;refine wd5 (bN (T g s σ H _ I h) λu L ⟨y,M,O,Q,q⟩=>bN (ha g L σ M _ O q) λR G S=>?_) hs;obtain⟨z,m,i,V,x,C,Y,Z,l,U,hn,q2⟩:=S;subst Z;obtain rfl:R=wam x:=V;obtain⟨⟨t,ht⟩,_⟩:=i.b9 x _ l;obtain⟨qn,N,bs,sn,sub,ab,r,dd,k0,k1,k2,k3,k5,lk⟩:=U.lk;refine Jt (CB:=CB) i.gT ht (cd:={name:=Y,bases:=bs,mro:=.ref C::oJ CB,ns:=N,qualname:=qn,hasDict:=true,slotNames:=sn,subclasses:=sub,abstract:=ab,collection:=r,hasDel:=false}) (by unfold clsIn;rw[lk]) rfl rfl hn U.sa λA d tk hd k ex ns=>{σ,_,?_,q2 d (i.b9.fresh hd)};have Xf:d≠x:=λz=>by rw[z]at hd;exact absurd (waw (i.b9.lt l) hd) (wbm _)
 have c:=i.b9.fresh hd
 have un:Un (rB X.stack) [] m (upd (upd m d (.xd [(name,y)])) x (XD x C d)) G.heap A:=by
  have nx:∀{b:Addr} {o:HO},m b=some o->(∀ψ,o≠.ext ψ)->b≠x:=λe n z=>by rw[z,l]at e;exact n _ (waf e).symm
  have B:∀{b:Addr},m b=none->b≠x:=λe z=>by rw[z,l]at e;cases e
  refine{λb o q n _ _=>k b o (B n) q,λb o q n _ _=>{o.slots,k b o (B n) q},λb o q n _=>?_,λb o q _=>?_,λb vs q=>?_,λb o v q=>?_,λb ps q=>?_}
  .rw[af (B n),af (λz=>by rw[z]at q;exact absurd (waw (wae q) hd) (wbm _))];exact n
  .by_cases z:b=x
   .rw[z];exact{_,ex}
   .exact{o,k b o z q}
  .rw[af (nx q λψ z=>by cases z),af (ag q c)];exact q
  .rw[af (nx q λψ z=>by cases z),af (ag q c)];exact q
  .exact{#[],by rw[af (nx q λψ z=>by cases z),af (ag q c),q];simp}
 have b9:jC X.prog X.w (upd (upd m d (.xd [(name,y)])) x (XD x C d)) A:=λa o e=>by
  by_cases z:a=x
  .subst z;rw[a7]at e;cases e;exact TV ex
  .rw[af z]at e
   by_cases J:a=d
   .subst J;rw[a7]at e;cases e;refine{_,ns,λf=>?_}
    by_cases p:f=name
    .have j:(f==name)=true:=beq_iff_eq.mpr p;simp only[wgd,j,if_pos p];exact Q
    .have j:(f==name)=false:=beq_eq_false_iff_ne.mpr p;simp only[wgd,j,if_neg p]
     trivial
   .rw[af J]at e;refine(i.b9 a o e).uz (λb u j q=>k b u ?_ q) (λb q=>?_) λb vs q=>?_
    .rintro rfl;rcases j with rfl |j
     .exact z rfl
     .rw[l]at j;cases j
    .have:b≠x:=λE=>by rw[E,l]at q;cases q
     rw[af this,af (ag q c)];exact q
    .have:b≠x:=λE=>by rw[E,l]at q;cases q
     rw[af this,af (ag q c)];exact q
 exact i.xC (s':={G with heap:=A,toks:=tk}) rfl un b9 i.bare λb z=>absurd z (by simp)
end
section
variable{X:Cx}{CB f:Addr}{p pos apos:Pos}{e e2:Expr}{t:TA}{OZ:Str}
theorem Ju(r:Gl X OZ)(J:X.mg OZ=some (.ref CB))(B:M3 X.K CB)(ha:PA X [e,e2] t)(g:(OZ==("__debug__":Str))=false:=by decide)
 (he:starEach [e,e2] X.env=(false,eval e X.env)::starEach [e2] X.env:=by rfl) (hpl:(backTo pos (starEach [e2] X.env)).any (·.1)=false:=by rfl)
 (j:eval (.Call (.Attribute (.Name OZ p) "__init__" apos) [e,e2] [] pos) X.env=(do
   let l <-eval (.Name OZ p) X.env
   standAt apos.atName
   let (f,first) <-holding [l] (weC l "__init__" pl)
   callWith pos f first (backTo pos (starEach [e,e2] X.env)) (backToKw pos (wcI [] X.env))):=by rfl) :
 PE X (.Call (.Attribute (.Name OZ p) "__init__" apos) [e,e2] [] pos) (Ov X.K CB t):=by
 refine{?_};intro a s σ H Q I h;refine weD (pl:=pl) (gu I r J ?_ g) j;refine PySem.W.method_cls I.gT B.sp (PySem.W.cls_value I.gT B.rd B.fc rfl ?_);refine weQ (bN (ha pos a _ σ H _ (I.tok _) h) λG i n=>?_) he hpl;obtain⟨L,v,c,w,x,C,M,m,y,d,U,q⟩:=n;subst y;obtain⟨O,R,rfl,A,S⟩:=vals2 w;cases A;obtain⟨⟨t,j⟩,_⟩:=c.b9 x _ d;obtain⟨T,N,bs,V,sub,ab,D,Y,Z,k1,k2,k3,k5,lk⟩:=U.lk;refine Dg c.gT j lk λh' t' k ex=>{.non,v,?_,rfl,q};have:=c.write (x:=x) (e:=x) (o:=XN x C) (h':=h') (t':=i.toks) (by rw[d];exact wbz) (.inl rfl) (λb u E z=>k b u E z) {_,ex} (Ox ex);rw[MP d]at this;exact this
end
section
variable{X:Cx}{CB C:Addr}{E:XK}{p pos eP:Pos}{e:Expr}{es:List Expr}{t:TA}{x nm:Str}
theorem gq(J:Ds X E)(hc:X.calm=true)(U:fb X.K C CB nm)(hi:findIn X.K (.ref C) "__init__"=some (some (.builtin "ValueError.__init__")))(T:Gl X x)(hm:X.mg x=some (.ref C))(ha:PA X (e::es) t)
 (l:(x==("__debug__":Str))=false:=by decide) (he:starEach (e::es) X.env=(false,eval e X.env)::starEach es X.env:=by rfl) (hpl:(backTo eP (starEach es X.env)).any (·.1)=false:=by rfl) :
 PS X (.Raise (some (.Call (.Name x p) (e::es) [] eP)) none pos) (K1 C E t):=by
 refine{?_};intro a s σ H D I h;obtain⟨y,N,bs,sn,sub,ab,col,dd,k0,k1,k2,k3,k5,lk⟩:=U.lk;refine sr (C:=C) (CB:=CB) (nm:=nm) (q:=y) (N:=N) (bs:=bs) (hdct:=true) (sn:=sn) (sub:=sub) (ab:=ab) (col:=col) (dd:=dd) (k0:=k0) (k1:=k1) (k2:=k2) (k3:=k3) (k5:=k5) (I.ok.hd hc) ?_;refine wbr (gu I T hm ?_ l);refine wcL (h₀:=X.base) I.ok.mod.LO U.kp (bN (ha eP a s σ H _ I h) λA c ⟨Q,B,d,r,f,q⟩=>{d.gT,?_}) he hpl
 obtain⟨u,rfl⟩:∃u,A=[u]:=by
  have:=r.length;rw[f]at this;exact List.length_eq_one_iff.mp this.symm
 have m:=Inv.newExc d [u] C;have i:(upd B (c.heap.objs.size+1) (XN (c.heap.objs.size+1) C)) (c.heap.objs.size+1)=some (XN (c.heap.objs.size+1) C):=a7;have j:=d.b9.fresh (wbR c.heap.objs.size);obtain⟨k,g,R,G,os⟩:=c;refine wdn (Bi (d.gT _ _ lk) (wf8 d.gT hi) (λself=>Looks.of_pure (wcl.init.bind self)) (by show 1<=sizeLine;decide) ?_);obtain⟨⟨S,L⟩,_⟩:=m.b9 _ _ i;refine wo m.gT L lk λh' t' M ex=>{rfl,?_};have w:=m.write (x:=k.objs.size+1) (e:=k.objs.size+1) (o:=XN (k.objs.size+1) C) (h':=h') (t':=G) (by rw[i];exact wbz) (.inl rfl) (λb u O z=>M b u O z) {_,ex} (Ox ex);rw[Di]at w;have n:=w.del (x:=k.objs.size+1) a7;rw[Dp j]at n;have v:X.s₀.heap.objs.size<=k.objs.size+1:=wal d.sz (wbR _);exact{_,none,t',rfl,n.gT _ _ lk,ex,J a σ _ _ _ C none n {v,j,_,_,ex,by show 1<6;decide,.inl rfl} q}
end
end L2
namespace K51
section
variable{P:waC}{w:World}{K:wa2}{mg:Str->Option Value}{base:Heap}
local macro_rules|`(tactic|ac_rfl)=>`(tactic|try dsimp only[cW,cX,aZ,b0])
theorem nZ(L:Lk K mg):aS P w K mg base (Bj P w) 1 L.pH L.pX ["sheet","many","steps","weight"] (NY K L.aB L.fA):=by
 have T:=L.T;refine L.dC.F.Fp (N:=["sheet","many","steps","weight"]) (λU A outer s H vs Q E nd hr h=>?_);obtain⟨x,many,v,w,hs,c,X,b,rfl,S,Y,Z,t,m0,m1,k⟩:=h
 refine{_,(a6 (bA (d4 hZ (DU T.len (pv 2)) ao) (ae (gq cU rfl L.jx L.iy rfl L.jw (aM dO))) aO)
  (a6 (bA (d4 ni (pv 3) ao) (ae (gq cU rfl L.jx L.iy rfl L.jw (aM dO))) aO)
  (ae (bA (d4 ni (aT (lN rfl) (by rfl) T.sum EJ (aM (eV rfl (aw ["sheet"] [0]) (aw ["sheet"] [0]) ⋯ (aP (pv 2)) (λ_ _ _ _ _ _=>b8) (λ_ _ _ _ _ _=>(aW (fE (K:=K) rfl) (mU (K:=K) rfl (pv 2) rfl) (pv 1) (λ_ _=>rfl)))))) (aD f5 (pv 1) (pv 3))) (ae (gq cU rfl L.jx L.iy rfl L.jw (aM dO))) aO)))),?_}
 ac_rfl
 obtain⟨dx,ah,bw,cl,hx,rh,u,rl⟩:=id S;obtain⟨Wt,eb,hb⟩:=ia u;cases eb;obtain⟨a,o,rfl,p,J⟩:=cS Y;have g:o.length=b.length:=by rw[J.1,wa0,wa0]
 have no:eS c many b w=false->∀y,a8 H y->E (.ref L.fA) none y:=λh=>by
  rcases k with⟨r,_⟩ |⟨_,i⟩
  .rw[h]at r;cases r
  .exact i
 by_cases B:b=[]
 .subst B;have r0:o=[]:=wbE g;subst r0;exact{_,rfl,a,_,rfl,.inl p,rfl,true,Gq _,eB {rfl,no rfl H (a8.refl _)}}
 have hq1:o.length≠0:=by rw[g];exact λz=>B (wbE z)
 have j:b.isEmpty=false:=by cases b with |nil=>exact absurd rfl B |cons _ _=>rfl
 refine{_,rfl,a,_,rfl,.inl p,rfl,false,congrArg V.bl (decide_eq_false λz=>by have:=V.int.inj z;rw[wa0]at this;omega),cq ?_}
 by_cases M:w<1
 .refine{_,rfl,_,_,rfl,rfl,true,congrArg V.bl (decide_eq_true M),eB {rfl,no ?_ H (a8.refl _)}};unfold eS;rw[decide_eq_false (show ¬1<=w by omega),wcG,wed]
 refine{_,rfl,_,_,rfl,rfl,false,congrArg V.bl (decide_eq_false M),cq ?_};refine{_,rfl,a,rfl,{_,p},λlc C=>?_};refine jM (prs:=b.map dh) (λ_=>true) (λq=>match q.2 with |.int e=>.int (c.getD e.toNat 0) |_=>.non) (aK K a (o.map V.ref)) J C (aq ()) (λy s'=>s'.seq p) (λq d O _ _ D=>D d (a8.refl _)) (λq d O hq _ l D=>?_) (λd l R=>?_)
 .obtain⟨f,G,rfl⟩:=wab.mp hq;have m:=t f G;have I:ui (c.map V.int) (f.2:Int)=some (.int (c.getD f.2 0)):=bz (by rw[wa3,wa1 m,wa4,wa1 m];rfl)
  have q2:O (.int (c.getD f.2 0)) d:=by
   have:=D d (a8.refl _);rwa[show (dh f).2=.int (f.2:Int) from rfl]at this
  exact{_,rfl,x,L.aB,dx,_,_,rfl,l _ _ hx,L.az.cl,L.az.df,cG ah bw cl,_,rfl,bw,_,_,_,rfl,rfl,l.seq hb,I,q2}
 have e7:((b.map dh).filter λ_=>true).map (λq=>match q.2 with |.int e=>V.int (c.getD e.toNat 0) |_=>.non)=(b.map λq=>c.getD q.2 0).map V.int:=by
  rw[wb1.mpr (λ_ _=>rfl),wah,wah];rfl
 rw[e7]at R;refine{lc,_,rfl,aH.of R,_,rfl,_,rfl,_,_,rfl,rfl,.inl {(),()},_,_,rfl,rfl,?_}
 by_cases n:bf c b<many*w
 .refine{true,congrArg V.bl (decide_eq_true n),eB {rfl,no ?_ d l}};unfold eS;rw[decide_eq_false (show ¬many*w<=bf c b by omega),wed,wed]
 .refine{false,congrArg V.bl (decide_eq_false n),cq ?_};rcases k with⟨_,r⟩ |⟨i,_⟩
  .exact r d l
  .unfold eS at i;rw[j,decide_eq_true (show 1<=w by omega),decide_eq_true (show many*w<=bf c b by omega)]at i;cases i
theorem Jv(L:Lk K mg):aS P w K mg base (Bj P w) 4 L.DY L.E1 ["sheet","many","desk","numbers","weight"] (KQ K L.aB L.fA):=by
 have T:=L.T;refine L.ue.F.Fp (N:=["sheet","many","desk","numbers","weight","line","chosen","others","rest","lines","weights","twin"]) (λgx A outer s H vs Q E nd hr h=>?_);obtain⟨x,a,many,B,w,ns,u,j,f,rfl,S,hA,OT,Wv,m0,m1,k⟩:=h
 refine{_,(a6 (bA (eh (cC (au (lz L) L.iu (a9 (pv 2) (aM (aC (pv 0) rfl)))))) (ae (gq cU rfl L.jx L.iy rfl L.jw (aM dO))) aO)
  (a6 (ai (i:=5) (aW b5 (aC (pv 0) rfl) (pv 2) (λ_ _=>rfl)))
  (a6 (bA (eh (cC (aT (A4 rfl) (by rfl) T.all Qz (aM (cn rfl (aw ["line"] [5]) (aP (pv 3)) (λ_ _ _ _ _ _=>b8) (λ_ _ _ _ _ _=>(au (lz L) L.iu (a9 (pv 0) (aM (pv 1)))))))))) (ae (gq cU rfl L.jx L.iy rfl L.jw (aM dO))) aO)
  (a6 (sf (i:=6) rfl (aw ["numbers"] [3]) nd rfl rfl (aw ["numbers"] [3]) ⋯ (jK (by rfl) T.enum (aM (pv 5))) (λ_ _ _ _ _ _=>gv (fD (i3 (K:=K) rfl) (pv 0) (pv 2) rfl)) (λ_ _ _ _ _ _=>(pv 1)))
  (a6 (sf (i:=7) rfl (aw ["numbers"] [3]) nd rfl rfl (aw ["numbers"] [3]) ⋯ (jK (by rfl) T.enum (aM (pv 5))) (λ_ _ _ _ _ _=>gv (fD (wy (K:=K) rfl) (pv 0) (pv 2) rfl)) (λ_ _ _ _ _ _=>(pv 1)))
  (a6 (ai (i:=8) (aD lL (aW b5 (aC (pv 0) rfl) (pv 2) (λ_ _=>rfl)) (pv 4)))
  (a6 (bj (jN (nZ L) (hr.mono ⋯) rfl L.dC.g L.dC.F.kp L.dC.b .nil (xH cU) (a9 (pv 0) (a9 (pv 1) (a9 (pv 6) (aM (pv 4)))))))
  (a6 (bj (jN (nZ L) (hr.mono ⋯) rfl L.dC.g L.dC.F.kp L.dC.b .nil (xH cU) (a9 (pv 0) (a9 (pv 1) (a9 (pv 7) (aM (pv 8)))))))
  (a6 (ai (i:=9) (aD yU (aC (pv 0) rfl) (bY (aM (pv 7)))))
  (a6 (uB (pv 6) (GD (pv 9) (pv 2) set_list))
  (a6 (ai (i:=10) (aD yU (aC (pv 0) rfl) (bY (aM (pv 8)))))
  (a6 (uB (pv 4) (GD (pv 10) (pv 2) set_list))
  (a6 (ai (i:=11) (DU T.len (aC (pv 0) rfl)))
  (ae (ay (mS L.vY (fX L) (hr.mono ⋯) rfl L.zx L.eI.b .nil oR (a9 (aD yU (aC (pv 0) rfl) (bY (aM (aW b5 (aC (pv 0) rfl) (pv 2) (λ_ _=>rfl))))) (a9 (pv 10) (aM (cn rfl (aw ["desk","twin"] [2,11]) (aP (pv 9)) (λ_ _ _ _ _ _=>b8) (λ_ _ _ _ _ _=>(au (wX L) L.ql (a9 (pv 0) (a9 (pv 1) (aM (pv 2)))))))))))))))))))))))))),?_}
 ac_rfl
 refine nc λR1 c1=>?_;obtain⟨dx,M,bw,cl,hx,rh,JE,rl⟩:=id S;have hh:=ub rh;have hw:=KD JE;obtain⟨R9,t,ec,hc,zL⟩:=id rl;cases ec;have xl:t.length=f.length:=by rw[zL.len,wa0]
 have hn:=Wv.n;have zm:=Wv.w;have CL:=Wv.l
 have no:dW j f many B ns w=false->∀H',a8 H H'->E (.ref L.fA) none H':=λh=>by
  rcases k with⟨k1,_⟩ |⟨_,k2⟩
  .rw[h]at k1;cases k1
  .exact k2
 cases h1:eU B f.length with
 |false=>
  refine{_,rfl,_,rfl,x,L.aB,dx,_,_,rfl,hx,L.az.cl,L.az.cP,bO M bw cl,B,cl,t,rfl,.inl hc,false,congrArg V.bl (by rw[xl];exact h1),eB {rfl,no ?_ H (a8.refl _)}};unfold dW;rw[h1,wcG]
 |true=>
 obtain⟨d,rfl,hd⟩:∃d:Nat,B=(d:Int)/\d<f.length:=by
  unfold eU at h1;rw[wbc]at h1;have a1:=of_decide_eq_true h1.1;have a2:=of_decide_eq_true h1.2;exact{B.toNat,by lia,by lia}
 refine{_,rfl,_,rfl,x,L.aB,dx,_,_,rfl,hx,L.az.cl,L.az.cP,bO M bw cl,_,cl,t,rfl,.inl hc,true,congrArg V.bl (by rw[xl];exact h1),cq ?_};refine c1 _ _ (nc λR2 c2=>?_);rw[war]at k;have Xf:d<t.length:=by lia
 have Xg:t[d]?=some t[d]:=wa1 Xf;obtain⟨dd,P0,rd⟩:=zL.get d _ Xg;have SG:f[d]?=some f[d]:=wa1 hd;rw[wa3,SG]at P0;cases P0;have SE:f.getD d []=f[d]:=by rw[wa4,SG];rfl
 have P4:f[d]∈f:=waK hd;have V9:=Wv.m _ P4;have Va:=Wv.e _ P4
 have Xh:dW j f many (d:Int) ns w=(ns.all (λi=>eU i f[d].length)&&(eS j many (b7 ns f[d]) w&&eS j many (aY ns f[d]) (j.getD d 0-w))):=by
  unfold dW;rw[h1,wcA,war,SE]
 unfold dn at k;rw[SE]at k;rw[Xh]at k no;refine{_,rfl,x,L.aB,dx,_,_,rfl,hx,L.az.cl,L.az.cP,bO M bw cl,_,rfl,cl,t,_,t[d],rfl,rfl,.inl hc,bz Xg,?_};obtain⟨al,ys,el,O,LD⟩:=rd;rw[el];have yl:ys.length=f[d].length:=by rw[LD.len,wa0]
 generalize f[d]=p at Xh P4 V9 Va LD yl k no;refine c2 _ _ (nc λR3 c3=>?_);refine{_,rfl,a,rfl,{_,hA},λl1 OW=>?_};refine comp_map (λv=>match v with |.int i=>V.bl (eU i ys.length) |_=>.non) (aK K a (ns.map V.int)) OW (by rw[wa0];exact aq (by lia)) (λH' s'=>s'.seq hA) (λz H2 Q' hz s2 R=>?_) (λH2 s2 h2=>?_)
 .obtain⟨i,_,rfl⟩:=wab.mp hz;exact{_,rfl,_,rfl,i,al,ys,rfl,s2.seq (.inl O),R H2 (a8.refl _)}
 have e2:(ns.map V.int).map (λv=>match v with |.int i=>V.bl (eU i ys.length) |_=>.non)=(ns.map λi=>eU i p.length).map V.bl:=by
  rw[wah,wah,yl];rfl
 rw[e2]at h2
 have Rw:((ns.map λi=>eU i p.length).all id)=ns.all (λi=>eU i p.length):=by
  rw[wfF];rfl
 cases h3:ns.all (λi=>eU i p.length) with
 |false=>
  refine{l1,_,rfl,aH.of h2,false,congrArg V.bl (Rw.trans h3),eB {rfl,no ?_ H2 s2}};rw[h3,wcG]
 |true=>
 refine{l1,_,rfl,aH.of h2,true,congrArg V.bl (Rw.trans h3),cq ?_};refine c3 _ _ (nc λR4 c4=>?_);rw[h3,wcA]at k no;refine{_,rfl,al,ys,rfl,s2.seq (.inl O),λlc Lv=>?_};refine xY (λi=>oP (.int (i:Nat)) (ns.map V.int)) (s2.seq (.inl O)) Lv (aq (by lia)) (λi y H3 Q' _ s3 R=>?_) (λi y H3 Q' _ s3 R=>{_,rfl,R H3 (a8.refl _)}) (λH3 s3 Xi=>?_)
 .exact{_,rfl,_,rfl,a,_,rfl,.inl ((s2.trans s3).seq hA),rfl,gX ns,_,rfl,R H3 (a8.refl _)}
 have ein:(λi:Nat=>oP (.int (i:Nat)) (ns.map V.int))=λi:Nat=>decide ((i:Int)∈ns):=funext λi=>uq _ ns;rw[ein]at Xi;have wu:=s2.trans s3;refine c4 _ _ (nc λR5 c5=>?_);refine{_,rfl,al,ys,rfl,wu.seq (.inl O),λlo Mb=>?_};refine xY (λi=>!oP (.int (i:Nat)) (ns.map V.int)) (wu.seq (.inl O)) Mb (aq (by lia)) (λi y H4 Q' _ s4 R=>?_) (λi y H4 Q' _ s4 R=>{_,rfl,R H4 (a8.refl _)}) (λH4 s4 Xj=>?_)
 .exact{_,rfl,_,rfl,a,_,rfl,.inl ((wu.trans s4).seq hA),rfl,gX ns,_,rfl,R H4 (a8.refl _)}
 have Vb:(λi:Nat=>!oP (.int (i:Nat)) (ns.map V.int))=λi:Nat=>!decide ((i:Int)∈ns):=funext λi=>congrArg (!·) (uq _ ns);rw[Vb]at Xj;have C:=wu.trans s4;refine c5 _ _ (nc λR6 c6=>?_);have h4c:=s4 _ _ Xi;have rC:bK K H4 (bV (b7 ns p)) (.ref lc):={lc,_,rfl,.inl h4c,Au _ (bu.same C _ _ LD)};have rO:bK K H4 (bV (aY ns p)) (.ref lo):={lo,_,rfl,.inl Xj,Au _ (bu.same C _ _ LD)};have Xk:(b7 ns p).length<=5000:=wal (mR _ _ _) V9;have ol5:(aY ns p).length<=5000:=wal (mR _ _ _) V9;have ce:∀q∈b7 ns p,q.2<j.length:=λq hq=>by rw[zm];exact Va q (dM hq)
 have oe:∀q∈aY ns p,q.2<j.length:=λq hq=>by rw[zm];exact Va q (dM hq)
 have Xl:d<j.length:=by lia
 have Vc:ui (j.map V.int) (d:Int)=some (.int (j.getD d 0)):=bz (by rw[wa3,wa1 Xl,wa4,wa1 Xl];rfl);refine{_,rfl,x,L.aB,dx,_,_,rfl,C _ _ hx,L.az.cl,L.az.df,cG M bw cl,_,rfl,bw,_,_,_,rfl,rfl,C.seq (.inl hw),Vc,_,rfl,_,_,rfl,rfl,?_};show cK 8 (V.int (j.getD d 0-w)) _ _ _;refine c6 _ _ (nc λR7 c7=>?_);have S4:=S.same C;refine{_,rfl,_,rfl,_,rfl,_,rfl,x,many,.ref lc,w,u,j,f,b7 ns p,rfl,S4,rC,by lia,ce,m0,m1,?_}
 cases h5:eS j many (b7 ns p) w with
 |false=>exact .inr {rfl,λH5 s5=>no (by rw[h5,wcG]) H5 (C.trans s5)}
 |true=>
 refine .inl {rfl,λH5 s5=>?_};refine c7 _ _ (nc λR8 c8=>?_);rw[h5,wcA]at k no;refine{_,rfl,_,rfl,_,rfl,_,rfl,x,many,.ref lo,j.getD d 0-w,u,j,f,aY ns p,rfl,S4.same s5,bK.same s5 _ _ rO,by lia,oe,m0,m1,?_}
 cases h6:eS j many (aY ns p) (j.getD d 0-w) with
 |false=>exact .inr {rfl,λH6 s6=>no h6 H6 ((C.trans s5).trans s6)}
 |true=>
 refine .inl {rfl,λH6 s6=>?_};refine c8 _ _ ?_;obtain⟨_,kk⟩:True/\_:=⟨trivial,k⟩;rcases kk with⟨_,k⟩ |⟨k1,_⟩
 rotate_left
 .rw[h6]at k1;cases k1
 have Rk:=s5.trans s6;have Rt:=C.trans Rk;have rC6:=bK.same Rk _ _ rC;have rO6:=bK.same Rk _ _ rO;have big:∀n:Nat,n<=20000->n<=sizeLine:=λn hn=>wal hn (by rw[wcg];decide);refine{_,rfl,x,L.aB,dx,_,_,rfl,Rt _ _ hx,L.az.cl,L.az.cP,bO M bw cl,_,rfl,by show 1<=sizeLine;decide,λl7 OX=>?_};refine{cl,l7,t,[.ref lo],rfl,rfl,oM (Rt.trans (a8.upd OX)) hc,.inl a7,big _ (by show t.length+1<=_;lia),λU I=>?_};have Xm:a8 H6 (upd H6 l7 (.lst [V.ref lo])):=a8.upd OX;generalize upd H6 l7 (.lst [V.ref lo])=X at Xm I;have s6b:a8 X (upd X U (.lst (t++[V.ref lo]))):=a8.upd I
 have Wj:Ek (t++[V.ref lo]).length (d:Int)=some d:=by
  have Y:(t++[V.ref lo]).length=t.length+1:=by rw[wa5];rfl
  unfold Ek;rw[Y,if_pos (by lia),if_pos (by lia),war]
 refine{_,rfl,_,rfl,_,rfl,U,_,_,d,rfl,rfl,a7,Wj,?_};have RW:(upd (upd X U (.lst (t++[V.ref lo]))) U (.lst ((t++[V.ref lo]).set d (V.ref lc)))) U=some (.lst ((t++[V.ref lo]).set d (V.ref lc))):=a7
 have SH:a8 H6 (upd (upd X U (.lst (t++[V.ref lo]))) U (.lst ((t++[V.ref lo]).set d (V.ref lc)))):=λc o e=>by
  have J:=Xm _ _ e;rw[af (ag J I),af (ag J I)];exact J
 generalize upd (upd X U (.lst (t++[V.ref lo]))) U (.lst ((t++[V.ref lo]).set d (V.ref lc)))=H8 at RW SH;have Ly:=Rt.trans SH
 have rL8:bu K H8 (((f++[aY ns p]).set d (b7 ns p)).map bV) ((t++[V.ref lo]).set d (V.ref lc)):=by
  have r1:bu K H8 (f.map bV++[bV (aY ns p)]) (t++[V.ref lo]):=gY (bu.same Ly _ _ zL) (bK.same SH _ _ rO6)
  have e:((f++[aY ns p]).set d (b7 ns p)).map bV=(f.map bV++[bV (aY ns p)]).set d (bV (b7 ns p)):=by
   rw[List.map_set,wai];rfl
  rw[e];exact r1.set d (bK.same SH _ _ rC6)
 refine{_,rfl,x,L.aB,dx,_,_,rfl,Ly _ _ hx,L.az.cl,L.az.df,cG M bw cl,_,rfl,by show 1<=sizeLine;decide,λl9 Rx=>?_};refine{bw,l9,_,[.int (j.getD d 0-w)],rfl,rfl,oM (Ly.trans (a8.upd Rx)) hw,.inl a7,big _ (by rw[wa0];show j.length+1<=_;lia),λlw MA=>?_};have Xn:a8 H8 (upd H8 l9 (.lst [.int (j.getD d 0-w)])):=a8.upd Rx;generalize upd H8 l9 (.lst [.int (j.getD d 0-w)])=Vd at Xn MA;have Ve:j.map V.int++[V.int (j.getD d 0-w)]=(j++[j.getD d 0-w]).map V.int:=by rw[wai];rfl
 rw[Ve]
 have Vf:Ek ((j++[j.getD d 0-w]).map V.int).length (d:Int)=some d:=by
  have Y:((j++[j.getD d 0-w]).map V.int).length=j.length+1:=by rw[wa0,wa5];rfl
  unfold Ek;rw[Y,if_pos (by lia),if_pos (by lia),war]
 refine{_,rfl,_,rfl,_,rfl,lw,_,_,d,rfl,rfl,a7,Vf,?_}
 have Vg:((j++[j.getD d 0-w]).map V.int).set d (.int w)=(cw j d w).map V.int:=by
  unfold cw;rw[List.map_set]
 rw[Vg];have Xo:(upd (upd Vd lw (.lst ((j++[j.getD d 0-w]).map V.int))) lw (.lst ((cw j d w).map V.int))) lw=some (.lst ((cw j d w).map V.int)):=a7
 have Vh:a8 H8 (upd (upd Vd lw (.lst ((j++[j.getD d 0-w]).map V.int))) lw (.lst ((cw j d w).map V.int))):=λc o e=>by
  have J:=Xn _ _ e;rw[af (ag J MA),af (ag J MA)];exact J
 generalize upd (upd Vd lw (.lst ((j++[j.getD d 0-w]).map V.int))) lw (.lst ((cw j d w).map V.int))=H9 at Xo Vh;have D:=Ly.trans Vh;refine{_,rfl,x,L.aB,dx,_,_,rfl,D _ _ hx,L.az.cl,L.az.cP,bO M bw cl,cl,t,rfl,.inl (D.seq (.inl hc)),?_};rw[xl];have Xp:d<u.length:=by lia
 have Vi:ui (u.map V.str) (d:Int)=some (.str (u.getD d "")):=bz (by rw[wa3,wa1 Xp,wa4,wa1 Xp];rfl);refine{_,rfl,x,L.aB,dx,_,_,rfl,D _ _ hx,L.az.cl,L.az.fM,fj M bw cl,_,rfl,x,L.aB,dx,_,_,rfl,D _ _ hx,L.az.cl,L.az.fM,fj M bw cl,_,rfl,M,_,_,_,rfl,rfl,D.seq (.inl hh),Vi,by show 1<=sizeLine;decide,λl10 Ry=>?_};refine{M,l10,_,[.str (u.getD d "")],rfl,rfl,oM (D.trans (a8.upd Ry)) hh,.inl a7,big _ (by rw[wa0];show u.length+1<=_;lia),λlh OU=>?_};have Xq:a8 H9 (upd H9 l10 (.lst [.str (u.getD d "")])):=a8.upd Ry;generalize upd H9 l10 (.lst [.str (u.getD d "")])=Xr at Xq OU;have Rz:u.map V.str++[V.str (u.getD d "")]=(cQ u d).map V.str:=by unfold cQ;rw[wai];rfl
 rw[Rz];have SJ:=Xq.trans (a8.upd (o:=.lst ((cQ u d).map V.str)) OU);have RA:(upd Xr lh (.lst ((cQ u d).map V.str))) lh=some (.lst ((cQ u d).map V.str)):=a7;generalize upd Xr lh (.lst ((cQ u d).map V.str))=LA at SJ RA;have MD:=Vh.trans SJ;have Z:=MD _ _ RW;have Vj:=bu.same MD _ _ rL8;have zl:((t++[V.ref lo]).set d (V.ref lc)).length=f.length+1:=by rw[wcx,wa5,xl];rfl
 refine{_,rfl,_,rfl,U,rfl,{_,aH.of Z},λlt O5=>?_}
 have RB:∀l∈(f++[aY ns p]).set d (b7 ns p),l.length<=5000:=λl hl=>by
  rcases wcW hl with z |z
  .rcases wax.mp z with z |z
   .exact Wv.m l z
   .rw[wao.mp z];exact ol5
  .rw[z];exact Xk
 refine vD (K:=K) ((((f++[aY ns p]).set d (b7 ns p)).map (eJ d f.length)).map bV) (aK K U ((t++[V.ref lo]).set d (V.ref lc))) O5 (big _ (by rw[zl];lia)) (by rw[wa0,wa0,wcx,wa5,zl];rfl) (λH' s'=>aH.of (s' _ _ Z)) (λi y dt Gd Q' hy JH G R=>?_) (λGd G r11=>?_)
 .obtain⟨d',J,r⟩:=Vj.get i y hy;rw[wa3]at J JH;rw[wa3]at JH
  cases e:((f++[aY ns p]).set d (b7 ns p))[i]? with
  |none=>rw[e]at J;cases J
  |some l=>
   rw[e]at J JH;cases J;cases JH;exact{_,rfl,_,rfl,_,rfl,y,d,f.length,l,rfl,bK.same G _ _ r,RB l (wa8 e),λz Jp LL r12=>R z Jp LL r12}
 intro y dy ny UM Zw;have sm:a8 Gd (upd (upd Gd dy (.own y)) y (.ins L.aB dy [])):=fm ny UM;have Jw:=D.trans SJ;refine{y,dy,.ref lh,.ref lw,.ref lt,cQ u d,cw j d w,((f++[aY ns p]).set d (b7 ns p)).map (eJ d f.length),rfl,a7,pk (sm _ _ (G _ _ RA)),jg (sm _ _ (G _ _ (SJ _ _ Xo))),bK.same ((bI _ _).trans sm) _ _ r11,?_,?_,?_,?_,λa' b' c' Jp Vk q1 q2 q3 Vl=>{rfl,?_}}
 .unfold cQ;rw[wa5];show u.length+1<=_;lia
 .unfold cw;rw[wcx,wa5];show j.length+1<=_;lia
 .rw[wa0,wcx,wa5];show f.length+1<=_;lia
 .intro l hl;obtain⟨l',Ro,rfl⟩:=wab.mp hl;have:=qR d f.length l';have:=RB l' Ro
  lia
 .have LL:a8 Gd Jp:=λc o e=>Vl _ _ (sm _ _ e) (ag e ny);refine k y Jp (Jw.trans (G.trans LL)) ?_;have UO:H y=none:=none_of (Jw.trans G) ny;have nw:=λ(dd:jE) (v:V) (r:bK K (aL _ Jp) dd v)=>bK.same (eF ((Jw.trans G).trans sm)) dd v r;exact{dy,a',b',c',bT UO Vk,nw _ _ q1,nw _ _ q2,nw _ _ q3}
theorem iZ(L:Lk K mg):aS P w K mg base (Bj P w) 7 L.fq L.fv ["band","many","wide"] (J5 L.aA L.oC):=by
 have T:=L.T;refine L.cp.F.Fp (N:=["band","many","wide","most","weights","in_all"]) (λX A outer s H vs Q E nd hr h=>?_);obtain⟨x,many,n,g,M,ss,ls,rfl,B,r,t,u,y,k,O⟩:=h
 refine{_,(a6 (GH whC rfl (qM rfl T.range (a9 ao (aM (aD cu (tY (v:=.int 8) (by rfl) L.w4.choose_spec {_,rfl}) ao)))) (ax (i:=3)) (a6 (ai (i:=4) (au (Bc L) L.vV (a9 (pv 0) (a9 (pv 1) (a9 (pv 2) (aM (pv 3)))))))
  (a6 (ai (i:=5) (aT (Fy rfl) (by rfl) T.sum EJ (aM (Dz (K:=K) rfl wd8 we4 wfS xM (pv 4)))))
  (a6 (bA (d4 lI (pv 5) (tY (v:=.int 40) (by rfl) L.lC.choose_spec {_,rfl})) (ae (gq cU rfl L.zy L.E4 rfl L.D5 (aM dO))) aO)
  (ae (bA (d4 lI (pv 5) ao) (ae (ay (pv 4))) aO))))))
  (ae (gq cU rfl L.zy L.E4 rfl L.D5 (aM dO)))),?_}
 ac_rfl
 refine{_,_,rfl,rfl,1,9,rfl,⋯,?_};refine bW (lo:=1) (n:=8) (λi σ q=>∃z v4 C:Option V,σ=[some (.ref x),some (.int many),some (.int (n:Int)),z,v4,C]/\a8 H q/\∀(m:Int) (h:Str->Int),1<=m->m<1+(i:Int)->nu g M ss ls many n m h->(ls.map h).sum=0) {none,none,none,rfl,a8.refl _,λm h R Y=>by lia} ?_ ?_
 .rintro i σ q hi ⟨z,v4,C,rfl,j,l⟩;refine{_,rfl,_,rfl,_,rfl,_,rfl,x,many,n,1+(i:Int),g,M,ss,ls,rfl,B.same j,r,t,u,y,by lia,λd f S Z fd D G=>?_};refine{_,rfl,.inr (.inr (.inl {rfl,.inl {_,D}})),d,_,rfl,rfl,D,λv hv=>?_};have I:=a8.upd (o:=lE v d) hv;have J:=I _ _ D;have p:(upd S v (lE v d)) v=some (lE v d):=a7;generalize upd S v (lE v d)=U at I J p;have a:=j.trans (Z.trans I);refine{v,d,_,ls.map f,rfl,p,J,Cd f ls,?_}
  by_cases b:(40:Int)<(ls.map f).sum
  .refine{_,rfl,_,_,rfl,rfl,true,congrArg V.bl (decide_eq_true b),eB {rfl,?_}};exact O {1+(i:Int),by lia,by lia,l,.inr ⟨f,G,b⟩} U a
  refine{_,rfl,_,_,rfl,rfl,false,congrArg V.bl (decide_eq_false b),cq ?_}
  by_cases h0:(0:Int)<(ls.map f).sum
  .refine{_,rfl,_,_,rfl,rfl,true,congrArg V.bl (decide_eq_true h0),eB {_,rfl,?_}};exact k d f U a (none_of j fd) J {{1+(i:Int),by lia,by lia,G,l},h0,by lia}
  .refine{_,rfl,_,_,rfl,rfl,false,congrArg V.bl (decide_eq_false h0),cq ?_};refine{_,_,_,rfl,a,λm h R Y c=>?_}
   by_cases e:m=1+(i:Int)
   .subst e;have:=Ft G c;have:=uS c.nn
    lia
   .exact l m h R (by lia) c
 .rintro σ q ⟨z,v4,C,rfl,j,l⟩;exact{rfl,O {9,⋯,⋯,l,.inl rfl} q j}
end
end K51
namespace Bs
theorem Jx(xs:List Int)(g:i<=j)(l:j<=xs.length):jy (xs.map V.int) (some (i:Int)) (some (j:Int))=((xs.take j).drop i).map V.int:=by grind [jy,HT.LI,wa0,wdS,wer,wdd,wgJ]
end Bs
namespace K51
section
variable{P:waC}{w:World}{K:wa2}{mg:Str->Option Value}{base:Heap}
local macro_rules|`(tactic|ac_rfl)=>`(tactic|try dsimp only[cW,cX,aZ,b0])
theorem G6(L:Lk K mg):aS P w K mg base cO 1 L.AV L.AY ["weights","numbers","many"] (QL K):=by
 have T:=L.T;refine L.B4.F.d8 (N:=["weights","numbers","many","taken_at","total","taken","number"]) (λgx A outer s H vs Q E nd hr h=>?_);obtain⟨a,b,many,wl,d,rfl,hA,I,m1,m2,J,M,k⟩:=h;have O:=eT hr
 refine{_,(a6 (ai (i:=3) (DA (zX ao ao Dr) rfl rfl (by simp) ⋯))
  (a6 (ai (i:=4) ao)
  (a6 (forA (J6 (by rfl) T.enum (aM (pv 1))) (dm rfl (aN (ax (i:=5)) (aN (ax (i:=6)) cA))) (a6 (uC (i:=4) nd rfl (we1 rfl) (aW b5 (pv 0) (pv 6) (λ_ _=>rfl)) GR)
  (a6 (bA (yG (GX O (aD cD (pv 4) (pv 2)) (pv 3))) (ae (ay (b6 fZ (pv 1) (aV (d7 O (pv 3) (aD cD (pv 4) (pv 2)) (λ_ _=>rfl))) (aV (pv 5))))) aO)
  (ae (dU O (pv 3) (aD cD (pv 4) (pv 2)) (pv 5) rfl)))))
  (ae (ay (bY dN)))))),?_}
 ac_rfl
 have l:(0:Int)<many:=by lia
 refine λg m=>{a7,[((wb4 0:Key),V.int 0)],rfl,⋯,?_};have R:a8 H (upd (upd H g (.dK [])) g (.dK (jH [] [((wb4 0:Key),V.int 0)]))):=λc o e=>by rw[af (ag e m),af (ag e m)];exact e
 have h0:(upd (upd H g (.dK [])) g (.dK (jH [] [((wb4 0:Key),V.int 0)]))) g=some (.dK (dR many (jV wl d) 1)):=by
  rw[a7];refine congrArg (λz=>some (HO.dK z)) ?_;show [((wb4 0:Key),V.int 0)]=[((wb4 (0%many):Key),V.int 0)];rw[Int.zero_emod]
 generalize upd (upd H g (.dK [])) g (.dK (jH [] [((wb4 0:Key),V.int 0)]))=H0 at R h0;refine{_,rfl,b,_,rfl,R.seq I,Fx (K:=K) (a:=b) (xs:=(nI d).map V.int) (λj σ q=>a8 H q/\(∃S v6,σ=[some (.ref a),some (.ref b),some (.int many),some (.ref g),some (.int (jV wl d j)),S,v6])/\q g=some (.dK (dR many (jV wl d) (j+1)))/\∀i k,i<k->k<=j->jV wl d i%many≠jV wl d k%many) {R,⟨none,none,rfl⟩,h0,λi k Y C=>by lia} (λi σ q _ p=>p.1.seq I) ?_ (λσ q p=>?_)}
 .rintro j y σ q T U ⟨Z,⟨S,v6,rfl⟩,C,f⟩ hT;have hj:j<d.length:=by have:=(wa6.mp U).1;rwa[wa0,bR]at this
  have r:d[j]?=some d[j]:=wa1 hj;rw[yX r]at U;cases U;have t:=M _ (waK hj);have x:=ER (wl:=wl) r;generalize d[j]=n at r t x;have u:=Z.trans (a8.upd (o:=.tup [.int ((j+1:Nat):Int),.int (n:Int)]) hT);have D:(upd q T (.tup [.int ((j+1:Nat):Int),.int (n:Int)])) g=some (.dK (dR many (jV wl d) (j+1))):=a8.upd hT _ _ C;refine{T,_,rfl,g8.of a7,rfl,_,_,rfl,_,_,rfl,rfl,?_};generalize upd q T (.tup [.int ((j+1:Nat):Int),.int (n:Int)])=H3 at u D;refine{_,rfl,_,rfl,_,rfl,a,_,_,_,rfl,rfl,u.seq hA,bz (v:=.int (wl.getD n 0)) (by rw[wa3,wa1 t,wa4,wa1 t];rfl),_,_,rfl,rfl,?_};dsimp only;rw[<-x];refine{_,rfl,_,rfl,_,_,rfl,rfl,l,_,rfl,g,_,rfl,ee.k (k:=(wb4 (jV wl d (j+1)%many):Key)) D,?_};rcases Hs many (jV wl d) (j+1) (jV wl d (j+1)%many) with⟨G,B⟩ |⟨i,hi,X,G⟩
  .rw[G];refine{false,rfl,cq ?_};refine{_,rfl,_,rfl,_,rfl,_,rfl,_,_,rfl,rfl,l,g,_,rfl,jG.k (k:=wb4 (jV wl d (j+1)%many)) D (by rw[Nt];exact bg (by lia)),?_};rw[Nr G];refine{λc o e=>by rw[af (ag e m)];exact u _ _ e,{_,_,rfl},a7,λi k Y C=>?_}
   by_cases e:k=j+1
   .subst e;exact B i (by lia)
   .exact f i k Y (by lia)
  .have hg:=ee.k (k:=(wb4 (jV wl d (j+1)%many):Key)) D;rw[G]at hg ⊢;refine{true,rfl,eB ?_};refine{_,rfl,_,rfl,_,rfl,_,rfl,_,_,rfl,rfl,l,g,_,rfl,hg,_,rfl,_,rfl,_,rfl,b,_,rfl,u.seq I,λp hp=>?_};rw[Jx _ (by lia) (by rw[bR];lia),DH,Kg];exact k p i (j+1) _ (u.trans (a8.upd hp)) (none_of u hp) (by lia) (by lia) (HH (by lia) X) a7
 .obtain⟨Z,⟨S,v6,rfl⟩,C,f⟩:=p;rw[wa0,bR]at f;exact absurd (CG l J f) id
theorem xg(L:Lk K mg):aS P w K mg base cO 2 L.pL L.qa ["sheet","many"] (Oc K L.aB):=by
 have T:=L.T;refine L.qm.F.d8 (N:=["sheet","many","found","desk","weights","others","numbers"]) (λgx A outer s H vs Q E nd hr h=>?_);obtain⟨x,many,hs,c,u,rfl,S,B,hK,BU,hn,hm,m1,m2,k⟩:=h
 refine{_,(a6 (ai (i:=2) (au (zD L) L.t8 (aM (pv 0))))
  (a6 (ai (i:=3) (aW eQ (pv 2) ao (λ_ _=>rfl)))
  (a6 (ai (i:=4) (eV rfl (aw ["sheet"] [0]) (aw ["sheet"] [0]) ⋯ (aP (aW b5 (aC (pv 0) rfl) (pv 3) (λ_ _=>rfl))) (λ_ _ _ _ _ _=>b8) (λ_ _ _ _ _ _=>(aW (fE (K:=K) rfl) (mU (K:=K) rfl (pv 2) rfl) (pv 1) (λ_ _=>rfl)))))
  (a6 (cZ (i:=5) rfl (aw ["found"] [2]) nd rfl rfl (bX rfl T.range (aM (DU T.len (pv 4)))) (λ_ _ _ _ _ _=>gv (d4 M6 (pv 0) (aW (Lf (K:=K) rfl) (pv 1) ao (λ_ _=>rfl)))) (λ_ _ _ _ _ _=>(pv 0)))
  (a6 (ai (i:=6) (au (G6 L) L.B4 (a9 (pv 4) (a9 (aD yQ (bY (aM (aW eQ (pv 2) ao (λ_ _=>rfl)))) (b6 fZ (pv 5) cB (aV (aD lL (pv 1) ao)))) (aM (pv 1))))))
  (ae (ay (dP (a9 (pv 3) (a9 (pv 6) (aM (aD jI (aT (lN rfl) (by rfl) T.sum EJ (aM (cn rfl (aw ["weights"] [4]) (aP (pv 6)) (λ_ _ _ _ _ _=>b8) (λ_ _ _ _ _ _=>(aW (fE (K:=K) rfl) (pv 1) (pv 0) (λ_ _=>rfl)))))) (pv 1))))))))))))),?_}
 ac_rfl
 obtain⟨dx,ah,bw,cl,hx,rh,JE,rl⟩:=id S;obtain⟨Wt,eb,hb⟩:=ia JE;cases eb;obtain⟨R9,xs,ec,hc,zL⟩:=id rl;cases ec;have O:=B.w;have CL:=B.l;have xl:xs.length=u.length:=by rw[zL.len,wa0]
 have wne:c≠[]:=λz=>BU (wbE (by rw[<-O,z];rfl));refine{_,rfl,x,hs,c,u,rfl,S,by lia,λl hl q hq=>by rw[O];exact B.e l hl q hq,wne,λh hh ht=>?_,λt h d i b q H1 R ht D=>?_}
 .obtain⟨d,i,b,q,e1,e2,e3,e4⟩:=AF B hK hh ht m1;exact⟨d,i,b,q,hh,ht,e1,e2,e3,e4⟩
 have hd:d<u.length:=(wa6.mp D.l).1;have hi:i<b.length:=(wa6.mp D.s).1;have P4:b∈u:=wa8 D.l;have My:=hm b P4;have Xs:=y4 B D;have hT:=g8.of (K:=K) ht;refine{_,rfl,t,_,_,_,rfl,rfl,hT,rfl,?_};obtain⟨v,Oh,rd⟩:=zL.at (i:=d) (d:=bV b) (by rw[wa3,D.l];rfl);obtain⟨a,rs,rfl,hS,Rf⟩:=cS rd;have zA:rs.length=b.length:=by rw[Rf.1,wa0,wa0]
 refine{_,rfl,x,L.aB,dx,_,_,rfl,R _ _ hx,L.az.cl,L.az.cP,bO ah bw cl,_,rfl,cl,xs,_,_,rfl,rfl,R.seq (.inl hc),bz Oh,a,rfl,{_,R.seq hS},λlc Lv=>?_};refine jM (prs:=b.map dh) (λ_=>true) (λq=>match q.2 with |.int e=>.int (c.getD e.toNat 0) |_=>.non) (aK K a (rs.map V.ref)) (Rf.same R) Lv (aq (by lia)) (λH' s'=>(R.trans s').seq hS) (λq H7 Q' _ _ m=>m H7 (a8.refl _)) (λq H7 Q' hq _ s7 m=>?_) (λH7 s7 h7=>?_)
 .obtain⟨U,hq',rfl⟩:=wab.mp hq;have C:U.2<c.length:=by rw[O];exact B.e b P4 U hq'
  have OY:ui (c.map V.int) (U.2:Int)=some (.int (c.getD U.2 0)):=bz (by rw[wa3,wa1 C,wa4,wa1 C];rfl)
  have q2:Q' (.int (c.getD U.2 0)) H7:=by
   have:=m H7 (a8.refl _);rwa[show (dh U).2=.int (U.2:Int) from rfl]at this
  have G:=R.trans s7;exact{_,rfl,x,L.aB,dx,_,_,rfl,G _ _ hx,L.az.cl,L.az.df,cG ah bw cl,_,rfl,bw,_,_,_,rfl,rfl,G.seq hb,OY,q2}
 have e7:((b.map dh).filter λ_=>true).map (λq=>match q.2 with |.int e=>V.int (c.getD e.toNat 0) |_=>.non)=(b.map λq=>c.getD q.2 0).map V.int:=by
  rw[wb1.mpr (λ_ _=>rfl),wah,wah];rfl
 rw[e7]at h7;have G:=R.trans s7;have Xu:=s7.JU hT;have g:(b.map λq=>c.getD q.2 0).length=b.length:=wa0 _;refine{_,rfl,lc,_,rfl,.inl (aH.of h7),_,rfl,by lia,by rw[wa0,g];lia,λlo Mb=>?_};have en:((((b.map λq=>c.getD q.2 0).map V.int).length:Nat):Int).toNat=b.length:=by rw[wa0,g,war]
 rw[en];refine dJ (λv=>!decide (v=.int (i:Int))) (λv=>v) (o8 0 b.length) Mb (aq (by rw[wa0,waJ];lia)) (λ_ _=>wbz) (λy I Q' hy X m=>?_) (λy I Q' hy _ X m=>{_,rfl,m I (a8.refl _)}) (λI X h8=>?_)
 .obtain⟨n,Bk,rfl⟩:=wab.mp hy;exact{_,rfl,_,rfl,t,_,_,_,rfl,rfl,X.JU Xu,rfl,rfl,_,rfl,m I (a8.refl _)}
 have e8:(((waD b.length).map λi:Nat=>V.int (0+(i:Nat))).filter λv=>!decide (v=.int (i:Int)))=(nI (restOf b.length i)).map V.int:=by
  have e9:((waD b.length).map λi:Nat=>V.int (0+(i:Nat)))=(nI (waD b.length)).map V.int:=by
   rw[<-vd];exact waX λn _=>by rw[wca]
  rw[e9,xV (f:=λn=>decide (n≠i)) λn=>?_]
  .rfl
  .by_cases z:n=i
   .subst z;simp
   .have:¬V.int (n:Int)=V.int (i:Int):=λy=>z (by have:=V.int.inj y;lia);rw[decide_eq_false this,decide_eq_true z];rfl
 rw[we9,e8]at h8;have Xv:=G.trans X;have hT8:=X.JU Xu;have Xw:=X _ _ h7;refine{_,rfl,_,rfl,t,_,_,_,rfl,rfl,hT8,rfl,by show 1<=sizeLine;decide,λl1 OW=>?_};have s9:=a8.upd (H:=I) (o:=.lst [V.int (i:Int)]) OW;have h9:(upd I l1 (.lst [V.int (i:Int)])) l1=some (.lst [V.int (i:Int)]):=a7;generalize upd I l1 (.lst [V.int (i:Int)])=H9 at s9 h9;have hnk:many-1=(((many-1).toNat:Nat):Int):=by lia
 refine{_,rfl,_,rfl,_,_,rfl,rfl,(((many-1).toNat:Nat):Int),congrArg V.int hnk,lo,_,rfl,aH.of (s9 _ _ h8),λl2 OV=>?_};rw[Ec,<-wdd,DH];have Y:=a8.upd (H:=H9) (o:=.lst ((nI ((restOf b.length i).take (many-1).toNat)).map V.int)) OV;have LK:(upd H9 l2 (.lst ((nI ((restOf b.length i).take (many-1).toNat)).map V.int))) l2=some (.lst ((nI ((restOf b.length i).take (many-1).toNat)).map V.int)):=a7;generalize upd H9 l2 (.lst ((nI ((restOf b.length i).take (many-1).toNat)).map V.int))=Z at Y LK;have OT:=Ax (k:=(many-1).toNat) hi (by lia);refine{l1,l2,_,_,rfl,rfl,Y _ _ h9,LK,aq ?_,λl3 G8=>?_}
 .rw[wa0,bR,wad];show 1+_<=_
  lia
 rw[show [V.int (i:Int)]++(nI ((restOf b.length i).take (many-1).toNat)).map V.int=(nI (numsOf b.length i (many-1).toNat)).map V.int from rfl];have Ou:=a8.upd (H:=Z) (o:=.lst ((nI (numsOf b.length i (many-1).toNat)).map V.int)) G8;have Ru:(upd Z l3 (.lst ((nI (numsOf b.length i (many-1).toNat)).map V.int))) l3=some (.lst ((nI (numsOf b.length i (many-1).toNat)).map V.int)):=a7;generalize upd Z l3 (.lst ((nI (numsOf b.length i (many-1).toNat)).map V.int))=Gd at Ou Ru;have j:=(s9.trans Y).trans Ou;refine{_,rfl,lc,l3,many,b.map λq=>c.getD q.2 0,numsOf b.length i (many-1).toNat,rfl,aH.of (j _ _ Xw),aH.of Ru,m1,m2,by rw[OT];lia,λn hn=>by rw[g];exact yZ hi n hn,λl i' j' Jp LL Vm hij hj hz p=>?_};have b9:=La B m1 D hij hj hz;have C:∀n∈((numsOf b.length i (many-1).toNat).take j').drop i',n<b.length:=λn hn=>yZ hi n (((whB _ _).trans (wbp _ _)).subset hn)
 have Ga:(((numsOf b.length i (many-1).toNat).take j').drop i').length<=1000:=by
  rw[waW,wad]
  lia
 generalize ((numsOf b.length i (many-1).toNat).take j').drop i'=ns at *;have J:=Xv.trans (j.trans LL);have h12:=LL _ _ (j _ _ Xw);refine{_,rfl,_,rfl,_,rfl,l,rfl,{_,aH.of p},λls hls=>?_};refine dJ (λ_=>true) (λv=>match v with |.int n=>.int ((b.map λq=>c.getD q.2 0).getD n.toNat 0) |_=>.non) (aK K l _) hls (aq (by rw[wa0,bR];lia)) (λH' s'=>aH.of (s' _ _ p)) (λy I Q' hy X m=>m I (a8.refl _)) (λy SK Q' hy _ r m=>?_) (λSK r Sz=>?_)
 .obtain⟨n,Bk,rfl⟩:=vc hy;have M:n<(b.map λq=>c.getD q.2 0).length:=by rw[g];exact C n Bk
  exact{_,rfl,_,rfl,lc,_,_,_,rfl,rfl,aH.of (r _ _ h12),bz (v:=.int ((b.map λq=>c.getD q.2 0).getD n 0)) (by rw[wa3,wa1 M,wa4,wa1 M];rfl),m SK (a8.refl _)}
 have e13:(((nI ns).map V.int).filter λ_=>true).map (λv=>match v with |.int n=>V.int ((b.map λq=>c.getD q.2 0).getD n.toNat 0) |_=>.non)=(ns.map λn=>(b.map λq=>c.getD q.2 0).getD n 0).map V.int:=by
  rw[wb1.mpr (λ_ _=>rfl)];unfold nI;rw[wah,wah,wah];rfl
 rw[e13]at Sz;refine{ls,_,rfl,aH.of Sz,_,rfl,_,_,rfl,rfl,{by lia,by lia},by show 3<=sizeLine;decide,λt' Vn=>?_};exact k t' l d ns _ _ (J.trans (r.trans (a8.upd Vn))) (none_of (Xv.trans j) Vm) (none_of (J.trans r) Vn) a7 (a8.upd Vn _ _ (r _ _ p)) b9 (by lia) Ga
end
end K51
namespace Sx
inductive Vo(C:Addr)(n1 n2:Str)(d8 ok2:V->Prop)(vs:List V)(H:Hp)(Q:VK)(dq:XK):Prop
 |mk (x u v) (_:vs=[.ref x,u,v]) (_:d8 u) (_:ok2 v) (_:H x=some (XN x C)) (_:∀d,H d=none->Q .non (upd (upd H d (.xd [(n1,u),(n2,v)])) x (XD x C d)))
end Sx
namespace K51
section
variable{P:waC}{w:World}{K:wa2}{mg:Str->Option Value}{base:Heap}
local macro_rules|`(tactic|ac_rfl)=>`(tactic|try dsimp only[cW,cX,aZ,b0])
theorem oH(L:Lk K mg):aS P w K mg base cO 1 L.dZ L.fW ["self","length","rows"] (Vo L.cz "length" "rows" Mq Mq):=by
 refine L.B8.d8 (N:=["self","length","rows"]) (λm A outer s H n Q E nd o h=>?_);obtain⟨x,u,v,rfl,⟨i,rfl,a⟩,⟨j,rfl,b⟩,g,k⟩:=h
 refine{_,(a6 (bj (Ju rfl L.B5 L.XB (a9 (pv 0) (aM (K6 (BQ (Hd (pv 1) (BQ (Hd (pv 2) (BQ Nb))))))))))
  (a6 (LN (CB:=L.di) (pv 0) (pv 1) rfl)
  (ae (Js (CB:=L.di) (pv 0) (pv 2) rfl)))),?_}
 ac_rfl
 have l1:=weZ a;have l:=weZ b;refine{_,rfl,aq ?_,_,rfl,.inl {i,rfl,a,aq ?_,aq ?_,_,rfl,.inl {j,rfl,b,aq ?_,aq ?_,aq ?_,x,L.cz,_,_,rfl,g,L.iz,?_}}}
 .exact wal (show _<=1000 by decide+kernel) ⋯
 .exact wal (fK (show _<=1000 by decide+kernel) l1) ⋯
 .exact wal (fK (fK (show _<=1000 by decide+kernel) l1) (show _<=1000 by decide+kernel)) ⋯
 .exact wal (fK (fK (fK (show _<=1000 by decide+kernel) l1) (show _<=1000 by decide+kernel)) l) ⋯
 .exact wal (fK (fK (fK (fK (show _<=1000 by decide+kernel) l1) (show _<=1000 by decide+kernel)) l) (show _<=1000 by decide+kernel)) ⋯
 .exact wal (fK (fK (fK (fK (show _<=1000 by decide+kernel) l1) (show _<=1000 by decide+kernel)) l) (show _<=1000 by decide+kernel)) ⋯
 refine{_,rfl,_,rfl,x,L.cz,_,rfl,g,L.iz,L.tL,λd hd=>?_};have f:d≠x:=λz=>by rw[z,g]at hd;cases hd
 refine{_,rfl,_,rfl,x,L.cz,_,d,[("length",.int i)],rfl,a7,by rw[af f,a7],by show 1<=50;decide,L.iz,L.wQ,by rw[wdF,show (("rows":Str) == "length")=false by decide+kernel];rfl,?_}
 have e:upd (upd (upd H d (.xd [(("length":Str),V.int i)])) x (XD x L.cz d)) d (.xd ([(("length":Str),V.int i)]++[(("rows":Str),V.int j)]))=upd (upd H d (.xd [(("length":Str),V.int i),(("rows":Str),V.int j)])) x (XD x L.cz d):=by
  funext c
  by_cases a:c=d
  .subst a;rw[a7,af f,a7];rfl
  .rw[af a]
   by_cases b:c=x
   .subst b;rw[a7,a7]
   .rw[af b,af b,af a,af a]
 rw[e];exact k d hd
theorem nh(L:Lk K mg):aS P w K mg base (Bj P w) 8 L.ik L.iq ["band","many","wide"] (KS L.aA L.cz):=by
 refine L.dD.F.Fp (N:=["band","many","wide","length"]) (λC A outer s H S Q E nd D h=>?_);obtain⟨x,many,n,g,bw,ss,ls,rfl,B,l,m,f,k,G⟩:=h
 refine{_,(a6 (ai (i:=3) (au (FX L) L.B1 (a9 (pv 0) (a9 (pv 1) (a9 (pv 2) (aM (tY (v:=.int 24) (by rfl) L.vZ.choose_spec {_,rfl})))))))
  (ae (bA (d4 yJ (pv 3) fC) (ae (Jr cU rfl L.iz L.FV L.FW (oH L) (D.mono ⋯) L.B9 rfl L.B6 (a9 (pv 3) (aM (au (Jc L) L.E2 (a9 (pv 0) (aM (aD f5 (pv 3) (pv 2))))))))) aO))),?_}
 ac_rfl
 refine{_,rfl,_,rfl,_,rfl,x,many,(n:Int),24,g,bw,ss,ls,rfl,B,l,m,f,⋯,⋯,λv I o p=>?_};rw[war]at p;have q:=p
 cases p with
 |none a=>exact{_,rfl,rfl,false,rfl,cq (k (λj u J=>a j u J) I o)}
 |some j a b c d=>
  refine{_,rfl,rfl,true,rfl,eB ?_}
  have hk:(j:Int)*(n:Int)<=100000:=by
   have u:(j:Int)*(n:Int)<=24*6:=Int.mul_le_mul b f.d (by lia) (by lia)
   lia
  have r:0<=(j:Int)*(n:Int):=wgI (by lia) (by lia);have M:((j:Int)*(n:Int)).toNat=j*n:=by rw[<-wb0,war]
  refine{_,rfl,_,rfl,_,rfl,_,rfl,_,_,rfl,rfl,?_,x,(j:Int)*(n:Int),g,bw,ss,ls,rfl,B.same o,l,m,r,hk,λT y=>?_}
  .exact .inl {by lia,by lia}
  rw[M];refine{by show 2<=sizeLine;decide,λe O=>{e,_,_,rfl,{_,rfl,?_},{_,rfl,?_},a7,λt hd=>{rfl,.inr {t,a7,?_}}}}
  .have:=Nat.log2_le_self ((j:Nat):Int).natAbs
   lia
  .exact Cy f b c
  obtain⟨U,z,R⟩:=Ci (o2:=.xd [("length",.int (j:Nat)),("rows",.int (gW g bw ss (j*n) ""))]) (o3:=XD e L.cz t) O hd;rw[R];exact G j t _ q ((o.trans y).trans (a8.upd z)) (none_of (o.trans y) z) a7
theorem Dh(L:Lk K mg):aS P w K mg base (Bj P w) 9 L.yn L.yr ["band","many","wide"] (Jk K L.aA L.aR L.aB L.cz L.oC):=by
 have T:=L.T;refine L.n8.F.Fp (N:=["band","many","wide","weights","sheet","splits","kept","part"]) (λgx A outer s H vs Q E nd hr h=>?_);obtain⟨x,many,n,g,bw,ss,ls,rfl,B,Mx,Rp,E7,J,U,D,k,kS,kO⟩:=h
 refine{_,(a6 (bj (au (gw L) L.fS (a9 (pv 0) (a9 (pv 1) (aM (pv 2))))))
  (a6 (bj (jN (nh L) (hr.mono ⋯) rfl L.dD.g L.dD.F.kp L.dD.b .nil (xH cU) (a9 (pv 0) (a9 (pv 1) (aM (pv 2))))))
  (a6 (ai (i:=3) (au (qy L) L.ju (a9 (pv 0) (a9 (pv 1) (a9 (pv 2) (aM (jN (iZ L) (hr.mono ⋯) rfl L.cp.g L.cp.F.kp L.cp.b .nil (xH cU) (a9 (pv 0) (a9 (pv 1) (aM (pv 2)))))))))))
  (a6 (ai (i:=4) (au (mQ L) L.iX (a9 (pv 0) (a9 (pv 1) (a9 (pv 2) (aM (pv 3)))))))
  (a6 (ai (i:=5) (bY dN))
  (a6 (ai (i:=6) (au (nY L) L.km (a9 (pv 4) (aM (pv 1)))))
  (a6 (j8 whC (d4 hZ (DU T.len (pv 6)) ao) (a6 (ai (i:=7) (au (xg L) L.qm (a9 (pv 4) (aM (pv 1)))))
  (a6 (ai (i:=4) (jN (Jv L) (hr.mono ⋯) rfl L.ue.g L.ue.F.kp L.ue.b .nil (xH cU) (a9 (pv 4) (a9 (pv 1) (a9 (aW eQ (pv 7) ao (λ_ _=>rfl)) (a9 (aW eQ (pv 7) ao (λ_ _=>rfl)) (aM (aW eQ (pv 7) ao (λ_ _=>rfl)))))))))
  (a6 (bj (gB waL waP waT cm (pv 5) (aM (pv 7))))
  (ae (ai (i:=6) (au (nY L) L.km (a9 (pv 4) (aM (pv 1))))))))))
  (ae (ay (mS L.Lr (rq L) (hr.mono ⋯) rfl L.Og L.lq.b .nil oR (a9 (pv 3) (a9 (pv 5) (a9 (pv 6) (aM (pv 4))))))))))))))),?_}
 ac_rfl
 obtain⟨ra,rb,rc,rd,re⟩:=id D
 have JF:g.length^n<=64:=by
  rw[war]at re;have:((g.length^n:Nat):Int)<=64:=by rw[wdT];exact re
  lia
 have nd:ls.Nodup:=B.nd.sublist B.lv.sub;refine{_,rfl,_,rfl,_,rfl,x,many,n,g,bw,ss,ls,rfl,B,J,D,?_};refine{_,rfl,_,rfl,_,rfl,x,many,n,g,bw,ss,ls,rfl,B,J,U,D,λRC H1 s1=>?_,kS};refine{_,rfl,_,rfl,_,rfl,_,rfl,_,rfl,_,rfl,x,many,n,g,bw,ss,ls,rfl,B.same s1,E7,J,U,D,λd f0 H2 s2 fd h2 hL=>?_,λhno H2 s2=>kO RC hno H2 (s1.trans s2)};obtain⟨most,Zg,Zo,hG,_⟩:=id hL.gr;refine{x,d,many,n,f0,g,bw,ss,ls,rfl,B.same (s1.trans s2),Mx,Rp,E7,J,U,D,h2,hG.nn,hG.fit,hL.ps,λdl f H3 k3 V5 h3 Xx Fz Sw hle Vp=>?_};have s3:a8 H H3:=λc o e=>k3 c o (s2 _ _ (s1 _ _ e)) (ag (s1 _ _ e) fd);have X:(ls.map f).sum<=40:=we8 Vp hL.le;refine{_,rfl,_,rfl,_,rfl,_,rfl,x,dl,many,n,cy f ls,f,g,bw,ss,ls,rfl,B.same s3,E7,J,U,D,.inl h3,jP f ls,λy H4 s4 S4=>?_};have S4:=S4.same (bI _ _);have L0:f9 g bw ss ls many n f [] _ _ _:=f9.start Rp B.pm Mx (λp hp=>B.lv.sub.subset hp) nd Xx Fz;refine{waq _,λb hb=>?_};have s5:a8 H4 (upd H4 b (.lst [])):=a8.upd hb;have h5:(upd H4 b (.lst [])) b=some (.lst []):=a7;have o5:a8 H4 (fB (upd H4 b (.lst [])) b):=Ag s5 hb;generalize upd H4 b (.lst [])=H5 at s5 h5 o5;have W0:=L0.whole X JF;generalize av ls f=v at S4 L0 W0;generalize v.map f=C at S4 L0 W0;generalize bD g bw ss ls n v=a at S4 L0 W0;have Ga:a.length<=1000:=by rw[W0.l];exact W0.n
 refine{_,rfl,_,rfl,y,many,v,C,a,rfl,S4.same s5,Ga,λl hl=>by have:=W0.m l hl;lia,λu G H6 s6 I Y hK=>?_};have Vq:u≠b:=λz=>by rw[z,h5]at I;cases I
 refine{λq σ M=>∃(y u:Addr) (v:List Str) (C:List Int) (a:List (List (Str×Nat))) (j:List z4) (r:List V) (G:List Nat) (v7:Option V),q=40-v.length/\σ=[some (.ref x),some (.int many),some (.int (n:Int)),some (.ref dl),some (.ref y),some (.ref b),some (.ref u),v7]/\a8 H M/\M dl=some (.dK (bH (cy f ls)))/\cb K L.aB (fB M b) y v C a/\f9 g bw ss ls many n f j v C a/\M b=some (.lst r)/\bu K (fB M b) (j.map zh) r/\u≠b/\M u=some (.lst ((nI G).map V.int))/\oy a many G,
  {_,y,u,v,C,a,[],[],G,none,rfl,rfl,s3.trans (s4.trans (s5.trans s6)),s6 _ _ (s5 _ _ (s4 _ _ h3)),S4.same (o5.trans (pq s6)),L0,s6 _ _ h5,rfl,Vq,Y,hK},?_}
 clear hK Y Vq I s6 Ga W0 L0 o5 h5 s5 S4;have UH:H b=none:=none_of (s3.trans s4) hb;have QY:dl≠b:=ag (s4 _ _ h3) hb;rintro q σ M ⟨y,u,v,C,a,j,r,G,v7,rfl,rfl,s7,Xy,S7,O,Z,r7,Vq,Vr,hK⟩;have W7:=O.whole X JF;have hlen:=O.len;have zm:=O.b.w;have Ga:a.length<=1000:=by rw[W7.l];exact W7.n
 have LD:r.length=j.length:=by rw[r7.len,wa0]
 have zaq:=O.sl
 by_cases Ri:G=[]
 .subst Ri
  have BU:v≠[]:=λz=>by
   have h1:=O.sm;rw[z]at zm;rw[wbE zm]at h1;have:(0:Int)=(ls.map f).sum:=h1
   lia
  refine{_,rfl,u,_,rfl,.inl (aH.of Vr),rfl,true,Gq _,eB ?_};refine{λσ' H'=>∃(y u:Addr) (R:List Str) (C:List Int) (a:List (List (Str×Nat))) (j:List z4) (r:List V) (G:List Nat) (v7:Option V),R.length=v.length+1/\σ'=[some (.ref x),some (.int many),some (.int (n:Int)),some (.ref dl),some (.ref y),some (.ref b),some (.ref u),v7]/\a8 H H'/\H' dl=some (.dK (bH (cy f ls)))/\cb K L.aB (fB H' b) y R C a/\f9 g bw ss ls many n f j R C a/\H' b=some (.lst r)/\bu K (fB H' b) (j.map zh) r/\u≠b/\H' u=some (.lst ((nI G).map V.int))/\oy a many G,?_,?_}
  .rintro σ' H' ⟨y,u,R,C,a,j,r,G,v7,e1,rfl,s',JH,S',L',IM,r',nk',JC,Vs⟩;have:=L'.len;exact{_,by lia,y,u,R,C,a,j,r,G,v7,rfl,rfl,s',JH,S',L',IM,r',nk',JC,Vs}
  refine{_,rfl,_,rfl,y,many,v,C,a,rfl,S7.same vr,O.b,hK,BU,by lia,λl hl=>by have:=W7.m l hl;lia,by lia,by lia,λt l d ns w H8 s8 fl ft Xz XA ok Jb OT=>?_};have hT:=g8.of (K:=K) Xz;have S8:=(S7.same vr).same s8;refine{_,rfl,_,rfl,_,rfl,t,_,_,_,rfl,rfl,hT,rfl,_,rfl,t,_,_,_,rfl,rfl,hT,rfl,_,rfl,t,_,_,_,rfl,rfl,hT,rfl,y,l,many,(d:Int),w,nI ns,v,C,a,rfl,S8,aH.of XA,by rw[bR];lia,W7,by lia,by lia,.inl {ok,λy' H9 s9 S9=>?_}};rw[war]at S9;have XC:=s8 _ _ Z;have XE:=s9 _ _ XC;have L9:=O.step ok;have W9:=L9.whole X JF;have Vt:(dn a d (nI ns)).length<=1000:=by rw[W9.l];exact W9.n
  have nlb:l≠b:=λz=>by rw[z,Z]at fl;cases fl
  have ntb:t≠b:=λz=>by rw[z,Z]at ft;cases ft
  have r9:bu K (fB H9 b) ((j++[(d,ns,w)]).map zh) (r++[.ref t]):=by
   rw[wai];exact gY (bu.same (pq (s8.trans s9)) _ _ r7) (DT (gg (s9 _ _ Xz) ntb) (gg (s9 _ _ XA) nlb))
  have SM:cb K L.aB (fB H9 b) y' _ _ _:=S9.same (DJ XC);refine{_,rfl,.inl {rfl,_,aH.of XE},_,rfl,b,_,_,rfl,rfl,XE,bg (by lia),?_};have eo:fB (upd H9 b (.lst (r++[.ref t]))) b=fB H9 b:=Kj;rw[<-eo]at r9 SM;have Jo:a8 H (upd H9 b (.lst (r++[.ref t]))):=λc o e=>by rw[af (ag e UH)];exact s9 _ _ (s8 _ _ (s7 _ _ e))
  have XF:(upd H9 b (.lst (r++[.ref t]))) dl=some (.dK (bH (cy f ls))):=by rw[af QY];exact s9 _ _ (s8 _ _ Xy)
  have Vu:(upd H9 b (.lst (r++[.ref t]))) b=some (.lst (r++[.ref t])):=a7;generalize upd H9 b (.lst (r++[.ref t]))=LA at Jo XF Vu r9 SM;refine{_,rfl,_,rfl,y',many,_,_,_,rfl,SM.same vr,Vt,λl hl=>by have:=W9.m l hl;lia,λkl' ks' Gd S I Y Vs=>?_};refine{y',kl',_,_,_,j++[(d,ns,w)],r++[.ref t],ks',_,?_,rfl,Jo.trans S,S _ _ XF,SM.same (pq S),L9,S _ _ Vu,bu.same (pq S) _ _ r9,(λz=>by rw[z,Vu]at I;cases I),Y,Vs};unfold cQ;rw[wa5];rfl
 .refine{_,rfl,u,_,rfl,.inl (aH.of Vr),rfl,false,congrArg V.bl (decide_eq_false λz=>Ri (wbE (by have:=V.int.inj z;rw[wa0,bR]at this;lia))),cq ?_};refine{_,rfl,_,rfl,_,rfl,_,rfl,?_};intro z dz nz SN XG;have sm:a8 M (upd (upd M dz (.own z)) z (.ins L.aR dz [])):=fm nz SN;refine{z,dz,dl,y,.ref b,.ref u,cy f ls,j,G,v,C,a,rfl,a7,.inl (sm _ _ Xy),{b,r,rfl,.inl (sm _ _ Z),bu.same (vr.trans sm) _ _ r7},jg (sm _ _ Vr),(S7.same vr).same sm,by lia,by lia,by lia,λl hl=>by have:=W7.m l hl;lia,by lia,λa' b' c' y' H8 h8 fa h8a r8 r8c S8 kp8=>{rfl,?_}};have s8:a8 M H8:=λc o e=>kp8 _ _ (sm _ _ e) (ag e nz);have nw:a8 (aL (upd (upd M dz (.own z)) z (.ins L.aR dz [])) H8) (aL H H8):=eF (s7.trans sm);refine k RC z f0 f j G v C a H8 (s7.trans s8) {dz,a',b',c',y',bT (none_of s7 nz) h8,bT (none_of (s7.trans sm) fa) h8a,bK.same nw _ _ r8,bK.same nw _ _ r8c,S8.same nw} hL hle {Xx,λp hp=>?_,Fz,Sw,X,O.rn,O.b,O.cv,by lia,hK,Ri,by lia,O.sb};have h1:=hle p hp;have h2:=hG.le p hp
  lia
theorem oI(L:Lk K mg):aS P w K mg base (Bj P w) 10 L.fP L.iL ["self","band","many","wide"] (G5 K L.ak L.aA L.aR L.aB L.cz L.oC):=by
 refine L.iR.F.Fp (N:=["self","band","many","wide","sheet","kept","found"]) (λgx A outer s H vs Q E nd hr h=>?_);obtain⟨x,a,j,many,n,g,bw,ss,ls,rfl,hx,B,Mx,Mz,hes,Rp,E7,E6,E5,Je,k,kS,kO⟩:=h
 refine{_,(a6 (d1 (pv 0) (jN (Dh L) (hr.mono ⋯) rfl L.n8.g L.n8.F.kp L.n8.b .nil (xH cU) (a9 (pv 1) (a9 (pv 2) (aM (pv 3))))) rfl)
  (a6 (d1 (pv 0) (pv 1) rfl)
  (a6 (d1 (pv 0) (pv 2) rfl)
  (a6 (d1 (pv 0) (pv 3) rfl)
  (a6 (ai (i:=4) (ie (aC (pv 0) rfl) L.dE.cl L.qt (wZ L)))
  (a6 (ai (i:=5) (aC (aC (pv 0) rfl) rfl))
  (a6 (d1 (pv 0) (cn rfl (aw ["sheet"] [4]) (aP (pv 5)) (λ_ _ _ _ _ _=>b8) (λ_ _ _ _ _ _=>(aW (fE (K:=K) rfl) (mU (K:=K) rfl (pv 1) rfl) (pv 0) (λ_ _=>rfl)))) rfl)
  (a6 (d1 (pv 0) (cn rfl (aw ["sheet","kept","many"] [4,5,2]) (aP (pv 5)) (λ_ _ _ _ _ _=>b8) (λ_ _ _ _ _ _=>(au (jz L) L.fT (a9 (aW (fE (K:=K) rfl) (mU (K:=K) rfl (pv 1) rfl) (pv 0) (λ_ _=>rfl)) (a9 (pv 2) (aM (pv 3))))))) rfl)
  (a6 (ai (i:=6) (au (yx L) L.vW (a9 (aC (pv 0) rfl) (a9 ao (aM (aD BK (bY (aM ao)) (ie (pv 0) L.aj.cl L.cx (cJ L))))))))
  (a6 (d1 (pv 0) (aW eQ (pv 6) ao (λ_ _=>rfl)) rfl)
  (ae (d1 (pv 0) (aW eQ (pv 6) ao (λ_ _=>rfl)) rfl)))))))))))),?_}
 ac_rfl
 obtain⟨ra,rb,rc,rd,re⟩:=id Je
 have nxb:j≠x:=λz=>by
  obtain⟨dx',b,d,q,mv,h1,_⟩:=id B.ex;rw[z,hx]at h1;have:=waf h1;injection this with _ _ q2
  cases q2
 refine{_,rfl,_,rfl,_,rfl,j,many,n,g,bw,ss,ls,rfl,B,λw hw=>(Mx w hw).1,Rp,E7,E6,E5,Je,λRC p f0 f qB C S ws r H1 s1 P1 hL hle D=>?_,kS,kO};have W0:=Rh (n:=n) D.ko D.ne (show 0<=many by lia) (D.cv.word D.b.l (λq J=>B.lv.sub.subset (D.sb q J)) hes);have P1':=P1.same (bI _ _);have zaB:=D.ln;have hwL:=D.b.w;have TN:=D.b.l
 have JF:g.length^n<=64:=by
  rw[war]at re;have:((g.length^n:Nat):Int)<=64:=by rw[wdT];exact re
  lia
 have RB:∀l∈r,l.length<=10000:=λl hm=>by
  have h1:=D.cv.line D.b.l (b:=64) (λp=>wal (gm g bw ss ls n p) JF) l hm;have h2:64*S.length<=64*40:=wcd _ (by lia)
  lia
 have Wd:C.length<=40:=by have:=D.ko.ab.sub.length_le;rw[waJ]at this;lia
 have XH:∀d∈C,d<r.length:=λd hd=>(D.ko.st d hd).1;refine{_,rfl,x,L.ak,a,[],rfl,s1 _ _ hx,L.aj.cl,L.aj.pz,(show 0<1000 by decide),?_};rw[Qs];refine{_,rfl,_,rfl,x,L.ak,a,_,rfl,a7,L.aj.cl,L.aj.vE,(show 1<1000 by decide),?_};rw[Qt];refine{_,rfl,_,rfl,x,L.ak,a,_,rfl,a7,L.aj.cl,L.aj.IX,(show 2<1000 by decide),?_};rw[Qu];refine{_,rfl,_,rfl,x,L.ak,a,_,rfl,a7,L.aj.cl,L.aj.rj,(show 3<1000 by decide),?_};rw[Qv];have x2:(upd (upd (upd (upd H1 x (.ins L.ak a (Nv p))) x (.ins L.ak a (OH p j))) x (.ins L.ak a (Nw p j many))) x (.ins L.ak a (Mj p j many (n:Int)))) x=some (.ins L.ak a (Mj p j many (n:Int))):=a7;have k2:∀c o,H1 c=some o->c≠x->(upd (upd (upd (upd H1 x (.ins L.ak a (Nv p))) x (.ins L.ak a (OH p j))) x (.ins L.ak a (Nw p j many))) x (.ins L.ak a (Mj p j many (n:Int)))) c=some o:=λc o e hc=>by rw[af hc,af hc,af hc,af hc];exact e
 generalize upd (upd (upd (upd H1 x (.ins L.ak a (Nv p))) x (.ins L.ak a (OH p j))) x (.ins L.ak a (Nw p j many))) x (.ins L.ak a (Mj p j many (n:Int)))=H2 at x2 k2;have Vv:∀c o,H c=some o->c≠x->H2 c=some o:=λc o e hc=>k2 c o (s1 _ _ e) hc;have n2:a8 (aL H H1) (aL H H2):=bL hx k2;have P2:=P1.same (n2.trans (bI _ _));obtain⟨dp,wa,wb,T,wz,Rr,_,_,rc2,_⟩:=id P2;refine{_,rfl,x,L.ak,a,_,_,rfl,x2,L.aj.cl,L.aj.pz,p6 p j many n,p,dp,_,rfl,Rr,i7 (by show ("sheet":Str)∉[("weights":Str),"splits","kept","last"];decide+kernel),p,cy f ls,qB,C,S,ws,r,rfl,P2,by lia,by lia,by lia,RB,λy H3 s3 S3=>?_};have x3:=s3 _ _ x2;refine{_,rfl,x,L.ak,a,_,_,rfl,x3,L.aj.cl,L.aj.pz,p6 p j many n,p,L.aR,dp,_,_,rfl,s3 _ _ Rr,L.dE.cl,L.dE.HN,C8 wa wb T wz,?_}
 have SD:aH K H3 T ((nI C).map V.int):=by
  obtain⟨c',e,h⟩:=ia (bK.same s3 _ _ rc2);cases e;exact h
 have S3':=S3.same (bI _ _);obtain⟨dy,ah,XI,cl,hy,rh,rwt,rl⟩:=id S3';have hh:=ub rh;obtain⟨R9,xs,ec,hc,zL⟩:=id rl;cases ec;refine{_,rfl,T,rfl,{_,SD},λm P5=>?_};refine dJ (λ_=>true) (λv=>match v with |.int d=>.str (S.getD d.toNat "") |_=>.non) (aK K T _) P5 (aq (by rw[wa0,bR];lia)) (λH' s'=>s'.seq SD) (λv H8 Q' hy s8 qq=>qq H8 (a8.refl _)) (λv H4 Q' hv _ M qq=>?_) (λH4 M h4=>?_)
 .obtain⟨n',Bk,rfl⟩:=vc hv;have U:n'<S.length:=by rw[<-TN];exact XH n' Bk
  exact{_,rfl,y,L.aB,dy,_,_,rfl,M _ _ hy,L.az.cl,L.az.fM,fj ah XI cl,_,rfl,ah,_,_,_,rfl,rfl,M.seq (.inl hh),bz (v:=.str (S.getD n' "")) (by rw[wa3,wa1 U,wa4,wa1 U];rfl),qq H4 (a8.refl _)}
 have e4:(((nI C).map V.int).filter λ_=>true).map (λv=>match v with |.int d=>V.str (S.getD d.toNat "") |_=>.non)=(C.map λd=>S.getD d "").map V.str:=by
  rw[wb1.mpr (λ_ _=>rfl)];unfold nI;rw[wah,wah,wah];rfl
 rw[e4]at h4;have X:m≠x:=wbx (ag x3 P5);refine{_,rfl,x,L.ak,a,_,rfl,M _ _ x3,L.aj.cl,L.aj.fM,(show 4<1000 by decide),?_};rw[Qw];have x5:(upd H4 x (.ins L.ak a (Ml p j many (n:Int) m))) x=some (.ins L.ak a (Ml p j many (n:Int) m)):=a7;have k5:∀c o,H4 c=some o->c≠x->(upd H4 x (.ins L.ak a (Ml p j many (n:Int) m))) c=some o:=λc o e hc=>by rw[af hc];exact e
 generalize upd H4 x (.ins L.ak a (Ml p j many (n:Int) m))=H5 at x5 k5;have x4:=M _ _ x3
 have nyx:y≠x:=λz=>by
  obtain⟨_,_,_,_,h,_⟩:=id S3;rw[z]at h;unfold aL at h;rw[x2]at h;cases h
 have Oq:aH K H5 T ((nI C).map V.int):=(eX k5).seq (yE x4 (M.seq SD));have UN:=k5 _ _ (M _ _ hy) nyx;have rl5:bK K H5 (jY r) (.ref cl):=bK.same (eX k5) _ _ (bK.off x4 _ _ (bK.same M _ _ rl));obtain⟨Xk,xs5,ec5,hc5,Vw⟩:=id rl5;cases ec5;refine{_,rfl,T,rfl,{_,Oq},λu CL=>?_};refine vD (K:=K) ((f7 r C many.toNat).map bV) (aK K T _) CL (aq (by rw[wa0,bR];lia)) (by unfold f7;rw[wa0,wa0,wa0,bR]) (λH' s'=>s'.seq Oq) (λi v dd H6 Q' hv P0 Y qq=>?_) (λH6 Y r6=>?_)
 .have hi:i<C.length:=by have:=(wa6.mp hv).1;rwa[wa0,bR]at this
  rw[yX (wa1 hi)]at hv;cases hv;unfold f7 at P0;rw[wa3,wa3,wa1 hi]at P0;cases P0;have Jb:=XH _ (waK hi);generalize C[i]=d at qq Jb;have J:=bM Jb;obtain⟨v',Oh,rd'⟩:=Vw.at (i:=d) (d:=bV (r.getD d [])) (by rw[wa3,J];rfl);exact{_,rfl,y,L.aB,dy,_,_,rfl,Y _ _ UN,L.az.cl,L.az.cP,bO ah XI cl,_,rfl,cl,xs5,_,_,rfl,rfl,Y.seq (.inl hc5),bz Oh,_,rfl,_,rfl,v',T,many,C,r.getD d [],rfl,bK.same Y _ _ rd',Y.seq Oq,by lia,RB _ (wa8 J),by lia,λz O s7 r7=>qq z O s7 r7}
 have x6:=Y _ _ x5;refine{_,rfl,x,L.ak,a,_,rfl,x6,L.aj.cl,L.aj.cP,(show 5<1000 by decide),?_};rw[Qx];have x7:(upd H6 x (.ins L.ak a (Hu p j many (n:Int) m u))) x=some (.ins L.ak a (Hu p j many (n:Int) m u)):=a7;have k7:∀c o,H6 c=some o->c≠x->(upd H6 x (.ins L.ak a (Hu p j many (n:Int) m u))) c=some o:=λc o e hc=>by rw[af hc];exact e
 generalize upd H6 x (.ins L.ak a (Hu p j many (n:Int) m u))=O at x7 k7;have XJ:∀c o,H c=some o->c≠x->H5 c=some o:=λc o e hc=>k5 _ _ (M _ _ (s3 _ _ (Vv c o e hc))) hc;have kH7:∀c o,H c=some o->c≠x->O c=some o:=λc o e hc=>k7 _ _ (Y _ _ (XJ c o e hc)) hc;have r7:bK K O (jY (f7 r C many.toNat)) (.ref u):=bK.same ((DJ x5).trans (eX k7)) _ _ r6;have B7:b4 L.aA O j g bw ss ls:=(Jf B hx nxb).same (eX kH7);refine{_,rfl,x,L.ak,a,_,_,rfl,x7,L.aj.cl,L.aj.cP,Ai p j m u many n,by show 1<=sizeLine;decide,λl0 Jd=>?_};have s8:=a8.upd (H:=O) (o:=.lst [V.int 0]) Jd;have h8:(upd O l0 (.lst [V.int 0])) l0=some (.lst [V.int 0]):=a7;generalize upd O l0 (.lst [V.int 0])=H8 at s8 h8;have x8:=s8 _ _ x7;refine{_,rfl,x,a,_,rfl,x8,z7 p j m u many n,x,j,a,_,n,g,bw,ss,ls,rfl,x8,Ca p j m u many n,Cb p j m u many n,B7.same s8,by lia,by lia,λw hw=>(Mx w hw).2,Mz,λb H9 s9 hb=>?_};have hb1:=hb.le;refine{l0,(b:Int),[V.int 0],rfl,rfl,s9 _ _ h8,by lia,by lia,aq (by show 1*((b:Int)).toNat<=_;lia),λpr Vx=>?_};rw[war,vh];have Jo:=a8.upd (H:=H9) (o:=.lst ((nI (waj b 0)).map V.int)) Vx;have LK:(upd H9 pr (.lst ((nI (waj b 0)).map V.int))) pr=some (.lst ((nI (waj b 0)).map V.int)):=a7;generalize upd H9 pr (.lst ((nI (waj b 0)).map V.int))=LA at Jo LK;have Z:=s8.trans (s9.trans Jo);refine{.ref u,0,pr,many,n,f7 r C many.toNat,waj b 0,rfl,bK.same Z _ _ r7,aH.of LK,W0,wc1.mpr W0.ne,λt ht=>by rw[(wdo.mp ht).2];lia,by rw[waN];lia,by lia,λq R Ou J=>?_};have RD:=Z.trans Ou;have XM:=RD _ _ x7;have Ux:q≠x:=λz=>by rw[z,XM]at J;cases J
 generalize hwk:cH (f7 r C many.toNat) 0 (waj b 0)=G at J;refine{_,rfl,q,_,_,_,rfl,rfl,g8.of J,rfl,_,rfl,x,L.ak,a,_,rfl,XM,L.aj.cl,L.aj.rk,(show 6<1000 by decide),?_};rw[Qy];refine{_,rfl,q,_,_,_,rfl,rfl,g8.of (by rw[af Ux];exact J),rfl,_,rfl,x,L.ak,a,_,rfl,a7,L.aj.cl,L.aj.DV,(show 7<1000 by decide),?_};rw[QO];have Vy:(upd (upd R x (.ins L.ak a (OI p j many (n:Int) m u G.1))) x (.ins L.ak a (lY p j many (n:Int) m u G.1 (G.2:Int)))) x=some (.ins L.ak a (lY p j many (n:Int) m u G.1 (G.2:Int))):=a7;have XO:∀c o,R c=some o->c≠x->(upd (upd R x (.ins L.ak a (OI p j many (n:Int) m u G.1))) x (.ins L.ak a (lY p j many (n:Int) m u G.1 (G.2:Int)))) c=some o:=λc o e hc=>by rw[af hc,af hc];exact e
 generalize upd (upd R x (.ins L.ak a (OI p j many (n:Int) m u G.1))) x (.ins L.ak a (lY p j many (n:Int) m u G.1 (G.2:Int)))=I at Vy XO;have RE:∀c o,O c=some o->c≠x->I c=some o:=λc o e hc=>XO _ _ (RD _ _ e) hc;have Vz:∀c o,H5 c=some o->c≠x->I c=some o:=λc o e hc=>RE _ _ (k7 _ _ (Y _ _ e) hc) hc;have RF:∀c o,H4 c=some o->c≠x->I c=some o:=λc o e hc=>Vz _ _ (k5 _ _ e hc) hc;have RG:∀c o,H2 c=some o->c≠x->I c=some o:=λc o e hc=>RF _ _ (M _ _ (s3 _ _ e)) hc
 have fla:H m=none:=by
  cases e:H m with
  |none=>rfl
  |some o=>have:=s3 _ _ (Vv m o e X);rw[P5]at this;cases this
 have m5:∀c o,H c=some o->∃o',H5 c=some o':=λc o e=>by
  by_cases z:c=x
  .rw[z];exact{_,x5}
  .exact{o,XJ c o e z}
 rw[<-hwk]at Vy;refine k RC p m u f0 f qB C S ws r b I (λc o e hc=>RG _ _ (Vv c o e hc) hc) Vy (P1.same (n2.trans (bL hx RG))) (pk (bT fla (RF _ _ h4 X))) (bK.same ((C9 m5).trans (bL hx λc o e hc=>RE _ _ (k7 _ _ e hc) hc)) _ _ r6) hL hle D W0 hb
theorem zK(L:Lk K mg):aS P w K mg base cO 12 L.sH L.sW ["_law_signs","_law_words","_law_many","_law_wide"] (LC K L.ak L.aA L.aR L.aB):=by
 refine L.tj.F.d8 (N:=["_law_signs","_law_words","_law_many","_law_wide","_law_told_here"]) (λY A outer s H vs Q E nd T h=>?_);obtain⟨g,a,many,n,bw,rfl,Z,q,m,d,v,k⟩:=h
 refine{_,(a6 (ai (i:=4) fC)
  (a6 (Li ⟨rfl,rfl⟩ (Hh (KC (i:=4) nd rfl (we1 rfl) (Ig L.FU (oI L) (T.mono ⋯) rfl L.J8 L.iR.b (a9 (mS L.Lq (ro L) (T.mono ⋯) rfl L.Of L.kY.b .nil oR (a9 (pv 0) (aM (pv 1)))) (a9 (pv 2) (aM (pv 3))))))) rfl L.B6 rfl L.D5 L.iz L.zy (L.iz.ne L.zy ∅) (L.iz.neT L.XT ∅) nd (i:=4) rfl (we1 rfl))
  (ae (ay (pv 4))))),?_}
 ac_rfl
 have g2:=q.lo;have g4:=q.hi;have w1:∀w∈bw,1<=w.length/\w.length<=900:=λw h=>{(d w h).lo,by have:=(d w h).hi;lia};refine{_,rfl,_,rfl,λy z l j U=>?_};refine{y,z,g,a,bw,rfl,a7,(fm l j).seq Z,q,m,d,λss ls r t B=>{rfl,?_}};have C:a8 H r:=λb o e=>B b o (fm l j _ _ e) (ag e l);have E5:ss.length<=25:=t.few m d;have D:("":Str)∈ss:=t.pm.mem_iff.mpr ((iV _).mpr (.inl rfl));refine{_,rfl,_,rfl,λx u nx G nex=>?_};have sm:a8 r (upd (upd r u (.own x)) x (.ins L.ak u [])):=fm nx G;refine{x,u,y,many,n,g,bw,ss,ls,rfl,a7,t.same sm,w1,by lia,D,q.nd,g2,by lia,by lia,v,λI p la ll f0 f J ks hs ws M b V k2 x2 P2 r2 l2 hL O hP W0 hB=>{rfl,?_},?_,?_}
 .have X:a8 r V:=λc o e=>k2 _ _ (sm _ _ e) (ag e nx);refine{_,rfl,k _ V (C.trans X) (.inr {x,rfl,y,ss,ls,f0,f,J,ks,hs,ws,M,b,t.same X,{u,p,la,ll,x2,P2.same (bI _ _),bK.same (bI _ _) _ _ r2,bK.same (bI _ _) _ _ l2},I,hL,O,hP,W0,hB})}
 .exact λk' d' R _ S _ _=>{.inl rfl,_,rfl,k .non R (C.trans (sm.trans S)) (.inl rfl)}
 .exact λ_ _ R S=>{.inr rfl,_,rfl,k .non R (C.trans (sm.trans S)) (.inl rfl)}
theorem Oz{f:Addr}{fd:wbw}(L:Lk K mg)(F:zS K "law" "law" (top 94) f fd):aS P w K mg base cO 13 f fd ["_law_script"] (DK K):=by
 have T:=L.T;refine F.d8 (N:=["_law_script","_law_signs","_law_words","_law_many","_law_wide","_law_told_here","_law_reader","_law_windows","_law_dues","_law_window_here","_law_due_here"]) (λgx A outer s H vs Q E nd hr h=>?_);obtain⟨a,ns,rfl,hS,hlen,k⟩:=h
 refine{_,(a6 (uB (au (zI L) L.t9 (aM (pv 0))) (dm rfl (aN (ax (i:=1)) (aN (ax (i:=2)) cA))))
  (a6 (uB (au (zJ L) L.tf (a9 (pv 0) (aM (pv 1)))) (dm rfl (aN (ax (i:=3)) (aN (ax (i:=4)) cA))))
  (a6 (ai (i:=5) (au (zK L) L.tj (a9 (pv 1) (a9 (pv 2) (a9 (pv 3) (aM (pv 4)))))))
  (a6 (bA (d4 By (pv 5) fC) (ae (ay gz)) aO)
  (a6 (ai (i:=6) (mS L.FT (oG L) (hr.mono ⋯) rfl L.J7 L.iO.b .nil oR (aM (pv 5))))
  (a6 (cZ (i:=7) rfl (aw ["_law_told_here","_law_signs","_law_many","_law_wide"] [5,1,3,4]) nd rfl rfl (aP (b6 fZ (pv 0) (aV ao) (aV ao))) (λ_ _ _ _ _ _=>b8) (λ_ _ _ _ _ _=>(au (wm L) L.nU (a9 (pv 1) (a9 (pv 2) (a9 (pv 0) (a9 (pv 3) (aM (pv 4)))))))))
  (a6 (cZ (i:=8) rfl (aw ["_law_told_here","_law_words","_law_wide"] [5,2,4]) nd rfl rfl (aP (pv 7)) (λ_ _ _ _ _ _=>b8) (λ_ _ _ _ _ _=>(au (Be L) L.vX (a9 (pv 1) (a9 (pv 0) (a9 (pv 2) (aM (pv 3))))))))
  (a6 (forA (Ot (by rfl) T.zip (a9 (aD yQ (pv 7) (b6 fZ (pv 7) cB (aV ao))) (aM (aD yQ (pv 8) (b6 fZ (pv 8) cB (aV ao)))))) (dm rfl (aN (ax (i:=9)) (aN (ax (i:=10)) cA))) (ae (bA (eh (cC (au (zF L) L.tD (a9 (yi (pv 6) L.aG.cl L.jv (qx L) (aM (pv 9))) (aM (pv 10)))))) (ae (ay gz)) aO)))
  (ae (ay gz)))))))))),?_}
 ac_rfl
 refine nc λR1 c1=>?_;refine{_,rfl,a,ns,rfl,hS,λpt M g ws H1 s1 fpt flw hpt MA sg Sh t=>?_};have g2:=sg.lo;have g4:=sg.hi;refine{pt,_,rfl,g8.of hpt,rfl,_,_,rfl,_,_,rfl,rfl,?_};refine c1 _ _ (nc λR2 c2=>?_);refine{_,rfl,_,rfl,a,ns,g,rfl,s1.seq hS,g2,g4,λpr many wide H2 s2 fpr Vx Je=>?_};refine{pr,_,rfl,g8.of Vx,rfl,_,_,rfl,_,_,rfl,rfl,?_};refine c2 _ _ (nc λR3 c3=>?_);obtain⟨ra,rb,rc,rd,re⟩:=id Je;obtain⟨wd,rfl⟩:∃w:Nat,wide=(w:Int):={wide.toNat,by lia};have JG:=s1.trans s2;refine{_,rfl,_,rfl,_,rfl,_,rfl,g,M,many,wd,ws,rfl,aH.of (s2 _ _ MA),sg,Sh,t,Je,λv H3 s3 hv=>?_};have wu:=JG.trans s3;refine c3 _ _ (nc λR4 c4=>?_);rcases hv with rfl |⟨x,rfl,hT⟩
 .exact{_,rfl,rfl,true,rfl,eB (k H3)}
 refine{_,rfl,rfl,false,rfl,cq ?_};refine c4 _ _ (nc λR5 c5=>?_)
 obtain⟨R,Wv,rfl,rfl,rfl,rfl,VA⟩:∃R:Wr,ng K L.ak L.aA L.aR H3 x R/\many=R.many/\wd=R.n/\g=R.g/\ws=R.bw/\R.c<=40:=by
  obtain⟨xb,ss,ls,f0,f,qB,ks,hs,wss,lns,b,B,Wv,RC,hL,hle,hP,W0,hB⟩:=hT;exact{_,Lw B Wv hP W0 hB sg.nd (λw h=>{(t w h).lo,by have:=(t w h).hi;lia}) (by lia) (by lia) (by lia) rb (by lia) (by lia),rfl,rfl,rfl,rfl,hP.sl}
 have ok:=Wv.ok;refine{_,rfl,λz dz nz SN XG=>?_};have sm:a8 H3 (upd (upd H3 dz (.own z)) z (.ins L.aQ dz [])):=fm nz SN;refine{z,dz,x,R,rfl,a7,Wv.same (Ag sm nz),λH4 kp D4=>{rfl,?_}};have s4:a8 H3 H4:=λc o e=>kp _ _ (sm _ _ e) (ag e nz);clear kp sm nz SN XG;have W4:=Wv.same s4;have MC:=wu.trans s4;obtain⟨⟨dx,p,xb',aa,ll,dp,wa,wb,wc,wz,ys,hx,_⟩,_⟩:=id W4;obtain⟨dz',x',a',hz,_⟩:=id D4;have n1:=ok.n1;have oE:=ok.oE;have b1:=ok.b1;have c1':=ok.c1;have w5:∀w∈R.bw,w.length<=5:=λw h=>(t w h).hi;have WD:=Mr ok.bh w5 n1;have hnc:R.n*R.c<=10*40:=wby oE VA;have O:R.n*(R.b+1+R.c)<=1000:=by rw[wci,wci];lia
 clear hT Wv;refine c5 (KA R a M x z none none none none) _ (nc λR6 c6=>?_);obtain⟨ms,em,Sr⟩:=Bh ns (some 5) (some 35);refine{_,rfl,_,rfl,_,rfl,a,_,rfl,MC.seq hS,?_};rw[em];refine λla P5=>{la,rfl,{_,aH.of a7},λlv S=>?_};have C:=a8.upd (H:=H4) (o:=.lst (ms.map V.int)) P5;have g1:(upd H4 la (.lst (ms.map V.int))) la=some (.lst (ms.map V.int)):=a7;generalize upd H4 la (.lst (ms.map V.int))=H5 at S C g1;refine uF (λy=>∃s,y=.str s/\EX R s) (aK K la (ms.map V.int)) S (by rw[wa0];exact aq (by lia)) (λH' s'=>aH.of (s' _ _ g1)) (λy H7 Q' U s7 q=>?_) (λys7 H7 s7 OX XQ h7=>?_)
 .obtain⟨c,_,rfl⟩:=wab.mp U;exact{_,rfl,_,rfl,_,rfl,_,rfl,_,rfl,x,R,c,rfl,W4.same (C.trans s7),by lia,ra,O,λs H8 s8 w8=>q _ H8 ⟨s,rfl,w8⟩ s8}
 obtain⟨d,rfl,Ol⟩:=tU XQ;rw[wa0,wa0]at OX;have X:=C.trans s7;clear C g1 P5 S XQ s7;refine c6 (KA R a M x z (some (.ref lv)) none none none) _ (nc λR7 c7=>?_);have hw4:aH K H7 M (R.bw.map V.str):=aH.of ((s2.trans (s3.trans (s4.trans X))) _ _ MA);refine{_,rfl,lv,rfl,{_,aH.of h7},λld SG=>?_};refine uH (λi y H'=>∃(b:Addr) (G:List Nat) (s:Str),y=.ref b/\b≠ld/\H' b=some (.lst ((nI G).map V.int))/\d[i]?=some s/\Ia R s G) (λi y H1 H2 ys r Y kp=>?_) (aK K lv (d.map V.str)) SG (by rw[wa0];exact aq (by lia)) (λH' s'=>aH.of (s' _ _ h7)) (λi y H8 ys8 Q' U s8 h8 q=>?_) (λl H9 s9 h9 Rx hR9=>?_)
 .obtain⟨b,G,s,e1,e2,e3,e4⟩:=r;exact{b,G,s,e1,e2,kp _ _ e3 e2,e4}
 .obtain⟨s,hs,rfl⟩:∃s,d[i]?=some s/\y=.str s:=by
   rw[wa3]at U
   cases e:d[i]? with
   |none=>rw[e]at U;cases U
   |some s=>rw[e]at U;exact{s,rfl,(waf U).symm}
  obtain⟨bs,w,us,rfl,hu,hb,hc⟩:=(Ol s (wa8 hs)).cut;refine{_,rfl,_,rfl,_,rfl,_,rfl,x,M,R,bs,w,us,rfl,W4.same (X.trans s8),s8.seq hw4,λu h=>(hu u h).1,hb,hc,w5,by lia,λy G H9 s9 n9 h9 hm dl=>?_};exact q _ H9 s9 {y,G,_,rfl,(λz=>by rw[z,h8]at n9;cases n9),h9,hs,⟨bs,w,us,rfl,hu,hb,hc,hm⟩,dl}
 rw[wa0]at Rx;have s49:=X.trans s9;refine c7 (KA R a M x z (some (.ref lv)) (some (.ref ld)) none none) _ (nc λR8 c8=>?_);clear c5 c6 c7;have Sv:=s9 _ _ h7;refine{_,rfl,_,rfl,_,rfl,lv,_,rfl,aH.of Sv,?_};rw[Ed];refine λl1 Y=>?_;have C:=a8.upd (H:=H9) (o:=.lst ((d.map V.str).take 1)) Y;have g1:(upd H9 l1 (.lst ((d.map V.str).take 1))) l1=some (.lst ((d.map V.str).take 1)):=a7;generalize upd H9 l1 (.lst ((d.map V.str).take 1))=Z at C g1;refine{lv,l1,_,_,rfl,rfl,C _ _ Sv,g1,aq (by rw[wad,wa0];lia),λl2 OV=>?_};have t2:=C.trans (a8.upd (H:=Z) (o:=.lst (d.map V.str++(d.map V.str).take 1)) OV);have g2:(upd Z l2 (.lst (d.map V.str++(d.map V.str).take 1))) l2=some (.lst (d.map V.str++(d.map V.str).take 1)):=a7;generalize upd Z l2 (.lst (d.map V.str++(d.map V.str).take 1))=Gd at t2 g2;refine{_,rfl,_,rfl,_,rfl,ld,_,rfl,aH.of (t2 _ _ h9),?_};rw[Ed];refine λl3 G8=>?_;have t3:=a8.upd (H:=Gd) (o:=.lst (l.take 1)) G8;have g3:(upd Gd l3 (.lst (l.take 1))) l3=some (.lst (l.take 1)):=a7;generalize upd Gd l3 (.lst (l.take 1))=Jp at t3 g3;refine{ld,l3,_,_,rfl,rfl,t3 _ _ (t2 _ _ h9),g3,aq (by rw[wad];lia),λl4 XR=>?_};have t4:=t3.trans (a8.upd (H:=Jp) (o:=.lst (l++l.take 1)) XR);have g4:(upd Jp l4 (.lst (l++l.take 1))) l4=some (.lst (l++l.take 1)):=a7;generalize upd Jp l4 (.lst (l++l.take 1))=SK at t4 g4;have XS:=t4 _ _ g2;have I:=t2.trans t4;have VB:=s49.trans I;clear C t2 t3 t4 g1 g3 Y OV G8 XR;have el:(d.map V.str).length=l.length:=by rw[wa0];exact Rx.symm
 refine{l2,l4,_,_,rfl,aH.of XS,aH.of g4,L5 (K:=K) (by rw[wa5,wa5,wad,wad,el]) (NT R a M x z (some (.ref lv)) (some (.ref ld)) SK) {a8.refl _,none,none,rfl} (λi σ H' _ q=>{aH.of (q.s _ _ XS),aH.of (q.s _ _ g4)}) ?_ ?_}
 .rintro i y1 y2 σ D T hy1 hy2 ⟨XU,v9,v10,rfl⟩ hT;obtain⟨j,j1,j2⟩:=O9 el hy1 hy2;obtain⟨b,G,s,rfl,_,hb9,hs,⟨bs,w,us,rfl,hu,hb,hc,hm⟩,dl⟩:=hR9 j y2 j2;rw[wa3,hs]at j1;obtain rfl:=waf j1;have SA:=a8.upd (H:=D) (o:=.tup [V.str (cat (bs++w::us)),.ref b]) hT;refine{T,_,rfl,g8.of a7,rfl,_,_,rfl,_,_,rfl,rfl,?_};generalize upd D T (.tup [V.str (cat (bs++w::us)),.ref b])=H15 at SA;have m:=XU.trans SA;have J:=VB.trans m;refine{_,rfl,z,dz',_,rfl,J _ _ hz,i7 (by show ("word_of":Str)∉[("writer":Str),"pairs"];decide+kernel),_,rfl,z,R,bs,w,us,rfl,D4.same J,hu,hb,hc,λH16 XV=>?_};refine{_,rfl,_,b,G,rfl,aH.of (XV _ _ (m _ _ (I _ _ hb9))),dl,Ia.v ok hc hm,λH17 s17=>{true,rfl,cq {m.trans (XV.trans s17),_,_,rfl}}}
 .rintro σ D ⟨XU,v9,v10,rfl⟩;exact c8 _ _ (k D)
end
end K51
end
namespace K51
open PySem PySem.W L2 Bs Sx
theorem nz{K:Frag}{mg:Str->Option Value}{hp:Heap}{x:Str}(X:K.In hp)(G:hp.Ns wb2 mg)(a:nsIn K wb2 x=some none:=by k_is):mg x=none:=mg_none_of X G a
theorem na{K:Frag}{C:Addr}{f:Str}(a:findIn K (.ref C) f=some none:=by k_is):bQ K C f:=a
theorem fnA{K:Frag}{mg:Str->Option Value}{hp:Heap}{f:Addr}{oc:Value}{od an:Option Addr}{Go:Array (Option Value)}{kV doc pm gx ct:Value}{nm:Str}{st:Stmt}{ps:List Str}(X:K.In hp)(G:hp.Ns wb2 mg)(a:nsIn K wb2 nm=some (some (.ref f)):=by k_is)(l:K.lookup f=some ⟨oc,od,.func (fnOf nm nm (dj st) (c9 st) (aJ st) .none kV doc pm an gx ct),Go⟩:=by k_is)(c:codeIn K gx nm=true:=by k_is)(k:keepIn K (.ref f)=true:=by k_is)(b:∀(kV doc pm:Value) (an:Option Addr) (gx ct:Value) (us:List Value),us.length=ps.length->bindArgs (fnOf nm nm (dj st) (c9 st) (aJ st) .none kV doc pm an gx ct) ⟨us,[]⟩=pure (ps.zip us):=by first |exact λ_ _ _ _ _ _=>L2.iC _ _ λ_=>rfl |exact λ_ _ _ _ _ _=>L2.iC _ _ λ_ _=>rfl |exact λ_ _ _ _ _ _=>L2.iC _ _ λ_ _ _=>rfl |exact λ_ _ _ _ _ _=>L2.iC _ _ λ_ _ _ _=>rfl |exact λ_ _ _ _ _ _=>L2.iC _ _ λ_ _ _ _ _=>rfl |exact λ_ _ _ _ _ _=>L2.iC _ _ λ_ _ _ _ _ _=>rfl):∃fd,FnAt K mg nm st ps f fd:=Raw.at_ X G a (Ch l c k) b
theorem meA{K:Frag}{C f:Addr}{oc:Value}{od an:Option Addr}{Go:Array (Option Value)}{kV doc pm gx ct:Value}{nm q:Str}{st:Stmt}{ps:List Str}(a:findIn K (.ref C) nm=some (some (.ref f)):=by k_is)(i:isFn K (.ref f)=true:=by k_is)(l:K.lookup f=some ⟨oc,od,.func (fnOf nm q (dj st) (c9 st) (aJ st) .none kV doc pm an gx ct),Go⟩:=by k_is)(c:codeIn K gx q=true:=by k_is)(k:keepIn K (.ref f)=true:=by k_is)(b:∀(kV doc pm:Value) (an:Option Addr) (gx ct:Value) (us:List Value),us.length=ps.length->bindArgs (fnOf nm q (dj st) (c9 st) (aJ st) .none kV doc pm an gx ct) ⟨us,[]⟩=pure (ps.zip us):=by first |exact λ_ _ _ _ _ _=>L2.iC _ _ λ_=>rfl |exact λ_ _ _ _ _ _=>L2.iC _ _ λ_ _=>rfl |exact λ_ _ _ _ _ _=>L2.iC _ _ λ_ _ _=>rfl |exact λ_ _ _ _ _ _=>L2.iC _ _ λ_ _ _ _=>rfl |exact λ_ _ _ _ _ _=>L2.iC _ _ λ_ _ _ _ _=>rfl |exact λ_ _ _ _ _ _=>L2.iC _ _ λ_ _ _ _ _ _=>rfl):∃fd,cI K C nm q st ps f fd:=by
 obtain⟨fd,F,B⟩:=(Ch l c k).fn b;exact⟨fd,F,B,a,i,k⟩
theorem knA{K:Frag}{mg:Str->Option Value}{hp:Heap}{x:Str}{t:Tok}(X:K.In hp)(G:hp.Ns wb2 mg)(a:nsIn K wb2 "KNOWN_SIGNS"=some (some (.str x t)):=by k_is)(e:x=fH:=by first |rfl |decide+kernel):∃t,mg "KNOWN_SIGNS"=some (.str fH t):=⟨t,e ▸ mg_of X G a⟩
theorem XW{K:Frag}{f:Addr}{oc:Value}{od an:Option Addr}{Go:Array (Option Value)}{kV doc pm gx ct:Value}{nm q:Str}{st:Stmt}{ps:List Str}(l:K.lookup f=some ⟨oc,od,.func (fnOf nm q (dj st) (c9 st) (aJ st) .none kV doc pm an gx ct),Go⟩:=by k_is)(c:codeIn K gx q=true:=by k_is)(k:keepIn K (.ref f)=true:=by k_is)(b:∀(kV doc pm:Value) (an:Option Addr) (gx ct:Value) (us:List Value),us.length=ps.length->bindArgs (fnOf nm q (dj st) (c9 st) (aJ st) .none kV doc pm an gx ct) ⟨us,[]⟩=pure (ps.zip us):=by first |exact λ_ _ _ _ _ _=>L2.iC _ _ λ_=>rfl |exact λ_ _ _ _ _ _=>L2.iC _ _ λ_ _=>rfl |exact λ_ _ _ _ _ _=>L2.iC _ _ λ_ _ _=>rfl |exact λ_ _ _ _ _ _=>L2.iC _ _ λ_ _ _ _=>rfl |exact λ_ _ _ _ _ _=>L2.iC _ _ λ_ _ _ _ _=>rfl |exact λ_ _ _ _ _ _=>L2.iC _ _ λ_ _ _ _ _ _=>rfl):∃fd,zS K nm q st f fd/\Binds K fd ps []:=(Ch l c k).fn b
theorem walk{l:wf0}{q:waC}{loose:List Str}{XP:(Str->Option Value)->Heap->Prop}{YP:World->Heap->Prop}{d:DefRec}{K:Params->wa2}(hn:l.most=some 63)(hdf:d.params.defaults=[])
 (hY:∀(w:World) (h:Heap),YP w h->(K w.params).In h)
 (F:∀(w:World) (mg:Str->Option Value) (fa:Addr) (h:Heap),(K w.params).In h->h.Ns wb2 mg->mg d.name=some (.ref fa) ->
   ∃fd:wbw,(∀(s:Shared) (u:Value),BindsTo s fd ⟨[u],[]⟩ [("_law_script",u)])/\∀base:Heap,(K w.params).In base->base.Ns wb2 mg->aS l.prog w (K w.params) mg base cO 13 fa fd ["_law_script"] (DK (K w.params))) :
 whX q loose XP YP l.row.toRowW d [] (λf vs=>wi7 f vs):=
 L2.Ln (n:=63) (k:=13) (x:="_law_script") (CX:=λ_=>cO) (sp:=λw=>DK (K w.params)) hn (by decide) hdf ⟨rfl,by decide,by decide⟩ hY F (λ_ _ a ns hl _ hS=>⟨a,ns,rfl,hS,hl,λ_=>rfl⟩) λ_ _ _ _ _ z=>z
theorem VC{K:Frag}{mg:Str->Option Value}{hp:Heap}{f:Addr}{oc:Value}{od an:Option Addr}{Go:Array (Option Value)}{kV doc pm gx ct:Value}(l:wf0)(w:World)(fa:Addr)(hfa:mg "law"=some (.ref fa))(X:K.In hp)(G:hp.Ns wb2 mg)(L:Lk K mg)(a:nsIn K wb2 "law"=some (some (.ref f)):=by k_is)(lk:K.lookup f=some ⟨oc,od,.func (fnOf "law" "law" (dj (top 94)) (c9 (top 94)) (aJ (top 94)) .none kV doc pm an gx ct),Go⟩:=by k_is)(c:codeIn K gx "law"=true:=by k_is)(k:keepIn K (.ref f)=true:=by k_is) :
 ∃fd:wbw,(∀(s:Shared) (v:Value),BindsTo s fd ⟨[v],[]⟩ [("_law_script",v)])/\∀base:Heap,K.In base->base.Ns wb2 mg->aS l.prog w K mg base cO 13 fa fd ["_law_script"] (DK K):=by
 have e:=hfa.symm.trans (mg_of X G a);cases e;exact⟨_,λs v=>.of_eq rfl,λbase _ _=>Oz L (GQ (st:=top 94) lk c k)⟩
end K51
open PySem PySem.W PyProof.Rows
local macro_rules |`(tactic|o_head $H)=>`(tactic|(refine PySem.W.holds_open (q:=K51.view) (loose:=[]) (Xt:=λs=>PySem.W.xlAt K51.view [] s&&PySem.W.recOk (PySem.W.RowW.records (PySem.W.OpenRow.toRowW (PySem.W.OpenLaw.row PySem.Challenge.rw_bandscribe_k51_windows_told))) s) (XP:=PySem.W.XL K51.view []) (Yf:=PySem.W.Hook.obs $H) (Ya:=PySem.W.Hook.val $H) (YP:=PySem.W.Hook.says $H) (N:=8100) ?hl (PySem.W.Hook.of $H) (PySem.W.Hook.keeps $H) (λs e=>PySem.W.xl_of s (Bool.and_eq_true_iff.mp e).1) PySem.W.XL.keeps (by rfl) (by rfl) (by rfl) (λs e=>PySem.W.recFacts_of (Bool.and_eq_true_iff.mp e).2) (by rfl) (by first |assumption |decide+kernel) (by decide+kernel) ⟨rfl,rfl,rfl,rfl,rfl,by decide+kernel⟩ ?hw ?hc;(case hl=>(intro w;exact K51.whole w))))
set_option maxRecDepth 100000 in
set_option maxHeartbeats 0 in
theorem PySem.Challenge.cw_bandscribe_k51_windows_told_holds : PySem.Challenge.rw_bandscribe_k51_windows_told.Holds := by
 w_on;o_law;o_head (PySem.W.kHook K51.pre.heap_39 K51.addrs (λ_=>by kernel_rfl));(case hw=>w_witness2)
 k_fill
 refine K51.walk (l:=rw0) rfl rfl (λw h Y=>PySem.W.kIn_of Y) ?F
 case F=>
  intro w mg fa h X G hmg;refine K51.VC _ w fa hmg X G ?L;constructor
  all_goals try first |exact(K51.fnA X G).choose_spec |exact(K51.meA).choose_spec |exact mg_of X G (by k_is) |exact K51.na |k_is |exact⟨_,mg_of X G (by k_is)⟩ |exact K51.knA X G |exact Sx.Lj (by k_is) |exact Sx.DW (by k_is) |exact⟨(Sx.DW (by k_is)).lk,by k_is,by k_is,by k_is,by k_is⟩ |exact⟨by k_is,by k_is,by k_is⟩ |exact⟨by k_is,by k_is,by k_is,by k_is⟩ |(constructor;exact K51.nz X G;all_goals exact K51.nz X G) |(constructor;exact⟨by k_is,by k_is,by k_is,by k_is⟩;all_goals exact K51.na)
  case L.B8=>exact(K51.XW (ps:=["self","length","rows"])).choose_spec.1
  case L.B9=>exact(K51.XW (nm:="__init__") (q:="Scarce.__init__") (st:=L2.inClass (K51.top 12) 0)).choose_spec.2
#print axioms PySem.Challenge.cw_bandscribe_k51_windows_told_holds
