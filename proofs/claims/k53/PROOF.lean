import PyProof.Rows.All
import KE.KDictOf
import KE.KIsAll
import KE.KFromBytes
import KE.KDictSum
import KE.KEqDict
import KE.LcSums
import KE.KItem
import Lean
import PyProof.EqAt
import PyProof.EqKinds
import PyProof.TupleCall
import PyProof.Rows.SortStr
import PyProof.StrLawsReplace
import PyProof.StrLawsIdx
import PyProof.StrLawsIn
import PyProof.StrBlockI
import PyProof.StrBlockL
import PyProof.SliceList
import PyProof.InstStoreFacts
import PyProof.NsDelKeeps
import PyProof.StationsW
import PyProof.ExcArgs
import PyProof.ExcBaseAll.ValueError
import PyProof.StrCalls
import PyProof.ListRange
import PyProof.EnumMake
import PyProof.Draws
import PyProof.FactsAll.dict
import PyProof.StrBlock2
import PyProof.Rows.SumAny
import PyProof.NeKinds
import PyProof.Rows.MinMaxN
import PyProof.Rows.Range3
import PyProof.StrLawsFirst
import PyProof.AttrMissHeap
import PyProof.Rows.CallKwBuiltin
import KE.KMinKey
import PyProof.FString2
import KE.KDictLaws
import KE.KRevIter
import PyProof.DictItems
import PySem.Challenge.RW_bandscribe_k53_whole_one_word_a_window
set_option genInjectivity false
set_option genSizeOfSpec false
open List renaming length_map→wa0,getElem?_eq_getElem→wa1,getD_eq_getElem?_getD→wa3,getElem?_map→wa4,length_append→wa5,getElem?_eq_some_iff→wa6,mem_of_getElem?→wa9,mem_map→wab,mem_cons_of_mem→wac,mem_cons_self→waf,map_map→wah,length_take→wak,replicate→wam,map_append→wao,mem_singleton→wat,mem_filter→wav,map_cons→waz,mem_append→waA,mem_cons→waC,getElem?_append_right→waD,size_toArray→waE,getElem?_append_left→waF,range→waH,take_length→waI,mem_append_right→waJ,length_cons→waK,getElem_mem→waL,take_add_one→waN,length_range→waO,length_replicate→waP,append_assoc→waS,mem_append_left→waU,all_eq_true→waW,append_nil→waY,filter_cons_of_pos→wb3,length_filter_le→wb4,mem_range→wb5,filter_eq_self→wb6,map_congr_left→wb7,filter_cons_of_neg→wba,take_of_length_le→wbd,filterMap_cons→wbg,take_sublist→wbi,length_drop→wbp,sum_cons→wbt,filter_append→wbw,drop_eq_nil_of_le→wby,eq_nil_of_length_eq_zero→wbz,nodup_cons→wbF,not_mem_nil→wbJ,getElem_of_mem→wbR,take_append_drop→wbT,count_pos_iff→wbZ,idxOf_lt_length_iff→wc0,mem_of_mem_take→wc2,flatten_cons→wc5,length_pos_iff→wc8,getElem_inj→wcg,any_eq_true→wch,length_singleton→wci,getElem?_eq_none→wck,length_set→wcq,drop_append_of_le_length→wcu,replicate_succ→wcz,length_reverse→wcA,mem_flatMap→wcB,getElem?_set_ne→wcP,mem_or_eq_of_mem_set→wcS,length_filterMap_le→wcW,any_cons→wd3,mem_filterMap→wd7,find?_cons→wdb,range_succ→wde,mem_replicate→wdh,getElem?_set_self→wdj,map→wdl,nodup_nil→wdn,take_zero→wdo,dropLast_concat_getLast→wdq,lookup_cons→wdu,mem_iff_getElem→wdx,getElem_toArray→wdy,map_take→wdB,length→wdE,filter_sublist→wdF,foldl_cons→wdH,nil_append→wdJ,getElem?_take_of_lt→wdO,map_nil→wdQ,prefix_append→wdW,map_id'→wdX,getElem_idxOf→wdZ,flatMap_cons→we6,drop_of_length_le→we7,map_drop→wea,filter_map→weD,toList_toArray→weI,flatMap_append→weJ,drop_zero→weO,all_cons→wf2,foldl_append→wfc,nodup_append→wfd,getElem_take→wfe,extract_eq_take_drop→wfj,getElem?_eq_none_iff→wfl,drop_eq_getElem_cons→wfm,all_map→wfw,any_map→wfy,suffix_refl→wfz,take_prefix→wfB,nodup_range→wfF,length_eq_zero_iff→wfK,of_mem_zip→wfV,length_nil→wfX,lookup→wg4,range'→wgc,eq_nil_or_concat→wgp,drop_left→wgq,take_left→wgr,singleton_append→wgs,filterMap_append→wgt,getElem?_toArray→wgv,drop_take→wgw,getElem?_reverse→wgy,idxOf_cons_self→wgJ,map_eq_nil_iff→wgV,contains_cons→whc,any_eq_false→whe,ext_getElem?→whj,filter_congr→whk,mem_range'_1→whm,map_dropLast→whn,drop_sublist→whp,append_inj'→whD,range'_succ→whE,drop_length→whG,drop_append→whH,getElem_map→whI,foldl→whL,idxOf_cons→whS,sum_append→whT,append_inj→whU
open PySem.W renaming Frag→wa2,findIn→wbf,kia_one→wbE,emptyDict→wbP,recOk→wcd,xlAt→wcm,instObj→wcn,fnOf→wcp,callWith_K→wcC,keepIn→wcT,boot_heap→wd5,codeIn→we0,looks_clsIn→we4,plainGet→wed,methodCall_KW→wei,hasDictIn→wes,OpenLaw→weF,plainGet_of→weG,lookIn→weM,looks_findIn→weN,specialIn→weZ,methodObj→wf6,set_plain→wf7,isFn→wfp,takerIn→wfT,cellsFrom_some→wg5,plainOver→wgi,SharedT→wgj,kdl_values→wh8,kitx_list→whg,kitx_dict→whh,boot_o_0→whx,handedIn→why,kdl_dict→whB,kdl_call→whC,WalkO→whJ,makesIn→whK,KeqHits→whQ,kitOne→whW
open PySem renaming wpAny_bind→wa7,FuncData→wad,Program→wau,wpAny_pure→wax,boot_len→waM,mainGlobals→waQ,bootBuiltins→waV,wpAny_mono→wb8,wpAny_loadPart_at→wbb,compareOp→wbk,wpAny_holding→wbm,excClassObj→wbs,wpAny_Call_Name_kw→wbv,importedModules→wbD,codeAny_builtin→wbG,strKind→wbK,wpAny_tryCatch→wbM,wpAny_truthy_bool→wbO,wpAny_isSubtype_exc→wbQ,OsState→wbS,foldedSetIterable→wc4,swapsWith→wc6,sizeLine_eq→wcb,codeAny_mono→wcc,plainId_quiet→wce,wpAny_execs_nil→wco,lookup_relabel_local→wcr,attributeBase→wct,mem_of_lookup→wcy,wpAny_passesOwn→wcH,cLine→wcI,wpAny_pyIter_list→wcM,wpAny_pyIter_enum→wcN,sysModules→wcO,codeAny_call_builtin→wcR,wpAny_seqItems→wcU,wpAny_execs_cons→wcV,plainObj_wpAny_Assign_Attribute→wcX,wpAny_getItem_str_slice→wd0,behindInMarks→wd2,Scope→wd6,Result→wd8,wpAny_call→wda,tupleKind_room_in1→wdc,wpAny_updateSeq→wdg,wpAny_letGo→wdm,GenState→wdr,assignEach→wds,wpAny_standAt→wdz,wpAny_letOwnedTupleGo_enum→wdA,keywordEach→wdD,Within→wdM,scanBound→wdT,wpAny_Assign_Name→we3,wpAny_field→we8,NameKind→wee,checkBuiltinCall→wef,Builtin→weh,Keyword→wej,seqItems?→wem,codeAny_handlers_test→weo,letOwnedTupleGo→weq,call_meets→wev,call_meetsIn→wex,post_val_or_str→wey,wpAny_handleBy_cons→weL,wpAny_setField→weP,tupleKind→weT,slicePick→weW,slot_list_getitem→wf9,wpAny_newObj_type→wfb,typeLookup→wfh,wpAny_lookBehind→wfq,pastItsLine_dict→wfr,wpAny_getItem_list_slice→wft,wpAny_comprehension_free→wfu,wpAny_pyNext_enum_itemD→wfL,treeTable→wfP,getMethod→wfS,codeAny_of_tree→wfY,setFlight→wfZ,IsRangeIter→wg0,wpAny_pyNext_range_end→wg1,wpAny_pyIter_rangeiter→wg2,subscripted→wg6,sliceBounds→wg8,wpAny_pyNext_enum_endD→wgd,codeAny_handlers_suite→wgg,wpAny_isTrue_Compare1→wgk,wpAny_loadPart→wgl,weight_type_call_type→wgo,wpAny_loadName_local→wgC,PlainAttrs→wgE,excMatches→wgI,wpAny_pyIter_revIter→wgL,wpAny_loadName_cell→wgR,wpAt_of_wpAny→wgU,wpAny_nsSet1→wh1,updateSeq→wha,seqIndex_of→wht,intItems_at→whu,wpAny_of_eq→whv,call→whM,wpAt_bind→whO
open PySem.Heap renaming get?_push_of_some→wa8,lt_size→wae,get?_push_size→waq,get?_update_other→waR,get?_update_self→wbB,size_push→wbL,SameBut→wfo,get?_update_ne→wgS
open Nat renaming le_refl→waa,le_trans→waj,ne_of_lt→war,lt_of_lt_of_le→waw,zero_le→waB,lt_of_le_of_lt→wbe,lt_irrefl→wbh,sub_self→wbC,lt_succ_self→wbI,ne_of_gt→wbU,le_succ→wc1,mul_le_mul→wc3,mul_le_mul_left→wc7,add_sub_cancel_left→wcw,not_lt_zero→wcJ,min_eq_left→wdI,le_of_eq→wdN,lt_succ_of_lt→we5,mul_le_mul_right→weA,mul_add→weS,lt_or_eq_of_le→weY,lt_trichotomy→wfg,le_of_lt→wfn,pow_le_pow_right→wgK,add_comm→wh6,zero_add→whb,le_succ_of_le→whl,lt_succ_of_le→whr,le_of_not_lt→whA,le_antisymm→whP
open Option.some renaming inj→wag
open Sum renaming inr→wai,inl→wb2
open PySem.PassesOwn renaming never→wal,leaving→whq
open PySem.Value renaming ref→wan,none→wbA,type→wep,int→wfQ,str→wfR,bool→wgB,isStrOf→wgM,isStrOf_shape→wgQ,float→whs
open Bool renaming false_ne_true→wap,and_eq_true→wbV,false_eq_true→wbW,false_and→wdp,and_false→we1,true_and→web,eq_iff_iff→wer,not_true→wgO,or_eq_true→whN
open Int renaming toNat_natCast→waG,emod_lt_of_pos→wbl,emod_nonneg→wbn,natCast_mul→wbo,zero_add→wcG,natCast_add→wcK,natCast_pow→wdK,le_trans→wdY,mul_comm→weB,le_refl→weR,le_of_mul_le_mul_right→wf5,pow_succ→wfH,eq_ofNat_of_zero_le→wfM,le_ediv_iff_mul_le→wge,add_mul→wgf,mul_ediv_add_emod→wgx,toNat_of_nonneg→wgX,mul_pos→whw,ediv_nonneg→whR
open PySem.F renaming plainAttrs_list→waT,slot_list_append→waX,type_list_append→waZ,plain_min_loop→wbN,called_set→wbX,plain_max_loop→wbY,excBase_ValueError→wcf,plainAttrs_dict→wcv,slot_list_index→wd1,slot_dict_values→wdS,slot_dict_itemiterator_iter→we2,entry_min_loop→we9,entry_max_loop→weg,slot_dict_get→wek,slot_dict_setdefault→weQ,called_enumerate→weX,args_list_index_2→wfk,entry_list_index→wfC,type_dict_values→wfG,args_dict_get_3→wfJ,type_list_index→wfN,slot_dict_items→wfO,entry_dict_get→wg9,plainAttrs_str→wgh,slot_str_join→wgz,type_str_join→wgA,entry_type_call→wgF,slot_list_pop→wh5
open PySem.Txt renaming slice→wb0,join→wdw,slice_le→wez
open False renaming elim→wb1
open Ne renaming symm→wb9
open PySem.W.OpenRow renaming toRowW→wbc
open PySem.W.RowW renaming records→wbj
open PySem.W.OpenLaw renaming row→wbq
open PyProof.Rows renaming callWith_type1→wbr,envOfC→wdG,kws_cons→wen,callWith_builtin1→wet,kws_nil→weC,int_text_len_1921→weE,subscriptTail→wf1,callWith_kw→wfE,sortedS→wfI,subscriptTail_builtinR→wg7,Subscript_→wgD,kmk_tree→whV
open True renaming intro→wbu
open PySem.Around renaming under_plainId→wbx,under→wh2,under_plain→wh9
open PySem.Builtin.Str renaming strSliceIndices→wbH,occurrences→wcZ,subAt→whi
open Prod.mk renaming inj→wc9
open Sum.inr renaming inj→wca
open Array renaming getElem?_toList→wcj,length_toList→wcx,getD_eq_getD_getElem?→wcD,toArray_toList→wdv,getElem?_eq_some_iff→wf4,toList_inj→wfx,getElem?_eq_none→wga,toList_extract→wgH
open Classical renaming byContradiction→wcl,choose_spec→wgu,choose→whF
open PySem.Str renaming ofString→wcs,length→wdt,empty→whY
open PyProof.Rows.F renaming plain_set_update_loop→wcE,entry_set_update_loop→wdU
open PySem.Builtin.Builtins renaming bindParams→wcF
open PySem.NameKind renaming free→wcL,cell→wf3
open PySem.Obj renaming mapSeq→wcQ,mapFields→wd4,data_mapFields→wdf,isFreed_of_fields→wel
open PySem.Builtin.Range renaming rangeSize→wcY,small→wgW
open PySem.Calls renaming spliced_cons→wd9,callWith_builtin→wdk,evalArgs_plain→weu,call_len_list→weH,Name_function_global→wf0,spliced_nil→wf8,Constant_str→wh0
open ForInStep renaming yield→wdd
open Option renaming map_eq_some_iff→wdi,map_some→wew,isSome_map→wfa,isSome_iff_exists→wfs,getD_some→wfv
open PySem.Data renaming fields→wdC,cell→weU
open Eq renaming trans→wdL
open PySem.Builtin.List renaming listTooLong→wdP
open Or renaming inl→wdR
open PySem.Code renaming quiet_builtin→wdV,isFrame→wh3
open Prod renaming ext→wec
open PySem.Heap.SameBut renaming update→weK
open PySem.W.Looks renaming here→weV
open List.Sublist renaming refl→wff
open PySem.Walks renaming list→wfi
open PySem.SeqAt renaming list_indexAt→wfD
open PySem.Within renaming cons→wfU
open PySem.SeqAt.EqAt renaming same→wfW,int_int→wgm,str_str→wgn,int_str→wgY,str_int→wgZ
open PyProof renaming noPylong_small→wg3
open PySem.StrLaws renaming sliceText_from→wgb,sliceText_to→wgG
open PySem.Paired renaming length→wgN
open List.cons renaming inj→wgP
open PySem.EntryCells renaming newEntry→wgT
open PySem.Heap.IsSliceOf renaming new→wh4
open Nat.succ renaming inj→wh7
open PySem.Flt renaming mathRow→whd
open PySem.Heap.Ns1 renaming of_empty→whf
open PySem.P renaming add_list→whz
open PySem.Builtin.Frozenset renaming updateFrom→whX
open PySem.Shared renaming TypeIs→whZ
open PySem.IsRange renaming new→wi0
set_option Elab.async false
set_option linter.all false
set_option maxRecDepth 100000
set_option maxHeartbeats 4000000
namespace Tt
open PySem PySem.W PySem.Calls PyProof.Rows
noncomputable def GF(tb:String->Option weh)(p:wau)(w:World)(n₀:Nat)(ann:Option Value):Nat->wgj->Thread->Option wgj
 |0,_,_=>none
 |n+1,s,t=>match through t with
  |true=>some s
  |false=>match stepOk n₀ ann t with
   |false=>none
   |true=>match stepT (denote tb) p w s t with
    |some (s',t')=>GF tb p w n₀ ann n s' t'
    |none=>none
theorem GH{tb:String->Option weh}{p:wau}{w:World}{n₀:Nat}{ann:Option Value}:∀{n:Nat} {s s':wgj} {t:Thread},GF tb p w n₀ ann n s t=some s'->topRun tb p w n₀ ann n s.abs t=some s'.abs
 |0,_,_,_,h=>by cases h
 |n+1,s,s',t,h=>by
  unfold GF at h;unfold topRun
  cases ht:through t with
  |true=>rw[ht]at h;cases h;rfl
  |false=>
   rw[ht]at h
   cases hk:stepOk n₀ ann t with
   |false=>rw[hk]at h;cases h
   |true=>
    rw[hk]at h
    cases hs:stepT (denote tb) p w s t with
    |none=>rw[hs]at h;cases h
    |some r=>obtain⟨s₂,t₂⟩:=r;rw[hs]at h;rw[stepT_spec hs];exact GH h
noncomputable def sound(p:wau)(h₀:Heap)(s:wgj):Bool:=staticsOk (wbD p.main.body) h₀ s.abs.heap&&namesBound p s.abs.heap&&gensDone s.abs&&laidKept h₀ s.abs.heap
theorem K4{p q:wau}{loose:List Str}{Xt:Shared->Bool}{α:Type}{Yf:Shared->α}{Ya:World->α}{N n m₀:Nat}{life:Params->Life}{g0:Bool}{H₀:Params->Heap}{T₀:Params->BT}{RZ:Array wdr}{d₀:Drawn}{k₀:Nat}{ann:Option Value}
 (Pp:∀w:World,(fencedOpening wfP p w N).map (λs=>(s.heap,s.gens,s.drawn,s.toks))=some (H₀ w.params,RZ,d₀,k₀))
 (size:∀P:Params,((H₀ P).isNs waQ&&RZ.size==0,(H₀ P).objs.size,(H₀ P).nsMap waQ "__annotations__")=(true,m₀,ann))
 (tree:∀P:Params,absHeap (T₀ P) n (life P)=H₀ P)
 (run:∀(w:World) (os:wbS),∃s,GF wfP p w m₀ ann N ⟨T₀ w.params,n,life w.params,RZ,d₀,k₀,os⟩ (topStub p)=some s/\sound p (H₀ w.params) s=true/\openSeen q loose (wbD p.main.body) Xt g0 s.abs=openGood q loose/\Yf s.abs=Ya w):LeftO p q loose Xt Yf Ya N g0:=λw=>by
 obtain⟨⟨h,gs,d,k,os⟩,e,e'⟩:=wdi.mp (Pp w);obtain⟨rfl,rfl,rfl,rfl⟩:h=H₀ w.params/\gs=RZ/\d=d₀/\k=k₀:=by simpa using e'
 obtain⟨z1,z2,z3⟩:_/\_/\_:=by simpa only[Prod.mk.injEq] using size w.params
 obtain⟨s,r,l1,l2,l3⟩:=run w os;have r:=GH r
 have ea:(SharedT.mk (T₀ w.params) n (life w.params) gs d k os).abs=⟨H₀ w.params,gs,d,k,os⟩:=by
  unfold SharedT.abs;rw[tree]
 rw[ea]at r
 have t:topFrom wfP p w N ⟨H₀ w.params,gs,d,k,os⟩=some s.abs:=by
  unfold topFrom;dsimp only;rw[z1,z2,z3,r];show (match sound p (H₀ w.params) s with |true=>_ |false=>_)=_;rw[l1]
 unfold openEnds;rw[e];show (topFrom wfP p w N _).map _=_;rw[t];exact congrArg some (wec l2 l3)
theorem MP{S A B C:Type}{o:Option S}{f:S->A}{g:S->B}{h:S->C}{a:A}{b:B}{c:C}(x:o.map f=some a)(y:o.map g=some b)(z:o.map h=some c):∃s,o=some s/\f s=a/\g s=b/\h s=c:=by
 cases o with
 |none=>cases x
 |some s=>exact⟨s,rfl,wag x,wag y,wag z⟩
theorem four{S A B C D E F G:Type}{o:Option S}{f:S->A×B×C×D×E×F×G}{a:A×B×C×D×E×F×G}(h1:o.map (λs=>(f s).1)=some a.1)(h2:o.map (λs=>((f s).2.1,(f s).2.2.1))=some (a.2.1,a.2.2.1))(h3:o.map (λs=>((f s).2.2.2.1,(f s).2.2.2.2.1))=some (a.2.2.2.1,a.2.2.2.2.1))(h5:o.map (λs=>(f s).2.2.2.2.2.1)=some a.2.2.2.2.2.1)(h4:o.map (λs=>(f s).2.2.2.2.2.2)=some a.2.2.2.2.2.2):o.map f=some a:=by
 cases o with
 |none=>cases h1
 |some s=>
  have e1:(f s).1=a.1:=wag h1;have e2:((f s).2.1,(f s).2.2.1)=(a.2.1,a.2.2.1):=wag h2;have e3:((f s).2.2.2.1,(f s).2.2.2.2.1)=(a.2.2.2.1,a.2.2.2.2.1):=wag h3;have e5:(f s).2.2.2.2.2.1=a.2.2.2.2.2.1:=wag h5;have e4:(f s).2.2.2.2.2.2=a.2.2.2.2.2.2:=wag h4;exact congrArg some (wec e1 (wec (wc9 e2).1 (wec (wc9 e2).2 (wec (wc9 e3).1 (wec (wc9 e3).2 (wec e5 e4))))))
theorem cut(n:Nat){o:Option wgj}{as:List Addr}{v:List (Option Obj)}(h:o.map (λs=>(as.take n).map s.abs.heap.get?)=some (v.take n))(h':o.map (λs=>(as.drop n).map s.abs.heap.get?)=some (v.drop n)):o.map (λs=>as.map s.abs.heap.get?)=some v:=by
 cases o with
 |none=>cases h
 |some s=>
  have h1:(as.take n).map s.abs.heap.get?=v.take n:=wag h;have h2:(as.drop n).map s.abs.heap.get?=v.drop n:=wag h';show some (as.map s.abs.heap.get?)=some v;rw[<-wbT n as,wao,h1,h2,wbT]
end Tt
namespace K53
open PySem PySem.W
noncomputable def tp(i:Nat):Stmt:=PySem.Challenge.pw_bandscribe_k53_whole_one_word_a_window.main.body.getD i (.Pass ⟨0,0,0,0⟩)
noncomputable def view:wau:={PySem.Challenge.pw_bandscribe_k53_whole_one_word_a_window with main:={PySem.Challenge.pw_bandscribe_k53_whole_one_word_a_window.main with body:=[tp 0,tp 2,tp 3,tp 4,tp 5,tp 6,tp 7,tp 8,tp 9,tp 10,tp 11,tp 12,tp 13,tp 14,tp 16,tp 18,tp 19,tp 20,tp 21,tp 22,tp 24,tp 25,tp 26,tp 27,tp 28,tp 30,tp 31,tp 32,tp 33,tp 34,tp 36,tp 37,tp 38,tp 39,tp 40,tp 41,tp 42,tp 44,tp 45,tp 46,tp 47,tp 48,tp 49,tp 50,tp 51,tp 52,tp 53,tp 54,tp 55,tp 56,tp 57,tp 58,tp 60,tp 61,tp 62,tp 63,tp 64,tp 66,tp 67,tp 68,tp 69,tp 70,tp 71,tp 72,tp 73,tp 74,tp 75,tp 76,tp 77,tp 79,tp 80,tp 81,tp 83,tp 84,tp 85,tp 86,tp 87,tp 88]}}
noncomputable def tree0(P:Params):BT:=(.node (boot_o_0 P) (.node (boot_o_1 P) (.node (boot_o_3 P) (.node (boot_o_7 P) .nil .nil) .nil) (.node (boot_o_5 P) (.node (boot_o_9 P) .nil .nil) .nil)) (.node (boot_o_2 P) (.node (boot_o_4 P) (.node (boot_o_8 P) .nil .nil) .nil) (.node (boot_o_6 P) (.node (boot_o_10 P) .nil .nil) .nil)))
noncomputable def run(w:World)(os:wbS):Option wgj:=(Tt.GF wfP PySem.Challenge.pw_bandscribe_k53_whole_one_word_a_window w 11 (some (wan 6)) 8100 ⟨tree0 w.params,11,(wd5 w.params).life,Array.mk [],boot_drawn,boot_toks,os⟩ (topStub PySem.Challenge.pw_bandscribe_k53_whole_one_word_a_window))
noncomputable def lhsS(w:World)(os:wbS):=(run w os).map (λs=>Tt.sound PySem.Challenge.pw_bandscribe_k53_whole_one_word_a_window (wd5 w.params) s)
noncomputable def lhsA1(w:World)(os:wbS):=(run w os).map (λs=>(openSeen view [] (wbD PySem.Challenge.pw_bandscribe_k53_whole_one_word_a_window.main.body) (λs=>wcm view [] s&&wcd (wbj (wbc (wbq PySem.Challenge.rw_bandscribe_k53_whole_one_word_a_window))) s) true s.abs).1)
noncomputable def lhsA2(w:World)(os:wbS):=(run w os).map (λs=>((openSeen view [] (wbD PySem.Challenge.pw_bandscribe_k53_whole_one_word_a_window.main.body) (λs=>wcm view [] s&&wcd (wbj (wbc (wbq PySem.Challenge.rw_bandscribe_k53_whole_one_word_a_window))) s) true s.abs).2.1,(openSeen view [] (wbD PySem.Challenge.pw_bandscribe_k53_whole_one_word_a_window.main.body) (λs=>wcm view [] s&&wcd (wbj (wbc (wbq PySem.Challenge.rw_bandscribe_k53_whole_one_word_a_window))) s) true s.abs).2.2.1))
noncomputable def lhsA3(w:World)(os:wbS):=(run w os).map (λs=>((openSeen view [] (wbD PySem.Challenge.pw_bandscribe_k53_whole_one_word_a_window.main.body) (λs=>wcm view [] s&&wcd (wbj (wbc (wbq PySem.Challenge.rw_bandscribe_k53_whole_one_word_a_window))) s) true s.abs).2.2.2.1,(openSeen view [] (wbD PySem.Challenge.pw_bandscribe_k53_whole_one_word_a_window.main.body) (λs=>wcm view [] s&&wcd (wbj (wbc (wbq PySem.Challenge.rw_bandscribe_k53_whole_one_word_a_window))) s) true s.abs).2.2.2.2.1))
noncomputable def lhsA5(w:World)(os:wbS):=(run w os).map (λs=>(openSeen view [] (wbD PySem.Challenge.pw_bandscribe_k53_whole_one_word_a_window.main.body) (λs=>wcm view [] s&&wcd (wbj (wbc (wbq PySem.Challenge.rw_bandscribe_k53_whole_one_word_a_window))) s) true s.abs).2.2.2.2.2.1)
noncomputable def lhsA4(w:World)(os:wbS):=(run w os).map (λs=>(openSeen view [] (wbD PySem.Challenge.pw_bandscribe_k53_whole_one_word_a_window.main.body) (λs=>wcm view [] s&&wcd (wbj (wbc (wbq PySem.Challenge.rw_bandscribe_k53_whole_one_word_a_window))) s) true s.abs).2.2.2.2.2.2)
noncomputable def lhsB(as:List Addr)(w:World)(os:wbS):=(run w os).map (λs=>as.map s.abs.heap.get?)
end K53
noncomputable def PySem.W.Fast.tw14598715356260435866:=whx
theorem PySem.W.Fast.te14598715356260435866:whx=PySem.W.Fast.tw14598715356260435866:=rfl
noncomputable def PySem.W.Fast.tw9097988736514384544:=PySem.Challenge.pw_bandscribe_k53_whole_one_word_a_window
theorem PySem.W.Fast.te9097988736514384544:PySem.Challenge.pw_bandscribe_k53_whole_one_word_a_window=PySem.W.Fast.tw9097988736514384544:=rfl
noncomputable def PySem.W.Fast.tw13899100880601395773:=whd
theorem PySem.W.Fast.te13899100880601395773:whd=PySem.W.Fast.tw13899100880601395773:=rfl
lay_quick K53.lhsS K53.lhsA1 K53.lhsA2 K53.lhsA3 K53.lhsA4 K53.lhsA5 K53.lhsB
section
open PySem PySem.W PyProof.Rows
local macro_rules |`(tactic|o_head $H)=>`(tactic|(refine PySem.W.holds_open (q:=K53.view) (loose:=[]) (Xt:=λs=>PySem.W.xlAt K53.view [] s&&PySem.W.recOk (PySem.W.RowW.records (PySem.W.OpenRow.toRowW (PySem.W.OpenLaw.row PySem.Challenge.rw_bandscribe_k53_whole_one_word_a_window))) s) (XP:=PySem.W.XL K53.view []) (Yf:=PySem.W.Hook.obs $H) (Ya:=PySem.W.Hook.val $H) (YP:=PySem.W.Hook.says $H) (N:=8100) ?hl (PySem.W.Hook.of $H) (PySem.W.Hook.keeps $H) (λs e=>PySem.W.xl_of s (Bool.and_eq_true_iff.mp e).1) PySem.W.XL.keeps (by rfl) (by rfl) (by rfl) (λs e=>PySem.W.recFacts_of (Bool.and_eq_true_iff.mp e).2) (by rfl) (by first |assumption |decide+kernel) (by decide+kernel) ⟨rfl,rfl,rfl,rfl,rfl,by decide+kernel⟩ ?hw ?hc;(case hl=>(intro w;contradiction))))
theorem K53.pre(h:False):(PySem.Challenge.rw_bandscribe_k53_whole_one_word_a_window).Holds:=by
 w_on;o_law;k_head
 all_goals contradiction
end
namespace K53
open PySem PySem.W
noncomputable def addrs:List Addr:=[2,3,15,17,18,20,21,22,29,30,31,32,35,42,43,44,47,54,56,57,59,60,61,62,63,66,73,75,76,78,79,80,81,82,85,92,94,95,97,98,99,100,101,104,111,113,114,116,117,118,119,120,123,130,132,133,135,136,137,138,139,142,149,150,151,154,161,162,163,166,173,175,176,178,179,180,181,182,185,192,194,195,197,198,199,200,201,204,211,212,213,216,223,225,226,228,229,230,231,232,235,237,238,240,241,242,244,245,247,248,249,251,252,254,255,256,258,259,261,262,263,265,266,268,269,270,273,274,275,278,279,280,282,283,285,286,287,290,291,292,294,295,297,298,299,301,302,304,305,306,309,310,311,314,315,316,318,319,321,322,323,325,326,328,329,330,332,333,335,336,337,340,341,349,352,353,354,355,356,357,358,361,364,365,366,368,369,371,372,373,376,377,378,380,381,383,384,385,388,389,390,392,393,395,396,404,407,408,409,411,412,414,415,416,417,418,419,420,423,425,426,428,429,430,432,433,435,436,437,439,440,442,443,444,447,448,449,452,453,454,457,458,459,461,462,464,465,466,468,469,471,472,473,476,477,478,480,481,483,484,485,487,488,490,491,492,495,496,497,499,500,502,503,504,506,507,509,510,518,521,522,523,525,526,528,529,530,532,533,535,536,537,539,540,542,543,544,546,547,549,550,551,553,554,556,557,558,560,561,563,564,565,568,569,570,572,573,575,576,577,579,580,582,583,584,585,586,587,588,591,594,595,596,598,599,601,602,603,605,606,608,609,610,612,613,615,616,617,620,621,622,624,625,627,628,629,631,632,634,635,636,638,639,641,642,643,646,647,648,651,652,660,662,663,665,666,667,669,670,672,673,674,676,677,679,680,681,683,684,686,687,688,690,691,693,694,695,697,698,700,701,702,704,705,707,708,709,711,712,714,715,716,718,719,721,722,723,726,727,728,729,730,731,732,735,737,738,740,741,742,744,745,747,748,756,758,759,761,762,763,765,766,768,769,770,773,774,775,777,778,780,781,782,784,785,787,788,789,791,792,794,795,796,799,800,801,803,804,806,807,808,809,810,811,812,815,817,818,820,821,822,824,825,827,828,829,832,833,834,836,837,839,840,841,843,844,846,847,848,851,852]
open PyProof.Rows in
theorem pS(w:World)(os:wbS):lhsS w os=some true:=wdL (congrFun (congrFun PySem.W.Fast.te14360306535555864587 w) os) (by kernel_rfl)
open PyProof.Rows in
theorem Y9(w:World)(os:wbS):lhsA5 w os=some (plainGoodE view (looseW view [])):=wdL (congrFun (congrFun PySem.W.Fast.te8500066211200173614 w) os) (by kernel_rfl)
open PyProof.Rows in
theorem Yb(w:World)(os:wbS):lhsA3 w os=some (true,pinGoodD (drecsOf view)):=wdL (congrFun (congrFun PySem.W.Fast.te9030741091511171612 w) os) (by kernel_rfl)
open PyProof.Rows in
theorem Yc(w:World)(os:wbS):lhsA4 w os=some (plainGoodD view [],wideGood view,clsGoodW view []):=wdL (congrFun (congrFun PySem.W.Fast.te2052113554154732409 w) os) (by kernel_rfl)
open PyProof.Rows in
theorem Yd(w:World)(os:wbS):lhsA1 w os=some (expectedOf view):=wdL (congrFun (congrFun PySem.W.Fast.te14870512711092168834 w) os) (by kernel_rfl)
open PyProof.Rows in
theorem Ye(w:World)(os:wbS):lhsA2 w os=some (bltViewBooted,true):=wdL (congrFun (congrFun PySem.W.Fast.te16168110308912262862 w) os) (by kernel_rfl)
theorem Yg(w:World)(os:wbS):lhsB (K53.addrs.take 160) w os=some (((K53.pre.heap_39 w.params).map λp=>some p.2).take 160):=wdL (congrFun (congrFun (congrFun PySem.W.Fast.te11865853048137514904 _) w) os) (by kernel_rfl)
theorem Yh(w:World)(os:wbS):lhsB (K53.addrs.drop 160) w os=some (((K53.pre.heap_39 w.params).map λp=>some p.2).drop 160):=wdL (congrFun (congrFun (congrFun PySem.W.Fast.te11865853048137514904 _) w) os) (by kernel_rfl)
theorem op:opening PySem.Challenge.pw_bandscribe_k53_whole_one_word_a_window=plainProg PySem.Challenge.pw_bandscribe_k53_whole_one_word_a_window.main.scope.names:=by kernel_rfl
theorem fe(s:Shared):fenceModules? PySem.Challenge.pw_bandscribe_k53_whole_one_word_a_window s=some s:=by kernel_rfl
theorem tr(P:Params):absHeap (tree0 P) 11 (wd5 P).life=wd5 P:=by kernel_rfl
theorem sz(P:Params):((wd5 P).isNs waQ&&(Array.mk []:Array wdr).size==0,(wd5 P).objs.size,(wd5 P).nsMap waQ "__annotations__")=(true,11,(some (wan 6))):=by kernel_rfl
theorem whole:LeftO PySem.Challenge.pw_bandscribe_k53_whole_one_word_a_window view [] (λs=>wcm view [] s&&wcd (wbj (wbc (wbq PySem.Challenge.rw_bandscribe_k53_whole_one_word_a_window))) s) (λs=>K53.addrs.map s.heap.get?) (λw=>((K53.pre.heap_39 w.params).map λp=>some p.2)) 8100:=Tt.K4 (H₀:=wd5) (T₀:=tree0) (life:=λP=>(wd5 P).life) (boot_open op (by decide+kernel) fe) sz tr λw os=>Tt.MP (o:=run w os) (f:=λs=>Tt.sound PySem.Challenge.pw_bandscribe_k53_whole_one_word_a_window (wd5 w.params) s) (g:=λs=>openSeen view [] (wbD PySem.Challenge.pw_bandscribe_k53_whole_one_word_a_window.main.body) (λs=>wcm view [] s&&wcd (wbj (wbc (wbq PySem.Challenge.rw_bandscribe_k53_whole_one_word_a_window))) s) true s.abs) (h:=λs=>K53.addrs.map s.abs.heap.get?) (pS w os) (Tt.four (o:=run w os) (f:=λs=>openSeen view [] (wbD PySem.Challenge.pw_bandscribe_k53_whole_one_word_a_window.main.body) (λs=>wcm view [] s&&wcd (wbj (wbc (wbq PySem.Challenge.rw_bandscribe_k53_whole_one_word_a_window))) s) true s.abs) (a:=openGood view []) (Yd w os) (Ye w os) (Yb w os) (Y9 w os) (Yc w os)) (Tt.cut (o:=run w os) 160 (Yg w os) (Yh w os))
end K53
namespace L2
open PySem PySem.Spec PyProof.Rows
noncomputable abbrev Key:=Sum Int Str
noncomputable def xG:Key->Value->Bool
 |.inl k,v=>Value.isInt k v
 |.inr x,v=>wgM x v
noncomputable def T3(w:World):Key->Int
 |.inl k=>hashInt k
 |.inr x=>hashStr w x
theorem bS:∀{k:Key} {v:Value},xG k v=true->(∃i t,k=wb2 i/\v=wfQ i t)\/(∃x t,k=wai x/\v=wfR x t)
 |.inl i,v,h=>by
  obtain⟨t,e⟩:=Value.isInt_shape (k:=i) (v:=v) h;exact .inl ⟨i,t,rfl,e⟩
 |.inr x,v,h=>by
  obtain⟨t,e⟩:=wgQ (x:=x) (v:=v) h;exact .inr ⟨x,t,rfl,e⟩
theorem EI(i:Int)(t:Tok):xG (.inl i) (.int i t)=true:=by simp[xG,Value.isInt]
theorem EJ(x:Str)(t:Tok):xG (.inr x) (.str x t)=true:=by simp[xG,wgM]
theorem MQ(a b:Int):decide ((wb2 a:Key)=wb2 b)=(a==b):=by
 grind
theorem MR(a b:Str):decide ((wai a:Key)=wai b)=decide (a=b):=by simp_all [Key,wca,decide_eq_false]
theorem MS(a:Int)(b:Str):decide ((wb2 a:Key)=wai b)=false:=decide_eq_false (λq=>nomatch q)
theorem MT(a:Str)(b:Int):decide ((wai a:Key)=wb2 b)=false:=decide_eq_false (λq=>nomatch q)
noncomputable def bc(prog:wau)(w:World):PySem.KeyKind prog w Key where
 is:=xG
 hash:=T3 w
 inj:=λv a b ha hb=>by
  rcases bS ha with⟨i,t,rfl,rfl⟩ |⟨x,t,rfl,rfl⟩
  ·rcases bS hb with⟨j,u,rfl,e⟩ |⟨y,u,rfl,e⟩
   ·injection e with e1 _;rw[e1]
   ·exact nomatch e
  ·rcases bS hb with⟨j,u,rfl,e⟩ |⟨y,u,rfl,e⟩
   ·exact nomatch e
   ·injection e with e1 _;rw[e1]
 byValue:=λk v h=>by
   rcases bS h with⟨i,t,rfl,rfl⟩ |⟨x,t,rfl,rfl⟩<;>rfl
 pyHash:=λhv h=>by
  rcases bS hv with⟨i,t,rfl,rfl⟩ |⟨x,t,rfl,rfl⟩
  ·exact wpAny_pyHash_int h
  ·exact wpAny_pyHash_str h
 eqBool:=λhu hv h=>by
  rcases bS hu with⟨i,t,rfl,rfl⟩ |⟨x,t,rfl,rfl⟩
  ·rcases bS hv with⟨j,u,rfl,rfl⟩ |⟨y,u,rfl,rfl⟩
   ·rw[MQ]at h;exact wpAny_eqBool_int h
   ·rw[MS]at h;exact wgY i t y u _ _ _ _ h
  ·rcases bS hv with⟨j,u,rfl,rfl⟩ |⟨y,u,rfl,rfl⟩
   ·rw[MT]at h;exact wgZ x t j u _ _ _ _ h
   ·rw[MR]at h;exact wpAny_eqBool_str h
 «strs»:=λk x t v h=>by
  rcases bS h with⟨i,u,rfl,e⟩ |⟨y,u,rfl,e⟩
  ·exact nomatch e
  ·injection e with e1 _
   subst e1;cases v<;>rfl
theorem A6(prog:wau)(w:World)(i:Int)(t:Tok):(bc prog w).is (.inl i) (.int i t)=true:=EI i t
theorem A7(prog:wau)(w:World)(x:Str)(t:Tok):(bc prog w).is (.inr x) (.str x t)=true:=EJ x t
set_option genInjectivity true in
inductive V where
 |non |bl (b:Bool) |int (i:Int) |str (x:Str) |byt (b:Array UInt8) |flt (b:UInt64) |ref (a:Addr) |ty (n:String)
 deriving DecidableEq
def RelV:V->Value->Prop
 |.non,u=>u=wbA
 |.bl b,u=>u=wgB b
 |.int i,u=>∃t,u=wfQ i t
 |.str x,u=>∃t,u=wfR x t
 |.byt b,u=>∃t,u=Value.bytes b t
 |.flt b,u=>∃t,u=whs b t
 |.ref a,u=>u=wan a
 |.ty n,u=>u=wep n
abbrev Vals:List V->List Value->Prop:=Paired RelV
theorem Vals.length{xs:List V}{us:List Value}(r:Vals xs us):xs.length=us.length:=wgN r
theorem Vals.get:∀{xs:List V} {us:List Value} {i:Nat} {x:V},Vals xs us->xs[i]?=some x->∃u,us[i]?=some u/\RelV x u
 |_,_,_,_,.nil,e=>by simp at e
 |_,_,0,_,.cons r _,e=>by simp at e;subst e;exact⟨_,rfl,r⟩
 |_,_,i+1,x,.cons _ t,e=>by
  obtain⟨u,a,b⟩:=Vals.get (i:=i) (x:=x) t (by simpa using e);exact⟨u,by simpa using a,b⟩
theorem Vals.set(r:RelV x u):∀{xs:List V} {us:List Value} (i:Nat),Vals xs us->Vals (xs.set i x) (us.set i u)
 |_,_,_,.nil=>.nil
 |_,_,0,.cons _ t=>.cons r t
 |_,_,i+1,.cons q t=>.cons q (Vals.set r i t)
theorem Vals.append:∀{xs ys:List V} {us ws:List Value},Vals xs us->Vals ys ws->Vals (xs++ys) (us++ws)
 |_,_,_,_,.nil,s=>s
 |_,_,_,_,.cons r t,s=>.cons r (Vals.append t s)
theorem Vals.take:∀{xs:List V} {us:List Value} (n:Nat),Vals xs us->Vals (xs.take n) (us.take n)
 |_,_,0,_=>.nil
 |_,_,_+1,.nil=>.nil
 |_,_,n+1,.cons r t=>.cons r (Vals.take n t)
theorem Vals.drop:∀{xs:List V} {us:List Value} (n:Nat),Vals xs us->Vals (xs.drop n) (us.drop n)
 |_,_,0,r=>r
 |_,_,_+1,.nil=>.nil
 |_,_,n+1,.cons _ t=>Vals.drop n t
def jl:Option V->Option Value->Prop
 |some v,some u=>RelV v u
 |none,none=>True
 |_,_=>False
def KV{κ:Type}:List (κ×V)->List (κ×Value)->Prop:=Paired λ(p:κ×V) (q:κ×Value)=>p.1=q.1/\RelV p.2 q.2
noncomputable def kV:Key->V
 |.inl i=>.int i
 |.inr x=>.str x
set_option genInjectivity true in
inductive HO where
 |lst (xs:List V)
 |tup (xs:List V)
 |dK (kvs:List (Key×V)) |dT (kvs:List (List Key×V))
 |set (S:Int->Bool) (n:Nat)
 |ins (C dx:Addr) (fs:List (Str×V))
 |own (x:Addr)
 |xd (fs:List (Str×V))
 |met (f x:Addr)
 |rng (lo hi:Int)
 |frz (o:Obj) (u:HO)
 |tbl (ps:Array Value)
 |ext (φ:Heap->Prop)
noncomputable abbrev Hp:=Addr->Option HO
noncomputable def upd(H:Hp)(a:Addr)(o:HO):Hp:=λb=>if b=a then some o else H b
theorem a6:upd H a o a=some o:=by unfold upd;rw[if_pos rfl]
theorem ae(h:b≠a):upd H a o b=H b:=by unfold upd;rw[if_neg h]
theorem DS:upd (upd H a o) a u=upd H a u:=by
 funext b;unfold upd;split<;>rfl
theorem Pq{H:Hp}{a b:Addr}{o u:HO}(h:H a=some o)(h':H b=some u)(d:o≠u):a≠b:=by grind [wag]
theorem af{H:Hp}{a b:Addr}{o:HO}(h:H a=some o)(h':H b=none):a≠b:=by
 grind
section
variable(P:wau)(w:World)
def cb(H:Hp)(h:Heap)(a:Addr):HO->Prop
 |.lst xs=>xs.length<=sizeLine/\∃(its:List Value) (n:Nat),Vals xs its/\h.get? a=some {cls:=.type "list",data:=.seq its.toArray n}
 |.tup xs=>xs.length<=sizeLine/\∃its:List Value,Vals xs its/\IsTup h a its.toArray
 |.dK kvs=>kvs.length<=sizeLine/\(a==wcO)=false/\∃vs,KV kvs vs/\h.DictOf (bc P w) a vs
 |.dT kvs=>kvs.length<=sizeLine/\(a==wcO)=false/\∃xs:List (List Key×Addr×Value),
   Paired (λ(p:List Key×V) (q:List Key×Addr×Value)=>p.1=q.1/\H q.2.1=some (.tup (p.1.map kV))/\RelV p.2 q.2.2) kvs xs /\
   ∃o es ep,h.get? a=some o/\o.ExactDict/\o.data=.dict es ep/\es.toList=xs.map (entryOfKey (weT (bc P w)))/\(xs.map (·.1)).Nodup
 |.set S n=>h.SetOf (intKind P w) a S n
 |.ins C dx fs=>H dx=some (.own a)/\fs.length<=1000/\dx≠a/\h.get? a=some (wcn C dx) /\
   ∃mA,h.Ns1 dx mA/\(∀f,jl (fs.lookup f) (mA f))/\wdM mA (fs.map (·.1))
 |.own _=>∃o,h.get? a=some o
 |.xd fs=>∃mA,h.Ns1 a mA/\∀f,jl (fs.lookup f) (mA f)
 |.rng lo hi=>∃t u v,h.get? a=some {cls:=.type "range",data:=.fields #[.int lo t,.int hi u,.int 1 v]}
 |.frz o u=>h.get? a=some o/\cb H h a u
 |.tbl ps=>h.get? a=some {cls:=.none,data:=.fields ps}
 |.met f x=>h.get? a=some (wf6 (.ref f) (.ref x))
 |.ext φ=>φ h/\(∃o,h.get? a=some o)/\∀h1 h2:Heap,φ h1->(∀o,h1.get? a=some o->h2.get? a=some o)->φ h2
def jt(H:Hp)(h:Heap):Prop:=∀a o,H a=some o->cb P w H h a o
end
section
variable{P:wau}{w:World}{H H':Hp}{h h':Heap}{a:Addr}{o:HO}
theorem cb.lt(x:cb P w H h a o):a<h.objs.size:=by
 cases o with
 |lst c=>obtain⟨_,_,_,_,e⟩:=x;exact wae e
 |tup c=>obtain⟨_,_,_,p⟩:=x;exact p.lt
 |dK b=>obtain⟨_,_,_,_,o,_,_,e,_⟩:=x;exact wae e
 |dT b=>obtain⟨_,_,_,_,o,_,_,e,_⟩:=x;exact wae e
 |set S n=>obtain⟨o,_,_,_,e,_⟩:=x;exact wae e
 |ins C d fs=>obtain⟨_,_,_,e,_⟩:=x;exact wae e
 |own y=>obtain⟨_,e⟩:=x;exact wae e
 |xd fs=>obtain⟨_,⟨_,_,_,e,_⟩,_⟩:=x;exact wae e
 |rng lo hi=>obtain⟨_,_,_,e⟩:=x;exact wae e
 |frz ob u=>obtain⟨e,_⟩:=x;exact wae e
 |tbl ps=>exact wae (show h.get? a=some _ from x)
 |met f y=>exact wae (show h.get? a=some _ from x)
 |ext φ=>obtain⟨_,⟨_,e⟩,_⟩:=x;exact wae e
theorem Paired.MU{α β:Type}{F G:α->β->Prop}:∀{g:List α} {j:List β},Paired F g j->(∀a b,F a b->G a b)->Paired G g j
 |_,_,.nil,_=>.nil
 |_,_,.cons r t,f=>.cons (f _ _ r) (Paired.MU t f)
theorem cb.qN(x:cb P w H h a o)(k:∀b u,(b=a\/H b=some (.own a))->h.get? b=some u->h'.get? b=some u)
 (I:∀b,H b=some (.own a)->H' b=some (.own a)) (J:∀b xs,H b=some (.tup xs)->H' b=some (.tup xs)):cb P w H' h' a o:=by
 induction o with
 |lst xs=>obtain⟨z,j,n,r,e⟩:=x;exact⟨z,j,n,r,k _ _ (.inl rfl) e⟩
 |tup xs=>obtain⟨z,j,r,ob,e,c⟩:=x;exact⟨z,j,r,ob,k _ _ (.inl rfl) e,c⟩
 |dK l=>obtain⟨z,y,A,r,ob,g,i,e,c⟩:=x;exact⟨z,y,A,r,ob,g,i,k _ _ (.inl rfl) e,c⟩
 |dT l=>
  obtain⟨z,y,xs,r,ob,g,i,e,c⟩:=x;exact⟨z,y,xs,Paired.MU r λp q z=>⟨z.1,J _ _ z.2.1,z.2.2⟩,ob,g,i,k _ _ (.inl rfl) e,c⟩
 |set S n=>obtain⟨ob,g,i,t,e,c⟩:=x;exact⟨ob,g,i,t,k _ _ (.inl rfl) e,c⟩
 |ins C E fs=>
  obtain⟨d,z,ne,e,m,⟨s,g,i,B,c⟩,r⟩:=x;exact⟨I _ d,z,ne,k _ _ (.inl rfl) e,m,⟨s,g,i,k _ _ (.inr d) B,c⟩,r⟩
 |own y=>obtain⟨ob,e⟩:=x;exact⟨ob,k _ _ (.inl rfl) e⟩
 |xd fs=>obtain⟨m,⟨s,g,i,e,c⟩,r⟩:=x;exact⟨m,⟨s,g,i,k _ _ (.inl rfl) e,c⟩,r⟩
 |rng lo hi=>obtain⟨t,u,v,e⟩:=x;exact⟨t,u,v,k _ _ (.inl rfl) e⟩
 |frz ob u D=>obtain⟨e,q⟩:=x;exact⟨k _ _ (.inl rfl) e,D q⟩
 |tbl ps=>
  have e:h.get? a=some {cls:=.none,data:=.fields ps}:=x;show h'.get? a=some {cls:=.none,data:=.fields ps};exact k a _ (.inl rfl) e
 |met f y=>
  have e:h.get? a=some (wf6 (.ref f) (.ref y)):=x;show h'.get? a=some (wf6 (.ref f) (.ref y));exact k a _ (.inl rfl) e
 |ext φ=>obtain⟨p,⟨o,e⟩,st⟩:=x;exact⟨st _ _ p λo q=>k _ _ (.inl rfl) q,⟨o,k _ _ (.inl rfl) e⟩,st⟩
theorem jt.lt(x:jt P w H h)(e:H a=some o):a<h.objs.size:=(x a o e).lt
theorem jt.fresh(x:jt P w H h)(e:h.objs.size<=a):H a=none:=by
 cases q:H a with
 |none=>rfl
 |some u=>exact absurd (waw (x.lt q) e) (wbh _)
theorem jt.kept(x:jt P w H h)(k:∀b u,h.get? b=some u->h'.get? b=some u):jt P w H h':=λa o e=>
 (x a o e).qN (λb u _ q=>k b u q) (λ_ q=>q) λ_ _ q=>q
theorem jt.laid(x:jt P w H h)(k:∀b u,h.get? b=some u->h'.get? b=some u)(g:h.objs.size<=a)(new:cb P w (upd H a o) h' a o):jt P w (upd H a o) h':=λb u e=>by
 have hn:=x.fresh g
 by_cases d:b=a
 ·grind [a6]
 ·rw[ae d]at e;exact(x b u e).qN (λc v _ q=>k c v q) (λc q=>by rw[ae (af q hn)];exact q) λc f q=>by rw[ae (af q hn)];exact q
end
def Rd(H:Hp)(a:Addr)(u:HO):Prop:=H a=some u\/∃o,H a=some (.frz o u)
theorem Rd.ok{P:wau}{w:World}{H:Hp}{h:Heap}{a:Addr}{u:HO}(r:Rd H a u)(x:jt P w H h):cb P w H h a u:=by
 rcases r with r |⟨o,r⟩
 ·exact x a u r
 ·obtain⟨_,q⟩:=x a _ r;exact q
def Pt:Option HO->Prop
 |some (.lst _)=>True
 |some (.dK _)=>True
 |some (.dT _)=>True
 |some (.set _ _)=>True
 |some (.ins _ _ _)=>True
 |some (.ext _)=>True
 |_=>False
section
variable{P:wau}{w:World}{H:Hp}{h h':Heap}{x e:Addr}{o':HO}
theorem jt.write(ok:jt P w H h)(g:Pt (H x))(p:e=x\/H e=some (.own x))(k:∀b u,b≠e->h.get? b=some u->h'.get? b=some u)(l:∃u,h'.get? e=some u)
 (new:cb P w (upd H x o') h' x o'):jt P w (upd H x o') h':=λb u q=>by
 have d:∀c y,H c=some (.own y)->c≠x:=λc y r z=>by subst z;rw[r]at g;exact g
 have f:∀c i,H c=some (.tup i)->c≠x:=λc i r z=>by subst z;rw[r]at g;exact g
 by_cases j:b=x
 ·subst j;rw[a6]at q;cases q;exact new
 ·rw[ae j]at q
  by_cases a:b=e
  ·have m:H b=some (.own x):=by
    rcases p with z |z
    ·exact absurd (a.trans z) j
    ·rw[a];exact z
   rw[q]at m;cases m;obtain⟨v,n⟩:=l;exact⟨v,by rw[a];exact n⟩
  ·refine(ok b u q).qN (λc v hc r=>k c v ?_ r) (λc r=>by rw[ae (d c b r)];exact r) λc i r=>by rw[ae (f c i r)];exact r
   rcases hc with rfl |hc
   ·exact a
   ·rintro rfl;rcases p with z |z
    ·exact d c b hc z
    ·rw[hc]at z;cases z;exact j rfl
end
structure Un(fs ex:List Addr)(H H':Hp)(h h':Heap):Prop where
 keep:∀b o,h.get? b=some o->H b=none->b∉fs->b∉ex->h'.get? b=some o
 slot:∀b o,h.get? b=some o->H b=none->b∈fs->b∉ex->∃sl,h'.get? b=some {o with slots:=sl}
 free:∀b o,h.get? b=some o->H b=none->b∉ex->H' b=none
 there:∀b o,h.get? b=some o->b∉ex->∃o',h'.get? b=some o'
 uk:∀b xs,H b=some (.tup xs)->H' b=some (.tup xs)
 tJ:∀b o u,H b=some (.frz o u)->H' b=some (.frz o u)
 um:∀b ps,H b=some (.tbl ps)->∃more,H' b=some (.tbl (ps++more))
section
variable{fs Yi ex ex':List Addr}{H H1 H2:Hp}{h h1 h2 h':Heap}{a x e:Addr}{o:HO}
theorem Un.any(u:Un fs ex H H1 h h1){b:Addr}{ob:Obj}(q:h.get? b=some ob)(n:H b=none)(g:b∉ex):∃sl,h1.get? b=some {ob with slots:=sl}:=by
 by_cases a:b∈fs
 ·exact u.slot b ob q n a g
 ·exact⟨ob.slots,u.keep b ob q n a g⟩
theorem Un.kept(k:∀b u,h.get? b=some u->h'.get? b=some u):Un fs ex H H h h':=
 ⟨λb ob q _ _ _=>k b ob q,λb ob q _ _ _=>⟨ob.slots,k b ob q⟩,λ_ _ _ n _=>n,λb ob q _=>⟨ob,k b ob q⟩,λ_ _ q=>q,λ_ _ _ q=>q,λ_ ps q=>⟨#[],by rw[q];simp⟩⟩
theorem Un.refl:Un fs ex H H h h:=Un.kept λ_ _ q=>q
theorem Un.laid(k:∀b u,h.get? b=some u->h'.get? b=some u)(g:h.objs.size<=a)(hn:H a=none):Un fs ex H (upd H a o) h h' where
 keep:=λb u q _ _ _=>k b u q
 slot:=λb u q _ _ _=>⟨u.slots,k b u q⟩
 free:=λb u q n _=>by rw[ae (war (waw (wae q) g))];exact n
 there:=λb u q _=>⟨u,k b u q⟩
 uk:=λb c q=>by rw[ae (af q hn)];exact q
 tJ:=λb u c q=>by rw[ae (af q hn)];exact q
 um:=λb ps q=>⟨#[],by rw[ae (af q hn),q];simp⟩
theorem Un.write(g:Pt (H x))(l:e=x\/H e=some (.own x))(k:∀b u,b≠e->h.get? b=some u->h'.get? b=some u)(j:∃u,h'.get? e=some u):Un fs ex H (upd H x o) h h':=by
 have f:∀b,H b=none->b≠x:=λb n z=>by subst z;rw[n]at g;exact g
 have d:∀b,H b=none->b≠e:=λb n z=>by
  subst z;rcases l with r |r
  ·grind
  ·grind
 have c:∀b u,H b=some u->¬Pt (some u)->b≠x:=λb u q i z=>by subst z;rw[q]at g;exact i g
 refine⟨λb u q n _ _=>k b u (d b n) q,λb u q n _ _=>⟨u.slots,k b u (d b n) q⟩,λb u q n _=>by rw[ae (f b n)];exact n,λb u q _=>?_,
  λb m q=>by rw[ae (c b _ q λz=>z)];exact q,λb u m q=>by rw[ae (c b _ q λz=>z)];exact q,λb ps q=>⟨#[],by rw[ae (c b _ q λz=>z),q];simp⟩⟩
 by_cases a:b=e
 ·subst a;exact j
 ·exact⟨u,k b u a q⟩
end
noncomputable def T4(h:Heap)(H:Hp):List Addr:=(waH h.objs.size).filter λa=>(H a).isSome
noncomputable def yQ(h:Heap)(H:Hp):Heap:=PySem.W.hideAll h (T4 h H)
theorem EK(h:Heap)(H:Hp):(yQ h H).objs.size=h.objs.size:=PySem.W.hideAll_size _ _
theorem GI(e:h.get? b=some o)(n:H b=none):(yQ h H).get? b=some o:=
 PySem.W.hideAll_get _ e λa=>by
  have q:(H b).isSome=true:=(wav.mp a).2;rw[n]at q;simp at q
theorem K5(e:(yQ h H).get? b=some o):h.get? b=some o/\H b=none:=by
 have a:h.get? b=some o:=PySem.W.of_hideAll (T4 h H) e;refine⟨a,?_⟩
 cases q:H b with
 |none=>rfl
 |some x=>
  grind [T4,wae,yQ,PySem.W.hideAll_none]
noncomputable def K6(g h:Heap)(L:Addr):List (Addr×Obj):=(waH h.objs.size).filterMap λa=>if a=L\/(g.get? a).isSome=true then none else(h.get? a).map λo=>(a,o)
noncomputable def rest(g h:Heap)(L d:Addr):List (Addr×Obj):=(K6 g h L).filter λp=>decide (p.1≠d)
structure Mod(K:wa2)(mg:Str->Option Value)(base:Heap):Prop where
 M8:K.In base
 glob:base.Ns waQ mg
 blt:∃mb,base.Ns builtinsNs mb/\∀x:Str,x≠"__name__"->mb x=waV x
 nolimit:base.NoLimit
structure Cx where
 prog:wau
 w:World
 K:wa2
 mg:Str->Option Value
 base:Heap
 A:Around
 N:List Str
 s₀:Shared
 H₀:Hp
 env:Env
 outer:List Env
 stack:List Env
 ex:List Addr
 fn:Str->Bool
 calm:Bool
 pn:List (Addr×Obj)
 xe:Value->Shared->Prop
noncomputable def rX(l:List Env):List Addr:=l.filterMap (·.frame)
noncomputable abbrev Cx.fs(X:Cx):List Addr:=rX X.outer
def Pu(sc:wd6)(x:Str):Prop:=sc.names.lookup x=some .local\/sc.names.lookup x=some .cell\/sc.names.lookup x=some .free
def Loc(sc:wd6)(x:Str):Prop:=sc.names.lookup x=some .local\/sc.names.lookup x=some .cell
def Look(env:Env)(h:Heap)(m:Str->Option Value)(x:Str)(u:Value):Prop:=
 (env.kindOf x=some .local/\m x=some u)\/((env.kindOf x=some .cell\/env.kindOf x=some .free)/\∃c,env.cells.lookup x=some c/\h.IsCell c (some u))
structure Cx.Ok(X:Cx):Prop where
 mod:Mod X.K X.mg X.base
 kind:X.env.scope.kind=.function
 glob:X.env.globals=waQ
 blt:X.env.builtins=builtinsNs
 above:X.s₀.heap.objs.size<=X.env.locals
 inj:∀x y c,X.env.cells.lookup x=some c->X.env.cells.lookup y=some c->x=y
 has:∀x,(X.env.kindOf x=some .cell\/X.env.kindOf x=some .free)->∃c,X.env.cells.lookup x=some c
 MV:∀x c,X.fn x=true->X.env.cells.lookup x=some c->X.s₀.heap.objs.size<=c
 hd:X.calm=true->X.A.handled=none
 frames:X.A.frames=some X.stack
 OV:X.stack=X.outer\/(X.stack=X.env::X.outer/\X.env.frame=some X.env.locals)
 S0:∀b∈X.ex,b≠X.env.locals/\∀x c,X.env.cells.lookup x=some c->c≠b
 bs:∀b o,X.base.get? b=some o->X.s₀.heap.get? b=some o/\X.H₀ b=none
 GJ:X.base.objs.size<=X.s₀.heap.objs.size
 C0:∀b o,X.base.get? b=some o->b∉X.ex
 EL:∀b∈X.ex,b∉X.fs
 oZ:X.s₀.heap.FunFrames X.base X.outer
 K7:∀b∈X.fs,X.H₀ b=none
structure Inv(X:Cx)(pins:List (Addr×Obj))(σ:List (Option V))(H:Hp)(s:Shared):Prop where
 ok:X.Ok
 os:s.os=X.s₀.os
 bare:AllBare s.gens
 base:Un X.fs X.ex X.H₀ H X.s₀.heap s.heap
 loc:∃m,s.heap.Ns X.env.locals m/\∀(i:Nat) (x:Str) (v:V),X.N[i]?=some x->σ[i]?=some (some v)->Pu X.env.scope x->∃u,RelV v u/\Look X.env s.heap m x u
 cell:∀x c,X.env.cells.lookup x=some c->∃v,s.heap.IsCell c v
 free:H X.env.locals=none
 ju:∀x c,X.env.cells.lookup x=some c->H c=none
 pin:∀p∈X.pn++pins,s.heap.get? p.1=some p.2/\H p.1=none/\p.1≠X.env.locals/\p.1∉X.fs/\∀v,p.2.data≠.cell v
 b4:jt X.prog X.w H s.heap
 len:σ.length=X.N.length
section
variable{X:Cx}{pins:List (Addr×Obj)}{σ:List (Option V)}{H H':Hp}{s:Shared}{h':Heap}
theorem Cx.Ok.T5(ok:X.Ok)(e:X.base.get? b=some o):b∉X.fs:=λa=>by
 have:=(ok.oZ.mem a).1;rw[e]at this;cases this
theorem Inv.bs(I:Inv X pins σ H s):∀b o,X.base.get? b=some o->s.heap.get? b=some o/\H b=none:=λb o e=>
 ⟨I.base.keep b o (I.ok.bs b o e).1 (I.ok.bs b o e).2 (I.ok.T5 e) (I.ok.C0 b o e),I.base.free b o (I.ok.bs b o e).1 (I.ok.bs b o e).2 (I.ok.C0 b o e)⟩
theorem Inv.bk(I:Inv X pins σ H s):∀b o,X.base.get? b=some o->s.heap.get? b=some o:=λb o e=>(I.bs b o e).1
theorem Inv.mod(I:Inv X pins σ H s):Mod X.K X.mg X.base:=I.ok.mod
theorem Inv.iz(I:Inv X pins σ H s):X.K.In s.heap:=I.ok.mod.M8.keeps I.bk
theorem Inv.lt(I:Inv X pins σ H s):X.env.locals<s.heap.objs.size:=let ⟨_,hn,_⟩:=I.loc;hn.lt
theorem Inv.sz(I:Inv X pins σ H s):X.s₀.heap.objs.size<=s.heap.objs.size:=waj I.ok.above (wfn I.lt)
theorem Inv.T6(I:Inv X pins σ H s)(h:s.heap.objs.size<=a):a∉X.fs:=λb=>by
 obtain⟨_,o,c,_⟩:=I.ok.oZ.mem b;exact absurd (waw (wae c) (waj I.sz h)) (wbh _)
theorem Inv.MX(I:Inv X pins σ H s):∀x c,X.env.cells.lookup x=some c->c≠X.env.locals:=λx c e z=>by
 obtain⟨v,o,d,hd⟩:=I.cell x c e;obtain⟨m,⟨f,g,h,a,b,_⟩,_⟩:=I.loc;rw[z,a]at d;cases d;rw[b]at hd;cases hd
theorem Inv.oZ(I:Inv X pins σ H s):s.heap.FunFrames X.base X.outer:=by
 have all:∀(l:List Env),(∀b∈rX l,b∈X.fs)->X.s₀.heap.FunFrames X.base l->s.heap.FunFrames X.base l:=by
  intro l
  induction l with
  |nil=>intro _ _;trivial
  |cons env r g=>
   intro f hl;obtain⟨hk,⟨L,o,a,hn,h,hd⟩,i⟩:=hl;have c:L∈X.fs:=f L (by unfold rX;rw[wbg,a];exact waf);obtain⟨sl,e⟩:=I.base.slot L o h (I.ok.K7 L c) c λz=>I.ok.EL L z c;exact⟨hk,⟨L,_,a,hn,e,hd⟩,g (λb d=>f b (by unfold rX;rw[wbg,a];exact wac _ d)) i⟩
 exact all X.outer (λ_ d=>d) I.ok.oZ
theorem Inv.stack(I:Inv X pins σ H s):s.heap.FunFrames X.base X.stack:=by
 rcases I.ok.OV with e |⟨e,a⟩
 ·rw[e];exact I.oZ
 ·rw[e];obtain⟨m,hn,_⟩:=I.loc;refine .cons (by rw[I.ok.kind];decide) a hn ?_ I.oZ;exact Heap.get?_none_of_le (waj I.ok.GJ I.ok.above)
theorem Inv.uo(I:Inv X pins σ H s):∀b∈rX X.stack,b∈X.env.locals::X.fs:=λb a=>by
 rcases I.ok.OV with e |⟨e,c⟩
 ·grind
 ·grind [rX]
theorem Inv.tY(I:Inv X pins σ H s):∀b∈rX X.stack,H b=none:=λb a=>by
 rcases waC.mp (I.uo b a) with e |a
 ·rw[e];exact I.free
 ·obtain⟨_,o,c,_⟩:=I.ok.oZ.mem a;exact I.base.free b o c (I.ok.K7 b a) λz=>I.ok.EL b z a
theorem Inv.step{g':Array wdr}{t':Nat}{d':Drawn}{ch:List Addr}(I:Inv X pins σ H s)
 (g:∀b∈ch,(b∈X.ex\/X.s₀.heap.objs.size<=b)/\b≠X.env.locals/\(∀x c,X.env.cells.lookup x=some c->c≠b)/\∀p∈X.pn++pins,p.1≠b)
 (keep:∀b o,b≠X.env.locals->b∉X.fs->b∉ch->s.heap.get? b=some o->H b=none->h'.get? b=some o)
 (slot:∀b o,b≠X.env.locals->b∈X.fs->b∉ch->s.heap.get? b=some o->H b=none->∃sl,h'.get? b=some {o with slots:=sl}) (free:∀b o,b∉ch->s.heap.get? b=some o->H b=none->H' b=none)
 (there:∀b o,b∉ch->s.heap.get? b=some o->∃C,h'.get? b=some C)
 (uk:∀b xs,H b=some (.tup xs)->H' b=some (.tup xs)) (tJ:∀b o u,H b=some (.frz o u)->H' b=some (.frz o u)) (um:∀b ps,H b=some (.tbl ps)->∃more,H' b=some (.tbl (ps++more)))
 (ns:∀m,s.heap.Ns X.env.locals m->h'.Ns X.env.locals m) (b4:jt X.prog X.w H' h') (T:AllBare g') :
 Inv X pins σ H' {s with heap:=h',gens:=g',drawn:=d',toks:=t'}:=by
 have B:∀b o,X.s₀.heap.get? b=some o->b≠X.env.locals:=λb o e=>war (waw (wae e) I.ok.above)
 have j:∀b o,X.s₀.heap.get? b=some o->b∉X.ex->b∉ch:=λb o e a y=>by
  rcases(g b y).1 with z |z
  ·exact a z
  ·exact absurd (waw (wae e) z) (wbh _)
 have f:∀x c,X.env.cells.lookup x=some c->∀v,s.heap.IsCell c v->h'.IsCell c v:=λx c e v ⟨o,A,hd⟩=>by
  have h:c∉ch:=λz=>(g c z).2.2.1 x c e rfl
  by_cases hc:c∈X.fs
  ·obtain⟨sl,q⟩:=slot c o (I.MX x c e) hc h A (I.ju x c e);exact⟨_,q,hd⟩
  ·exact⟨o,keep c o (I.MX x c e) hc h A (I.ju x c e),hd⟩
 refine⟨I.ok,I.os,T,⟨λb o e n y a=>?_,λb o e n y a=>?_,λb o e n a=>?_,λb o e a=>?_,λb xs e=>uk b xs (I.base.uk b xs e),λb o xs e=>tJ b o xs (I.base.tJ b o xs e),λb ps e=>?_⟩,?_,λx c e=>?_,?_,λx c e=>?_,λp G=>?_,b4,I.len⟩
 ·exact keep b o (B b o e) y (j b o e a) (I.base.keep b o e n y a) (I.base.free b o e n a)
 ·obtain⟨sl,t⟩:=I.base.slot b o e n y a;obtain⟨E,D⟩:=slot b _ (B b o e) y (j b o e a) t (I.base.free b o e n a);exact⟨E,D⟩
 ·obtain⟨C,t⟩:=I.base.there b o e a;exact free b C (j b o e a) t (I.base.free b o e n a)
 ·obtain⟨C,t⟩:=I.base.there b o e a;exact there b C (j b o e a) t
 ·obtain⟨m1,t⟩:=I.base.um b ps e;obtain⟨L,D⟩:=um b _ t;exact⟨m1++L,by rw[D,Array.append_assoc]⟩
 ·obtain⟨m,hn,hl⟩:=I.loc;refine⟨m,ns m hn,λi x v t D M=>?_⟩;obtain⟨u,r,l⟩:=hl i x v t D M;refine⟨u,r,?_⟩;rcases l with l |⟨k,c,e,z⟩
  ·exact .inl l
  ·exact .inr ⟨k,c,e,f x c e _ z⟩
 ·obtain⟨v,z⟩:=I.cell x c e;exact⟨v,f x c e v z⟩
 ·obtain⟨m,⟨o,_,_,A,_⟩,_⟩:=I.loc;exact free _ o (λz=>(g _ z).2.1 rfl) A I.free
 ·obtain⟨v,o,A,hd⟩:=I.cell x c e;exact free c o (λz=>(g c z).2.2.1 x c e rfl) A (I.ju x c e)
 ·obtain⟨e,n,ne,J,d⟩:=I.pin p G;have h:p.1∉ch:=λz=>(g p.1 z).2.2.2 p G rfl;exact⟨keep p.1 p.2 ne J h e n,free p.1 p.2 h e n,ne,J,d⟩
theorem Inv.un{t':Nat}(I:Inv X pins σ H s)(u:Un X.fs [] H H' s.heap h')(b4:jt X.prog X.w H' h'):Inv X pins σ H' {s with heap:=h',toks:=t'}:=by
 obtain⟨m,⟨o,k,l,g,r⟩,_⟩:=id I.loc;obtain⟨sl,h⟩:=u.any g I.free (by simp)
 exact I.step (g':=s.gens) (d':=s.drawn) (ch:=[]) (λ_ z=>nomatch z) (λb o _ c _ e n=>u.keep b o e n c (by simp)) (λb o _ c _ e n=>u.slot b o e n c (by simp)) (λb o _ e n=>u.free b o e n (by simp)) (λb o _ e=>u.there b o e (by simp)) u.uk u.tJ u.um (λp i=>by
  obtain⟨q,d,f,a,j⟩:=i;rw[g]at a;cases a
  exact⟨_,d,f,h,j⟩) b4 I.bare
theorem Inv.call{g':Array wdr}{t':Nat}{d':Drawn}{ch:List Addr}(I:Inv X pins σ H s)(u:Un (rX X.stack) ch H H' s.heap h')(b4:jt X.prog X.w H' h')(j:AllBare g')
 (g:∀b∈ch,(b∈X.ex\/X.s₀.heap.objs.size<=b)/\b≠X.env.locals/\(∀x c,X.env.cells.lookup x=some c->c≠b)/\∀p∈X.pn++pins,p.1≠b) :
 Inv X pins σ H' {s with heap:=h',gens:=g',drawn:=d',toks:=t'}:=by
 obtain⟨m,⟨o,t,v,i,r⟩,_⟩:=id I.loc;obtain⟨sl,d⟩:=u.any i I.free λz=>(g _ z).2.1 rfl
 exact I.step (ch:=ch) g (λb o d k hc e n=>u.keep b o e n (λz=>(waC.mp (I.uo b z)).elim d k) hc) (λb o _ _ hc e n=>u.any e n hc) (λb o hc e n=>u.free b o e n hc) (λb o hc e=>u.there b o e hc) u.uk u.tJ u.um (λy l=>by
  obtain⟨A,f,h,a,q⟩:=l;rw[i]at a;cases a
  exact⟨_,f,h,d,q⟩) b4 j
theorem Inv.turned{t':Nat}{it:Addr}(I:Inv X pins σ H s)(k:∀b o,b≠it->s.heap.get? b=some o->h'.get? b=some o)(hn:H it=none)(g:it≠X.env.locals)
 (j:it∈X.ex\/X.s₀.heap.objs.size<=it) (l:∀x c,X.env.cells.lookup x=some c->c≠it) (t:∀p∈X.pn++pins,p.1≠it):Inv X pins σ H {s with heap:=h',toks:=t'}:=by
 have a:∀b u,H b=some u->b≠it:=λb u e z=>by rw[z,hn]at e;cases e
 refine I.step (g':=s.gens) (d':=s.drawn) (ch:=[it]) (λb d=>?_) (λb o _ _ hc e _=>k b o (λz=>hc (by simp[z])) e) (λb o _ _ hc e _=>⟨o.slots,k b o (λz=>hc (by simp[z])) e⟩) (λ_ _ _ _ n=>n)
  (λb o hc e=>⟨o,k b o (λz=>hc (by simp[z])) e⟩) (λ_ _ e=>e) (λ_ _ _ e=>e) (λb ps e=>⟨#[],by rw[e];simp⟩) (λm f=>?_) (λb u e=>?_) I.bare
 ·have e:b=it:=by simpa using d
  subst e;exact⟨j,g,l,t⟩
 ·obtain⟨o,h,i,w,r⟩:=f;exact⟨o,h,i,k _ o (wb9 g) w,r⟩
 ·refine(I.b4 b u e).qN (λc v hc q=>k c v ?_ q) (λ_ q=>q) λ_ _ q=>q;rcases hc with z |z
  ·rw[z];exact a b u e
  ·exact a c _ z
theorem Inv.tok(I:Inv X pins σ H s)(t:Nat):Inv X pins σ H {s with toks:=t}:=I.un (h':=s.heap) (t':=t) Un.refl I.b4
theorem Inv.kept(I:Inv X pins σ H s)(k:∀b u,s.heap.get? b=some u->h'.get? b=some u):Inv X pins σ H {s with heap:=h',toks:=t'}:=I.un (Un.kept k) (I.b4.kept k)
theorem Inv.laid(I:Inv X pins σ H s)(k:∀b u,s.heap.get? b=some u->h'.get? b=some u)(g:s.heap.objs.size<=a)(new:cb X.prog X.w (upd H a o) h' a o) :
 Inv X pins σ (upd H a o) {s with heap:=h',toks:=t'}:=I.un (Un.laid k g (I.b4.fresh g)) (I.b4.laid k g new)
theorem Inv.write(I:Inv X pins σ H s)(j:Pt (H x))(l:e=x\/H e=some (.own x))(k:∀b u,b≠e->s.heap.get? b=some u->h'.get? b=some u)(g:∃u,h'.get? e=some u)
 (new:cb X.prog X.w (upd H x o) h' x o):Inv X pins σ (upd H x o) {s with heap:=h',toks:=t'}:=I.un (Un.write j l k g) (I.b4.write j l k g new)
theorem Inv.DT(I:Inv X pins σ H s)(h:∀p∈g,s.heap.get? p.1=some p.2/\H p.1=none/\p.1≠X.env.locals/\p.1∉X.fs/\∀v,p.2.data≠.cell v):Inv X g σ H s:=
 ⟨I.ok,I.os,I.bare,I.base,I.loc,I.cell,I.free,I.ju,λp a=>(waA.mp a).elim (λz=>I.pin p (waU _ z)) (h p),I.b4,I.len⟩
theorem A8{N:List Str}(g:N.Nodup){i j:Nat}{x:Str}(a:N[i]?=some x)(b:N[j]?=some x):i=j:=by
 obtain⟨e,c⟩:=wa6.mp a;obtain⟨f,d⟩:=wa6.mp b;exact(wcg g).mp (c.trans d.symm)
theorem xH{M:Model}{A:Around}{E:Value->Shared->Prop}{i:Nat}{x:Str}{v:V}{u:Value}{Q:Unit->Shared->Prop}(I:Inv X pins σ H s)(hN:X.N.Nodup)(hi:X.N[i]?=some x)(t:Loc X.env.scope x)(r:RelV v u)
 (h:∀s',Inv X pins (σ.set i (some v)) H s'->(∃a,wfo a s.heap s'.heap/\(a=X.env.locals\/X.env.cells.lookup x=some a))->Q () s') (hf:X.fn x=true\/X.env.scope.names.lookup x=some .local:=by first |exact .inl rfl |exact .inr rfl |assumption):wpAny M A (storeName X.env x u) Q E s:=by
 obtain⟨m,hn,hl⟩:=id I.loc;have L:(X.env.scope.kind == .class ||(X.env.scope.kind == .module&&X.env.locals != X.env.globals))=false:=by rw[I.ok.kind];rfl
 have hiσ:i<σ.length:=by rw[I.len];exact(wa6.mp hi).1
 have MX:=I.MX
 have g:∀{a:Addr} {h':Heap},(∃o,s.heap.get? a=some o/\H a=none)->wfo a s.heap h'->jt X.prog X.w H h':=λ{a h'} ha f b ob e=>by
  obtain⟨_,_,B⟩:=ha;refine(I.b4 b ob e).qN (λc U hc q=>(f.2 c ?_).trans q) (λ_ q=>q) λ_ _ q=>q;rintro rfl;rcases hc with rfl |hc
  ·rw[B]at e;cases e
  ·rw[B]at hc;cases hc
 rcases t with hk |hk
 ·refine wpAny_storeName_local hk hn (λh' Z f=>?_) L;obtain⟨oL,_,_,Yj,_⟩:=id hn;refine h _ ⟨I.ok,I.os,I.bare,⟨λb o e n D t=>?_,λb o e n D t=>?_,I.base.free,λb o e t=>?_,I.base.uk,I.base.tJ,I.base.um⟩,⟨_,Z,λj y v' l C e3=>?_⟩,λy c e=>?_,I.free,I.ju,λp hp=>?_,g ⟨oL,Yj,I.free⟩ f,by simpa using I.len⟩ ⟨_,f,.inl rfl⟩
  ·exact(f.2 b (war (waw (wae e) I.ok.above))).trans (I.base.keep b o e n D t)
  ·obtain⟨sl,l⟩:=I.base.slot b o e n D t;exact⟨sl,(f.2 b (war (waw (wae e) I.ok.above))).trans l⟩
  ·obtain⟨o',l⟩:=I.base.there b o e t;exact⟨o',(f.2 b (war (waw (wae e) I.ok.above))).trans l⟩
  ·by_cases G:j=i
   ·subst G;rw[hi]at l;cases l;rw[wdj hiσ]at C;cases C;exact⟨u,r,.inl ⟨hk,by simp⟩⟩
   ·rw[wcP (wb9 G)]at C;obtain⟨u',r',q⟩:=hl j y v' l C e3;refine⟨u',r',?_⟩;rcases q with⟨k,e⟩ |⟨k,c,e,z⟩
    ·refine .inl ⟨k,?_⟩;have:y≠x:=λe=>G (A8 hN l (e ▸ hi));simp[this,e]
    ·exact .inr ⟨k,c,e,z.sameBut f (MX y c e)⟩
  ·obtain⟨U,z⟩:=I.cell y c e;exact⟨U,z.sameBut f (MX y c e)⟩
  ·obtain⟨e,n,ne,nf,d⟩:=I.pin p hp;exact⟨(f.2 p.1 ne).trans e,n,ne,nf,d⟩
 ·have J:X.fn x=true:=by
   rcases hf with z |z
   ·exact z
   ·rw[z]at hk;cases hk
  obtain⟨c,hc⟩:=I.ok.has x (.inl hk);obtain⟨U,z⟩:=I.cell x c hc;refine wpAny_storeName_cell I.ok.kind hk hc z (λh' O f=>?_);obtain⟨oc,R,S⟩:=id z;refine h {s with heap:=h'} ⟨I.ok,I.os,I.bare,⟨λb o e n D t=>?_,λb o e n D t=>?_,I.base.free,λb o e t=>?_,I.base.uk,I.base.tJ,I.base.um⟩,⟨m,hn.sameBut f (wb9 (MX x c hc)),λj y v' l C e3=>?_⟩,λy Y e=>?_,I.free,I.ju,λp hp=>?_,g ⟨oc,R,I.ju x c hc⟩ f,by simpa using I.len⟩ ⟨c,f,.inr hc⟩
  ·exact(f.2 b (war (waw (wae e) (I.ok.MV x c J hc)))).trans (I.base.keep b o e n D t)
  ·obtain⟨sl,l⟩:=I.base.slot b o e n D t;exact⟨sl,(f.2 b (war (waw (wae e) (I.ok.MV x c J hc)))).trans l⟩
  ·obtain⟨o',l⟩:=I.base.there b o e t;exact⟨o',(f.2 b (war (waw (wae e) (I.ok.MV x c J hc)))).trans l⟩
  ·by_cases G:j=i
   ·subst G;rw[hi]at l;cases l;rw[wdj hiσ]at C;cases C;exact⟨u,r,.inr ⟨.inl hk,c,hc,O⟩⟩
   ·rw[wcP (wb9 G)]at C;obtain⟨u',r',q⟩:=hl j y v' l C e3;refine⟨u',r',?_⟩;rcases q with q |⟨k,Y,e,z'⟩
    ·exact .inl q
    ·refine .inr ⟨k,Y,e,z'.sameBut f ?_⟩;rintro rfl;exact G (A8 hN l (I.ok.inj _ _ _ e hc ▸ hi))
  ·by_cases T:Y=c
   ·subst T;exact⟨_,O⟩
   ·obtain⟨w2,z2⟩:=I.cell y Y e;exact⟨w2,z2.sameBut f T⟩
  ·obtain⟨e,n,ne,nf,d⟩:=I.pin p hp;refine⟨(f.2 p.1 ?_).trans e,n,ne,nf,d⟩;intro q;rw[q,R]at e;have q':oc=p.2:=wag e;exact d U (by rw[<-q'];exact S)
theorem jv{E:Value->Shared->Prop}{Q:Unit->Shared->Prop}(I:Inv X pins σ H s)(g:X.N.Nodup)(hi:X.N[i]?=some x)(j:Loc X.env.scope x)(r:RelV v u)
 (h:∀s',Inv X pins (σ.set i (some v)) H s'->Q () s') (l:X.fn x=true\/X.env.scope.names.lookup x=some .local:=by first |exact .inl rfl |exact .inr rfl |assumption):wpAny M A (storeName X.env x u) Q E s:=
 xH I g hi j r (λs' a _=>h s' a) l
theorem Inv.xI(I:Inv X pins σ H s)(j:s'.os=s.os)(u:Un (rX X.stack) ch H H' s.heap s'.heap)(b4:jt X.prog X.w H' s'.heap)(l:AllBare s'.gens)
 (g:∀b∈ch,(b∈X.ex\/X.s₀.heap.objs.size<=b)/\b≠X.env.locals/\(∀x c,X.env.cells.lookup x=some c->c≠b)/\∀p∈X.pn++pins,p.1≠b):Inv X pins σ H' s':=by
 obtain⟨h',g',d',t',a⟩:=s';have e:a=s.os:=j;subst e;exact I.call (g':=g') (t':=t') (d':=d') u b4 l g
end
noncomputable abbrev XK:=Value->Option Addr->Hp->Prop
noncomputable abbrev St:=List (Option V)
noncomputable abbrev VK:=V->Hp->Prop
noncomputable abbrev TE:=St->Hp->VK->Prop
noncomputable abbrev TT:=St->Hp->(Bool->Hp->Prop)->Prop
noncomputable abbrev TA:=St->Hp->(List V->Hp->Prop)->Prop
structure Ends where
 nx:St->Hp->Prop
 rt:VK
 bk:St->Hp->Prop:=λ_ _=>False
 ct:St->Hp->Prop:=λ_ _=>False
noncomputable abbrev TS:=Ends->St->Hp->Prop
def EP(X:Cx)(pins:List (Addr×Obj))(σ:St)(Q:VK)(u:Value)(s':Shared):Prop:=∃v H',Inv X pins σ H' s'/\RelV v u/\Q v H'
def TP(X:Cx)(pins:List (Addr×Obj))(σ:St)(Q:Bool->Hp->Prop)(b:Bool)(s':Shared):Prop:=∃H',Inv X pins σ H' s'/\Q b H'
def AP(X:Cx)(pins:List (Addr×Obj))(σ:St)(Q:List V->Hp->Prop)(us:List Value)(s':Shared):Prop:=∃vs H',Inv X pins σ H' s'/\Vals vs us/\Q vs H'
def SP(X:Cx)(pins:List (Addr×Obj))(D:Ends)(f:Flow)(s':Shared):Prop:=
 match f with
 |.next=>∃σ' H',Inv X pins σ' H' s'/\D.nx σ' H'
 |.brk=>∃σ' H',Inv X pins σ' H' s'/\D.bk σ' H'
 |.cont=>∃σ' H',Inv X pins σ' H' s'/\D.ct σ' H'
 |.ret u=>∃v σ' H',Inv X pins σ' H' s'/\RelV v u/\D.rt v H'
def PE(X:Cx)(e:Expr)(t:TE):Prop:=
 ∀(pins:List (Addr×Obj)) (s:Shared) (σ:St) (H:Hp) (Q:VK),Inv X pins σ H s->t σ H Q->wpAny (model X.prog X.w) X.A (eval e X.env) (EP X pins σ Q) X.xe s
def PT(X:Cx)(e:Expr)(t:TT):Prop:=
 ∀(pins:List (Addr×Obj)) (s:Shared) (σ:St) (H:Hp) (Q:Bool->Hp->Prop),Inv X pins σ H s->t σ H Q->wpAny (model X.prog X.w) X.A (isTrue e X.env (eval e X.env)) (TP X pins σ Q) X.xe s
def PW(X:Cx)(e:Expr)(t:TT):Prop:=
 ∀(whole:Sem Value) (pins:List (Addr×Obj)) (s:Shared) (σ:St) (H:Hp) (Q:Bool->Hp->Prop),Inv X pins σ H s->t σ H Q->wpAny (model X.prog X.w) X.A (isTrue e X.env whole) (TP X pins σ Q) X.xe s
theorem PW.pt{X:Cx}{e:Expr}{t:TT}(h:PW X e t):PT X e t:=h _
def PA(X:Cx)(es:List Expr)(t:TA):Prop:=
 ∀(pos:Pos) (pins:List (Addr×Obj)) (s:Shared) (σ:St) (H:Hp) (Q:List V->Hp->Prop),Inv X pins σ H s->t σ H Q->wpAny (model X.prog X.w) X.A (spliced (backTo pos (starEach es X.env))) (AP X pins σ Q) X.xe s
def PS(X:Cx)(st:Stmt)(t:TS):Prop:=
 ∀(pins:List (Addr×Obj)) (s:Shared) (σ:St) (H:Hp) (D:Ends),Inv X pins σ H s->t D σ H->wpAny (model X.prog X.w) X.A (exec st X.env) (SP X pins D) X.xe s
def wI(X:Cx)(st:List Stmt)(t:TS):Prop:=
 ∀(pins:List (Addr×Obj)) (s:Shared) (σ:St) (H:Hp) (D:Ends),Inv X pins σ H s->t D σ H->wpAny (model X.prog X.w) X.A (execs st X.env) (SP X pins D) X.xe s
theorem bO{α:Type}{t:Sem α}{Q g:α->Shared->Prop}{M:Model}{A:Around}{E:Value->Shared->Prop}{s:Shared}(h:wpAny M A t Q E s)(j:∀a s,Q a s->g a s):wpAny M A t g E s:=wb8 h j λ_ _ x=>x
section
variable{X:Cx}
inductive K8(i:Nat)(σ:St)(H:Hp)(Q:VK):Prop
 |mk (v) (_:σ[i]?=some (some v)) (_:Q v H)
def tC(v:V):TE:=λ_ H Q=>Q v H
theorem MY(j:X.N[i]?=some x)(p:Pu X.env.scope x)(hd:(x==("__debug__":Str))=false:=by decide)(g:(x==("__classdict__":Str))=false:=by decide):PE X (.Name x pos) (K8 i):=by
 intro b s σ H Q I h;obtain⟨v,e,h⟩:=h;obtain⟨m,hn,hl⟩:=I.loc;obtain⟨u,r,l⟩:=hl i x v j e p;have fin:EP X b σ Q u s:=⟨v,H,I,r,h⟩;rcases l with⟨hk,d⟩ |⟨hk,c,hc,a⟩
 ·exact wpAny_Name (wgC I.ok.kind hk hn d fin) hd
 ·rcases hk with hk |hk
  ·exact wpAny_Name (wgR I.ok.kind hk hc a fin) hd
  ·exact wpAny_Name (wpAny_loadName_free I.ok.kind hk hc a fin g) hd
theorem aq{i j pos}:PE X (.Constant (.int i) j pos) (tC (.int i)):=λ_ _ _ H _ I h=>wpAny_Constant_int ⟨.int i,H,I.tok _,⟨_,rfl⟩,h⟩
theorem gX{b j pos}:PE X (.Constant (.bool b) j pos) (tC (.bl b)):=λ_ _ _ H _ I h=>Constant_bool ⟨.bl b,H,I,rfl,h⟩
theorem gu{j pos}:PE X (.Constant .none j pos) (tC .non):=λ_ _ _ H _ I h=>Constant_none ⟨.non,H,I,rfl,h⟩
theorem eV{x j pos}:PE X (.Constant (.str x) j pos) (tC (.str x)):=λ_ _ _ H _ I h=>wh0 ⟨.str x,H,I.tok _,⟨_,rfl⟩,h⟩
def Gl(X:Cx)(x:Str):Prop:=X.env.kindOf x=some .globalImplicit
theorem gK{E:Value->Shared->Prop}{Q:Value->Shared->Prop}(I:Inv X g σ H s)(j:Gl X x)(l:X.mg x=some u)(h:Q u s)
 (hd:(x==("__debug__":Str))=false:=by decide):wpAny (model X.prog X.w) X.A (eval (.Name x pos) X.env) Q E s:=
 wf0 I.ok.kind j (Calls.loadGlobal_global (by rw[I.ok.glob];exact I.mod.glob.keeps I.bk) l h) hd
theorem gv{E:Value->Shared->Prop}{Q:Value->Shared->Prop}(I:Inv X g σ H s)(j:Gl X x)(l:X.mg x=none)(p:waV x=some u)(h:Q u s)
 (hn:x≠"__name__":=by decide) (hd:(x==("__debug__":Str))=false:=by decide):wpAny (model X.prog X.w) X.A (eval (.Name x pos) X.env) Q E s:=by
 obtain⟨c,a,b⟩:=I.mod.blt;exact wf0 I.ok.kind j (Calls.loadGlobal_builtin (by rw[I.ok.glob];exact I.mod.glob.keeps I.bk) l (by rw[I.ok.blt];exact a.keeps I.bk) ((b x hn).trans p) h) hd
theorem tZ(g:Gl X x)(j:X.mg x=some u)(r:RelV v u)(hd:(x==("__debug__":Str))=false:=by decide):PE X (.Name x pos) (tC v):=
 λ_ _ _ H _ I h=>gK I g j ⟨v,H,I,r,h⟩ hd
theorem iA(g:Gl X x)(j:X.mg x=none)(l:waV x=some u)(r:RelV v u)(hn:x≠"__name__":=by decide)(hd:(x==("__debug__":Str))=false:=by decide):PE X (.Name x pos) (tC v):=
 λ_ _ _ H _ I h=>gv I g j l ⟨v,H,I,r,h⟩ hn hd
variable{a b:Expr}{ta tb:TE}{pos:Pos}
def PC(X:Cx)(op:CmpOp)(a b:Expr)(t:TE):Prop:=
 ∀(pins:List (Addr×Obj)) (s:Shared) (σ:St) (H:Hp) (Q:VK),Inv X pins σ H s->t σ H Q ->
  wpAny (model X.prog X.w) X.A (eval a X.env) (λv s₁=>wpAny (model X.prog X.w) X.A (eval b X.env) (λu s₂=>wpAny (model X.prog X.w) X.A (wbk op v u) (EP X pins σ Q) X.xe s₂) X.xe s₁) X.xe s
theorem GK(b:Expr)(h:op≠.In)(g:op≠.NotIn):wd2 op b=false:=by
 have a:(op==CmpOp.In)=false:=by grind
 have c:(op==CmpOp.NotIn)=false:=by grind
 cases b<;>simp[wd2,a,c]
inductive VN(x:V)(H:Hp)(Q:Bool->Hp->Prop):Prop
 |mk (c) (_:x=.bl c) (_:Q c H)
def tB(t:TE):TT:=λσ H Q=>t σ H λx H1=>VN x H1 Q
theorem yR{op:CmpOp}{t:TE}(h:PC X op a b t)(g:wd2 op b=false:=by first |exact GK _ (by decide) (by decide) |rfl):PT X (.Compare a [op] [b] pos) (tB t):=by
 intro e s σ H Q I hw;refine wgk (bO (h e s σ H _ I hw) λv m g=>bO g λu n f=>bO f λc o ⟨x,i,j,k,l⟩=>?_) g;obtain⟨d,rfl,q⟩:=l;cases k;exact wbO ⟨i,j,q⟩
theorem cQ{e:Expr}{t:TE}(h:PE X e t)(g:∀whole,isTrue e X.env whole=(do let v <-whole;standAt e.pos;holding [v] (truthy v)):=by intro _;rfl):PT X e (tB t):=by
 intro a s σ H Q I hw;refine isTrue_plain (bO (h a s σ H _ I hw) λv j ⟨x,b,c,f,i⟩=>?_) (g _);obtain⟨d,rfl,q⟩:=i;cases f;exact wbO ⟨b,c,q⟩
variable{tA S2:TT}{rest:List Expr}
def T7(t u:TT):TT:=λσ H Q=>t σ H λc H1=>if c=true then u σ H1 Q else Q false H1
def Yk(t u:TT):TT:=λσ H Q=>t σ H λc H1=>if c=true then Q true H1 else u σ H1 Q
def T8(t:TT):TT:=λσ H Q=>t σ H λc H1=>Q (!c) H1
theorem DU(ha:PT X a tA):PW X (.BoolOp .And [a] pos) tA:=by
 intro d b s σ H Q I h;refine isTrue_and (bO (ha b s σ H Q I h) λc f e=>?_)
 cases c with
 |true=>exact isTrue_and_nil e
 |false=>exact e
theorem m3(ha:PT X a tA):PW X (.BoolOp .Or [a] pos) tA:=by
 intro d b s σ H Q I h;refine isTrue_or (bO (ha b s σ H Q I h) λc f e=>?_)
 cases c with
 |false=>exact isTrue_or_nil e
 |true=>exact e
theorem GL(ha:PT X a tA)(j:PW X (.BoolOp .And (b::rest) pos) S2):PW X (.BoolOp .And (a::b::rest) pos) (T7 tA S2):=by
 intro i d s σ H Q I h;refine isTrue_and (bO (ha d s σ H _ I h) λc k ⟨e,f,g⟩=>?_)
 cases c with
 |true=>exact j i d k σ e Q f g
 |false=>exact⟨e,f,g⟩
theorem j7(ha:PT X a tA)(j:PW X (.BoolOp .Or (b::rest) pos) S2):PW X (.BoolOp .Or (a::b::rest) pos) (Yk tA S2):=by
 intro i d s σ H Q I h;refine isTrue_or (bO (ha d s σ H _ I h) λc k ⟨e,f,g⟩=>?_)
 cases c with
 |true=>exact⟨e,f,g⟩
 |false=>exact j i d k σ e Q f g
theorem eW(ha:PT X a tA):PT X (.UnaryOp .Not a pos) (T8 tA):=by
 intro b s σ H Q I h;exact isTrue_not (ha b s σ H (λc d=>Q (!c) d) I h)
def Pw(ta tb:TE):TE:=λσ H Q=>ta σ H λx H1=>∃c,x=.bl c/\if c=true then tb σ H1 Q else Q (.bl false) H1
def Px(ta:TE):TE:=λσ H Q=>ta σ H λx H1=>∃c,x=.bl c/\Q (.bl (!c)) H1
theorem C3{op}(h:PE X a t):PE X (.BoolOp op [a] pos) t:=λb s σ H Q I hw=>BoolOp_one (h b s σ H Q I hw)
theorem C4(ha:PE X a ta)(j:PE X (.BoolOp .And (b::rest) pos) tb):PE X (.BoolOp .And (a::b::rest) pos) (Pw ta tb):=by
 intro d s σ H Q I h;refine BoolOp_and (bO (ha d s σ H _ I h) λv i ⟨x,f,g,k,e⟩=>?_);obtain⟨c,rfl,e⟩:=e;cases k;refine wbO ?_
 cases c with
 |true=>exact j d i σ f Q g e
 |false=>exact⟨.bl false,f,g,rfl,e⟩
theorem GN(ha:PE X a ta):PE X (.UnaryOp .Not a pos) (Px ta):=by
 intro b s σ H Q I h;refine UnaryOp_ (bO (ha b s σ H _ I h) λv i ⟨x,e,f,g,d⟩=>?_);obtain⟨c,rfl,d⟩:=d;cases g;exact not_of (wbO ⟨.bl (!c),e,f,rfl,d⟩)
def Yl(t:TT)(ta tb:TE):TE:=λσ H Q=>t σ H λc H1=>if c=true then ta σ H1 Q else tb σ H1 Q
theorem A9{c:Expr}(hc:PT X c tA)(ha:PE X a ta)(l:PE X b tb):PE X (.IfExp c a b pos) (Yl tA ta tb):=by
 intro e s σ H Q I h;refine wpAny_IfExp (bO (hc e s σ H _ I h) λd f ⟨g,i,j⟩=>?_)
 cases d with
 |true=>exact ha e f σ g Q i j
 |false=>exact l e f σ g Q i j
end
def aM(K:wa2)(H:Hp)(a:Addr)(xs:List V):Prop:=
 Rd H a (.lst xs) \/
  ∃(o:Obj) (its:Array Value) (n:Nat),K.lookup a=some o/\o.cls=.type "list"/\o.dict=none/\o.data=.seq its n/\its.size<=sizeLine/\Vals xs its.toList
def gL(K:wa2)(H:Hp)(a:Addr)(xs:List V):Prop:=
 Rd H a (.tup xs) \/
  ∃(o:Obj) (its:Array Value) (n:Nat),K.lookup a=some o/\o.cls=.type "tuple"/\o.data=.seq its n/\its.size<=sizeLine/\Vals xs its.toList
noncomputable def T9:Value->Option V
 |.none=>some .non
 |.bool b=>some (.bl b)
 |.int i _=>some (.int i)
 |.str x _=>some (.str x)
 |.bytes b _=>some (.byt b)
 |.float b _=>some (.flt b)
 |.ref a=>some (.ref a)
 |.type n=>some (.ty n)
 |_=>none
theorem RelV.abs{x:V}{u:Value}(r:RelV x u):T9 u=some x:=by
 cases x with
 |non=>cases r;rfl
 |bl _=>cases r;rfl
 |int _=>obtain⟨t,rfl⟩:=r;rfl
 |str _=>obtain⟨t,rfl⟩:=r;rfl
 |byt _=>obtain⟨t,rfl⟩:=r;rfl
 |flt _=>obtain⟨t,rfl⟩:=r;rfl
 |ref _=>cases r;rfl
 |ty _=>cases r;rfl
theorem RelV.inj{x y:V}{u:Value}(r:RelV x u)(q:RelV y u):x=y:=wag (r.abs.symm.trans q.abs)
theorem Vals.inj:∀{xs ys:List V} {us:List Value},Vals xs us->Vals ys us->xs=ys
 |_,_,_,.nil,.nil=>rfl
 |_,_,_,.cons r t,.cons a b=>by rw[r.inj a,Vals.inj t b]
section
variable{X:Cx}{pins:List (Addr×Obj)}{σ:St}{H:Hp}{s:Shared}{a:Addr}{xs ys:List V}
theorem aM.of{K:wa2}(h:H a=some (.lst xs)):aM K H a xs:=.inl (.inl h)
theorem gL.of{K:wa2}(h:H a=some (.tup xs)):gL K H a xs:=.inl (.inl h)
theorem Inv.list(I:Inv X pins σ H s)(h:aM X.K H a xs):∃g:List Value,Vals xs g/\PlainL s.heap a g.toArray/\xs.length<=sizeLine:=by
 rcases h with h |⟨o,g,n,hk,hc,hd,b,c,r⟩
 ·obtain⟨z,g,n,r,e⟩:=h.ok I.b4;exact⟨g,r,⟨_,n,e,rfl,rfl,rfl⟩,z⟩
 ·refine⟨g.toList,r,⟨o,n,I.iz a o hk,hc,hd,by simpa using b⟩,?_⟩;have e:=r.length;simp only[wcx]at e;omega
theorem Inv.tuple(I:Inv X pins σ H s)(h:gL X.K H a xs):∃g:List Value,Vals xs g/\IsTup s.heap a g.toArray/\xs.length<=sizeLine:=by
 rcases h with h |⟨o,g,n,hk,hc,b,c,r⟩
 ·obtain⟨z,g,r,p⟩:=h.ok I.b4;exact⟨g,r,p,z⟩
 ·refine⟨g.toList,r,⟨o,I.iz a o hk,hc,n,by simpa using b⟩,?_⟩;have e:=r.length;simp only[wcx]at e;omega
theorem Inv.p0(I:Inv X pins σ H s)(h:aM X.K H a xs)(h':aM X.K H a ys):xs=ys:=by
 obtain⟨c,r,⟨o,n,e,_,_,d⟩,_⟩:=I.list h;obtain⟨b,i,⟨j,k,f,_,_,g⟩,_⟩:=I.list h';rw[e]at f;cases f;rw[d]at g;injection g with l _
 have:c=b:=by grind
 subst this;exact r.inj i
end
noncomputable abbrev Cx.om(X:Cx)(E:Value->Shared->Prop):Cx:={X with xe:=E}
noncomputable abbrev Cx.M9(X:Cx):Cx:=X.om λ_ _=>False
theorem Cx.Ok.om{X:Cx}(ok:X.Ok)(E:Value->Shared->Prop):(X.om E).Ok:=
 ⟨ok.mod,ok.kind,ok.glob,ok.blt,ok.above,ok.inj,ok.has,ok.MV,ok.hd,ok.frames,ok.OV,ok.S0,ok.bs,ok.GJ,ok.C0,ok.EL,ok.oZ,ok.K7⟩
theorem Cx.Ok.gw{X:Cx}{E:Value->Shared->Prop}(ok:(X.om E).Ok):X.Ok:=
 ⟨ok.mod,ok.kind,ok.glob,ok.blt,ok.above,ok.inj,ok.has,ok.MV,ok.hd,ok.frames,ok.OV,ok.S0,ok.bs,ok.GJ,ok.C0,ok.EL,ok.oZ,ok.K7⟩
section
variable{X:Cx}{pins:List (Addr×Obj)}{σ:St}{H:Hp}{s:Shared}{E:Value->Shared->Prop}
theorem Inv.om(I:Inv X pins σ H s)(E:Value->Shared->Prop):Inv (X.om E) pins σ H s:=⟨I.ok.om E,I.os,I.bare,I.base,I.loc,I.cell,I.free,I.ju,I.pin,I.b4,I.len⟩
theorem Inv.gw(I:Inv (X.om E) pins σ H s):Inv X pins σ H s:=⟨I.ok.gw,I.os,I.bare,I.base,I.loc,I.cell,I.free,I.ju,I.pin,I.b4,I.len⟩
theorem SP.gw(h:SP (X.om E) pins D f s'):SP X pins D f s':=by
 cases f with
 |next=>obtain⟨a,b,I,q⟩:=h;exact⟨a,b,I.gw,q⟩
 |brk=>obtain⟨a,b,I,q⟩:=h;exact⟨a,b,I.gw,q⟩
 |cont=>obtain⟨a,b,I,q⟩:=h;exact⟨a,b,I.gw,q⟩
 |ret u=>obtain⟨v,a,b,I,r,q⟩:=h;exact⟨v,a,b,I.gw,r,q⟩
theorem wI.M9{st:List Stmt}{t:TS}(h:wI X.M9 st t):wI X st t:=λpins s σ H D I hw=>
 wb8 (h pins s σ H D (I.om _) hw) (λ_ _ q=>q.gw) λ_ _ z=>wb1 z
end
section
variable{X:Cx}{st:Stmt}{rest:List Stmt}{t u:TS}{e:Expr}{te:TE}{pos:Pos}
def Py:TS:=λD σ H=>D.nx σ H
def MZ(t u:TS):TS:=λD σ H=>t {D with nx:=u D} σ H
theorem aQ:wI X [] Py:=λ_ _ σ H _ I h=>wco ⟨σ,H,I,h⟩
theorem a7(g:PS X st t)(j:wI X rest u):wI X (st::rest) (MZ t u):=by
 intro a s σ H D I h;refine wcV (bO (g a s σ H {D with nx:=u D} I h) λf c q=>?_)
 cases f with
 |next=>
  obtain⟨b,d,e,q⟩:=q;exact j a c b d D e q
 |ret v=>exact q
 |brk=>exact q
 |cont=>exact q
theorem ag(g:PS X st t):wI X [st] t:=by
 intro a s σ H D I h;refine wcV (bO (g a s σ H D I h) λf b q=>?_)
 cases f with
 |next=>exact wco q
 |ret v=>exact q
 |brk=>exact q
 |cont=>exact q
theorem Inv.quiet(I:Inv X g σ H s):interactive X.env=false:=by simp[interactive,I.ok.kind]
def Pz(te:TE):TS:=λD σ H=>te σ H λ_ H1=>D.nx σ H1
theorem bu(g:PE X e te)(hs:wc6 e none pos.line X.env=pure false:=by rfl):PS X (.Expr e pos) (Pz te):=by
 intro a s σ H D I h;exact wpAny_Expr_any (bO (g a s σ H _ I h) λv f ⟨x,b,c,i,d⟩=>⟨σ,b,c,d⟩) I.quiet hs
def Ta(te:TE):TS:=λD σ H=>te σ H D.rt
theorem aB(g:PE X e te):PS X (.Return (some e) pos) (Ta te):=by
 intro a s σ H D I h;exact wpAny_Return_some (bO (g a s σ H _ I h) λv i ⟨x,b,c,d,f⟩=>⟨x,σ,b,c,d,f⟩)
def Tb(c:TT)(t u:TS):TS:=λD σ H=>c σ H λb H1=>if b=true then t D σ H1 else u D σ H1
theorem bK{c:Expr}{a b:List Stmt}{g:TT}(hc:PT X c g)(ha:wI X a t)(l:wI X b u):PS X (.If c a b pos) (Tb g t u):=by
 intro e s σ H D I h;refine wpAny_If (bO (hc e s σ H _ I h) λd f ⟨i,j,k⟩=>?_)
 cases d with
 |true=>exact ha e f σ i D j k
 |false=>exact l e f σ i D j k
def N0:TS:=λ_ _ _=>False
theorem dg:wI X g N0:=λ_ _ _ _ _ _ h=>h.elim
end
noncomputable abbrev TG:=V->St->Hp->(St->Hp->Prop)->Prop
noncomputable abbrev Sa:=List V->St->Hp->(St->Hp->Prop)->Prop
def PG(X:Cx)(target:Expr)(t:TG):Prop:=
 ∀(pins:List (Addr×Obj)) (s:Shared) (σ:St) (H:Hp) (v:V) (u:Value) (Q:St->Hp->Prop),Inv X pins σ H s->RelV v u->t v σ H Q ->
  wpAny (model X.prog X.w) X.A (assign target X.env u) (λ_ s'=>∃σ' H',Inv X pins σ' H' s'/\Q σ' H') X.xe s
def Sb(X:Cx)(ts:List Expr)(t:Sa):Prop:=
 ∀(pins:List (Addr×Obj)) (s:Shared) (σ:St) (H:Hp) (vs:List V) (us:List Value) (Q:St->Hp->Prop),Inv X pins σ H s->Vals vs us->t vs σ H Q ->
  wpAny (model X.prog X.w) X.A (assignInOrder ((wds ts X.env).map (·.2)) us) (λ_ s'=>∃σ' H',Inv X pins σ' H' s'/\Q σ' H') X.xe s
noncomputable abbrev N1:=V->V->V->Hp->(Hp->Prop)->Prop
def PB(X:Cx)(t:N1):Prop:=
 ∀(pins:List (Addr×Obj)) (s:Shared) (σ:St) (H:Hp) (o i v:V) (ov iv u:Value) (Q:Hp->Prop),Inv X pins σ H s->RelV o ov->RelV i iv->RelV v u->t o i v H Q ->
  wpAny (model X.prog X.w) X.A (setItem ov iv u) (λ_ s'=>∃H',Inv X pins σ H' s'/\Q H') X.xe s
noncomputable abbrev PD:=V->V->Hp->VK->Prop
def Sd(X:Cx)(op:Operator)(t:PD):Prop:=
 ∀(pins:List (Addr×Obj)) (s:Shared) (σ:St) (H:Hp) (x y:V) (v u:Value) (Q:VK),Inv X pins σ H s->RelV x v->RelV y u->t x y H Q ->
  wpAny (model X.prog X.w) X.A (inplaceOp op v u) (EP X pins σ Q) X.xe s
section
variable{X:Cx}{pos:Pos}
def dD(i:Nat):TG:=λv σ H Q=>Q (σ.set i (some v)) H
theorem jZ(g:X.N.Nodup)(hi:X.N[i]?=some x)(j:Loc X.env.scope x)(l:X.fn x=true\/X.env.scope.names.lookup x=some .local:=by first |exact .inl rfl |exact .inr rfl |assumption):PG X (.Name x pos) (dD i):=by
 intro a s σ H v u Q I r h;exact wpAny_assign_Name (jv I g hi j r (λc b=>⟨_,H,b,h⟩) l)
inductive GO(vs:List V)(σ:St)(H:Hp)(Q:St->Hp->Prop):Prop
 |mk (_:vs=[]) (_:Q σ H)
inductive m4(t:TG)(u:Sa)(vs:List V)(σ:St)(H:Hp)(Q:St->Hp->Prop):Prop
 |mk (v r) (_:vs=v::r) (_:t v σ H λσ' H'=>u r σ' H' Q)
theorem cB:Sb X [] GO:=by
 intro a s σ H b c Q I r h;obtain⟨e,h⟩:=h;subst e;cases r;exact assignInOrder_nil ⟨σ,H,I,h⟩
theorem aK{e:Expr}{g:List Expr}{t:TG}{u:Sa}(j:PG X e t)(l:Sb X g u)
 (hs:(wds (e::g) X.env).map (·.2)=assign e X.env::(wds g X.env).map (·.2):=by rfl):Sb X (e::g) (m4 t u):=by
 intro a s σ H n o Q I r h;obtain⟨v,p,c,h⟩:=h;subst c
 cases r with
 |cons r d=>
  rw[hs];refine assignInOrder_cons (bO (j a s σ H _ _ _ I r h) λ_ f ⟨b,i,k,m⟩=>?_);exact l a f b i _ _ Q k d m
inductive GP(K:wa2)(n:Nat)(t:Sa)(v:V)(σ:St)(H:Hp)(Q:St->Hp->Prop):Prop
 |mk (a xs) (_:v=.ref a) (_:gL K H a xs) (_:xs.length=n) (_:t xs σ H Q)
theorem dG(hc:X.calm=true)(h:Sb X g t)
 (hn:(wds g X.env).length=n:=by rfl) (j:(wds g X.env).findIdx? (·.1)=none:=by rfl):PG X (.Tuple g k pos) (GP X.K n t):=by
 intro c s σ H v u Q I r hw;obtain⟨a,f,i,l,hl,hw⟩:=hw;subst i;cases r;obtain⟨m,d,p,y⟩:=I.tuple l;refine assign_Tuple_tuple (I.ok.hd hc) p (by simp[hn,<-hl,d.length]) j λq w=>?_;have x:Inv X c σ H {s with heap:=q}:=I.kept (t':=s.toks) λb o e=>w b o (war (wae e)) e;exact h c _ σ H f _ Q x (by simpa using d) hw
def Tc(to ti:TE)(t:N1):TG:=λv σ H Q=>to σ H λo H1=>ti σ H1 λi H2=>t o i v H2 λH3=>Q σ H3
theorem GQ{o i:Expr}{l p:TE}{t:N1}(C:PE X o l)(hi:PE X i p)(hs:PB X t)
 (ha:∀v,assign (.Subscript o i pos) X.env v=(do
   let g <-holding [v] (eval o X.env)
   let j <-holding [v,g] (eval i X.env)
   standAt pos
   holding [v,g,j] (setItem g j v)
   release [v,g,j] []):=by intro _;rfl):PG X (.Subscript o i pos) (Tc l p t):=by
 intro a s σ H v u Q I r h;rw[ha];refine wa7 (wbm (bO (C a s σ H _ I h) λg b ⟨x,c,d,e,f⟩=>?_));refine wa7 (wbm (bO (hi a b σ c _ d f) λj k ⟨y,m,n,q,w⟩=>?_));refine wa7 (wdz (wa7 (wbm (bO (hs a k σ m x y v g j u _ n e q r w) λ_ D ⟨z,A,B⟩=>?_))));exact wpAny_release ⟨σ,z,A,B⟩
def K9(te:TE)(g:TG):TS:=λD σ H=>te σ H λx H1=>g x σ H1 D.nx
theorem uq{j e:Expr}{l:TE}{g:TG}(p:PE X e l)(r:PG X j g)(hs:swapsWithSole [j] e pos.line X.env=pure false:=by rfl)(hw:swappedStores [j] e X.env=pure none:=by rfl)
 (t:(wds [j] X.env).map (·.2)=[assign j X.env]:=by rfl):PS X (.Assign [j] e pos) (K9 l g):=by
 intro a s σ H D I h;refine wpAny_Assign_stores (bO (p a s σ H _ I h) λv b ⟨x,c,d,f,i⟩=>?_) hs hw;rw[t];exact bO (r a b σ c x v _ d f i) λ_ k q=>q
theorem GR{i:Nat}{x:Str}{e:Expr}{j:TE}{g:Pos}(l:X.N.Nodup)(hi:X.N[i]?=some x)(p:Loc X.env.scope x)(r:PE X e j)(hs:wc6 e (some (.Name x g)) pos.line X.env=pure false:=by rfl)(t:X.fn x=true\/X.env.scope.names.lookup x=some .local:=by first |exact .inl rfl |exact .inr rfl |assumption) :
 PS X (.Assign [.Name x g] e pos) (K9 j (dD i)):=by
 intro a s σ H D I h;refine we3 (bO (r a s σ H _ I h) λv m ⟨y,b,c,d,f⟩=>?_) hs;exact jv c l hi p d (λn k=>⟨_,b,k,f⟩) t
inductive Td(i:Nat)(te:TE)(ti:PD)(D:Ends)(σ:St)(H:Hp):Prop
 |mk (x) (_:σ[i]?=some (some x)) (_:te σ H λy H1=>ti x y H1 λz H2=>D.nx (σ.set i (some z)) H2)
theorem ur{i:Nat}{x:Str}{e:Expr}{p:TE}{op:Operator}{t:PD}{g:Pos}(C:X.N.Nodup)(hi:X.N[i]?=some x)(j:Loc X.env.scope x)(J:PE X e p)(T:Sd X op t)(U:X.fn x=true\/X.env.scope.names.lookup x=some .local:=by first |exact .inl rfl |exact .inr rfl |assumption) :
 PS X (.AugAssign (.Name x g) op e pos) (Td i p t):=by
 intro a s σ H D I h;obtain⟨v,o,h⟩:=h;obtain⟨m,hn,hl⟩:=I.loc;have n:Pu X.env.scope x:=by rcases j with k |k;exact .inl k;exact .inr (.inl k)
 obtain⟨u,r,l⟩:=hl i x v hi o n;refine wpAny_AugAssign_Name ?_
 have go:wpAny (model X.prog X.w) X.A (eval e X.env) (λw d=>wpAny (model X.prog X.w) X.A (inplaceOp op u w) (λr f=>wpAny (model X.prog X.w) X.A (storeName X.env x r) (λ_=>SP X a D .next) X.xe f) X.xe d) X.xe s:=by
  refine bO (J a s σ H _ I h) λw q ⟨y,B,E,G,L⟩=>?_;refine bO (T a q σ B v y u w _ E r G L) λz Y ⟨Z,M,O,Q,R⟩=>?_;exact jv O C hi j Q (λs3 S=>⟨_,M,S,R⟩) U
 rcases l with⟨hk,V⟩ |⟨hk,c,hc,b⟩
 ·exact wgC I.ok.kind hk hn V go
 ·rcases hk with hk |hk
  ·exact wgR I.ok.kind hk hc b go
  ·rcases j with k |k
   ·have:X.env.scope.names.lookup x=some .free:=hk;rw[k]at this;cases this
   ·have:X.env.scope.names.lookup x=some .free:=hk;rw[k]at this;cases this
noncomputable def Ym(f:Int->Int->Int):PD:=λx y H Q=>∃i j,x=.int i/\y=.int j/\Q (.int (f i j)) H
theorem GU:Sd X .Add (Ym λi j=>i+j):=by
 intro a s σ H x y v u Q I b c h;obtain⟨i,j,d,e,q⟩:=h;subst d;subst e;obtain⟨t,rfl⟩:=b;obtain⟨f,rfl⟩:=c;exact iadd_int ⟨.int _,H,I.tok _,⟨_,rfl⟩,q⟩
end
section
variable{X:Cx}{pos:Pos}
def N2(c:TT)(tb:TS):TS:=λD σ H=>∃W:Nat->St->Hp->Prop,(∃m,W m σ H)/\∀m σ H,W m σ H ->
 c σ H λb H1=>if b=true then ∃N:St->Hp->Prop,(∀σ' H',N σ' H'->∃m',m'<m/\W m' σ' H')/\tb {D with nx:=N,ct:=N,bk:=D.nx} σ H1 else D.nx σ H1
theorem jw{c:Expr}{body:List Stmt}{t:TT}{C:TS}(J:PassesOwn (model X.prog X.w) X.A X.env X.xe)(hc:PT X c t)(T:wI X body C):PS X (.While c body [] pos) (N2 t C):=by
 intro a s σ H D I h;obtain⟨W,⟨E,G⟩,g⟩:=h;refine wpAny_While (codeAny_whileLoop (λn L=>∃i u,Inv X a i u L/\W n i u) ?_ E ⟨σ,H,I,G⟩);rintro n M ⟨e,x,O,Q⟩;refine wcH J (bO (hc a M e x _ O (g n e x Q)) λb R ⟨y,z,k⟩=>?_)
 cases b with
 |true=>
  obtain⟨N,B,k⟩:=k;rw[if_pos rfl];refine wcH J (bO (T a R e y _ z k) λf S l=>?_)
  cases f with
  |next=>
   obtain⟨d,j,m,o⟩:=l;obtain⟨p,q,r⟩:=B d j o;exact⟨p,q,d,j,m,r⟩
  |cont=>
   obtain⟨d,j,m,o⟩:=l;obtain⟨p,q,r⟩:=B d j o;exact⟨p,q,d,j,m,r⟩
  |brk=>exact l
  |ret v=>exact l
 |false=>
  rw[if_neg wap];exact wco ⟨e,y,z,k⟩
end
structure It where
 go:Nat->Hp->Prop
 u0:Nat->Hp->V->Hp->Prop
 stop:Nat->Hp->Prop
def wJ(X:Cx)(pins:List (Addr×Obj))(H:Hp)(b:Addr):Prop:=
 H b=none/\b≠X.env.locals/\b∉X.fs/\(b∈X.ex\/X.s₀.heap.objs.size<=b)/\(∀x c,X.env.cells.lookup x=some c->c≠b)/\∀p∈X.pn++pins,p.1≠b
theorem Inv.wK{X:Cx}(I:Inv X g σ H s)(j:s.heap.objs.size<=b)(hn:l b=none):wJ X g l b:=by
 refine⟨hn,wbU (waw I.lt j),I.T6 j,.inr (waj I.sz j),λx c e z=>?_,λp a z=>?_⟩
 ·obtain⟨v,q⟩:=I.cell x c e;exact absurd (waw q.lt (by rw[z];exact j)) (wbh _)
 ·exact absurd (waw (wae (I.pin p a).1) (by rw[z];exact j)) (wbh _)
structure Turn(P:wau)(w:World)(K:wa2)(tg:Expr)(J:It)(fp:List Addr)(it:Addr)(tn:Nat->Heap->Prop):Prop where
 mem:it∈fp
 obj:∀i h,tn i h->∀b∈fp,∃o,h.get? b=some o/\∀v,o.data≠.cell v
 keep:∀i h h',tn i h->(∀b∈fp,∀o,h.get? b=some o->h'.get? b=some o)->tn i h'
 item:∀(X:Cx),X.prog=P->X.w=w->X.K=K->X.calm=true->∀(i:Nat) (pins:List (Addr×Obj)) (s:Shared) (σ:St) (H:Hp) (E:Value->Shared->Prop),Inv X pins σ H s->(∀b∈fp,wJ X pins H b)->tn i s.heap->J.go i H ->
  wpAny (model P w) X.A (pyNext (.ref it)) (λr s1=>∃u,r=some u /\
   wpAny (model P w) X.A (weq tg (.ref it) u) (λ_ s2=>∃x H',Inv X pins σ H' s2/\RelV x u/\J.u0 i H x H'/\tn (i+1) s2.heap/\∀b∈fp,H' b=none) E s1) E s
 done:∀(X:Cx),X.prog=P->X.w=w->X.K=K->X.calm=true->∀(i:Nat) (pins:List (Addr×Obj)) (s:Shared) (σ:St) (H:Hp) (E:Value->Shared->Prop),Inv X pins σ H s->(∀b∈fp,wJ X pins H b)->tn i s.heap->J.stop i H ->
   wpAny (model P w) X.A (pyNext (.ref it)) (λr s1=>r=none/\Inv X pins σ H s1) E s
 self:∀(A:Around) (i:Nat) (s:Shared) (Q:Value->Shared->Prop) (E:Value->Shared->Prop),tn i s.heap->Q (.ref it) s->wpAny (model P w) A (pyIter (.ref it)) Q E s
noncomputable abbrev TI:=St->Hp->(It->Hp->Prop)->Prop
def OW(X:Cx)(pins:List (Addr×Obj))(σ:St)(tg:Expr)(R:It->Hp->Prop)(Te:Value)(s2:Shared):Prop:=
 ∃(it:Addr) (fp:List Addr) (tn:Nat->Heap->Prop) (J:It) (H':Hp),Te=.ref it/\Inv X pins σ H' s2/\Turn X.prog X.w X.K tg J fp it tn/\tn 0 s2.heap/\(∀b∈fp,wJ X pins H' b)/\R J H'
def PI(X:Cx)(tg iter:Expr)(wi:TI):Prop:=
 ∀(pins:List (Addr×Obj)) (s:Shared) (σ:St) (H:Hp) (R:It->Hp->Prop),Inv X pins σ H s->wi σ H R ->
  wpAny (model X.prog X.w) X.A (eval iter X.env) (λv s1=>wpAny (model X.prog X.w) X.A (pyIter v) (OW X pins σ tg R) X.xe s1) X.xe s
theorem xJ{E:Value->Shared->Prop}{Q:Unit->Shared->Prop}(j:s.heap.get? it=some o)(hc:o.cls=.type n)(hd:o.data=.fields vs)
 (hn:["enumerate","zip","dict_itemiterator","dict_reverseitemiterator","odict_iterator","itertools.zip_longest","itertools.pairwise"].contains n=false) (g:Q () s):wpAny M A (weq l (.ref it) u) Q E s:=by
 unfold weq
 cases l<;>first
  |exact wax g
  |(cases u<;>first
     |exact wax g
     |(refine wa7 (wpAny_load j ?_)
       rw[hc,hd];show wpAny M A (if (["enumerate","zip","dict_itemiterator","dict_reverseitemiterator","odict_iterator","itertools.zip_longest","itertools.pairwise"].contains n&&vs[0]?==some (rawInt _))=true then _ else _) Q E s;rw[if_neg (by grind)]
       exact wax g))
noncomputable def OX(K:wa2)(a:Addr):It:=
 ⟨λi H=>∃xs x,aM K H a xs/\xs[i]?=some x,λi H x H'=>H'=H/\∀xs,aM K H a xs->xs[i]?=some x,λi H=>∃xs,aM K H a xs/\xs.length<=i⟩
noncomputable def Ma(lo:Int)(n:Nat):It:=⟨λi _=>i<n,λi H x H'=>H'=H/\x=.int (lo+i),λi _=>n<=i⟩
theorem ER{P:wau}{w:World}{K:wa2}{T:Expr}(a it:Addr):Turn P w K T (OX K a) [it] it (λi h=>h.IsListIter it a i) where
 mem:=by simp
 obj:=λi h st b g=>by
  have e:b=it:=by simpa using g
  subst e;obtain⟨o,e,c,d⟩:=st;exact⟨o,e,λv z=>by rw[d]at z;cases z⟩
 keep:=λi h l st k=>st.at λo e=>k it (by simp) o e
 item:=by
  intro X q hw r hc i f s σ H E I m st t;subst q hw r;obtain⟨L,x,n,y⟩:=t;obtain⟨A,B,p,M⟩:=I.list n;obtain⟨u,N,O⟩:=B.get y;obtain⟨C,f1,f2,D,G,J⟩:=m it (by simp);refine wpAny_pyNext_list_item st p.isList (x:=u) (by simpa using N) λl j sb=>?_;have Q:Inv X f σ H {s with heap:=l}:=I.turned (t':=s.toks) (λb o g e=>(sb.2 b g).trans e) C f1 D G J;obtain⟨o,e,c,d⟩:=id j;exact⟨u,rfl,xJ (s:={s with heap:=l}) e c d (by decide) ⟨x,H,Q,O,⟨rfl,λU R=>by rw[I.p0 R n];exact y⟩,j,λb g=>(m b g).1⟩⟩
 done:=by
   intro X q hw r hc i f s σ H E I m st t;subst q hw r;obtain⟨L,n,y⟩:=t;obtain⟨A,B,p,M⟩:=I.list n;obtain⟨C,f1,f2,D,G,J⟩:=m it (by simp);have hl:=B.length;exact wpAny_pyNext_list_end (I.ok.hd hc) st p.isList (by simp;omega) λl S=>⟨rfl,I.turned (t':=s.toks) (λb o g e=>S b o g e) C f1 D G J⟩
 self:=λ_ _ _ _ _ st h=>wpAny_pyIter_listiter st h
theorem C5{P:wau}{w:World}{K:wa2}{C:Expr}(it:Addr)(lo:Int)(n:Nat):Turn P w K C (Ma lo n) [it] it (λi h=>wg0 h it (lo+(i:Nat)*1) ((n:Int)-(i:Nat)) 1) where
 mem:=by simp
 obj:=λi h st b c=>by
  have e:b=it:=by simpa using c
  subst e
  exact⟨_,st,λv z=>by
   have y:wdC _=weU v:=z
   cases y⟩
 keep:=λi h f st k=>k it (by simp) _ st
 item:=by
  intro X j hw l hc i a s σ H E I g st m;subst j hw l;obtain⟨p,f1,f2,q,r,u⟩:=g it (by simp);have A:=Walks.range (prog:=X.prog) (w:=X.w) (I.ok.hd hc) it lo 1 n;refine A.item i s _ _ m st λv f x B d D=>?_;obtain⟨t,rfl⟩:=B;have G:Inv X a σ H {s with heap:=f,toks:=x}:=I.turned (λb o c e=>D b o (by simpa using c) e) p f1 q r u;refine⟨_,rfl,xJ (s:={s with heap:=f,toks:=x}) (n:="range_iterator") d rfl rfl (by decide) ⟨.int (lo+i),H,G,⟨t,?_⟩,⟨rfl,rfl⟩,d,λb c=>(g b c).1⟩⟩;rw[Int.mul_one]
 done:=by
   intro X j hw l hc i a s σ H E I g st m;subst j hw l;obtain⟨p,f1,f2,q,r,u⟩:=g it (by simp);exact wg1 (I.ok.hd hc) st (by have:n<=i:=m;omega) λf J=>⟨rfl,I.turned (t':=s.toks) (λb o c e=>J b o c e) p f1 q r u⟩
 self:=λ_ _ _ _ _ st h=>wg2 st h
section
variable{X:Cx}{tg:Expr}
def PF(K:wa2)(tl:TE):TI:=λσ H R=>tl σ H λx H1=>∃a,x=.ref a/\(∃xs,aM K H1 a xs)/\R (OX K a) H1
theorem aN{l:Expr}{g:TE}(hl:PE X l g):PI X tg l (PF X.K g):=by
 intro c s σ H R I h;refine bO (hl c s σ H _ I h) λv d ⟨x,i,f,j,k⟩=>?_;obtain⟨a,e,⟨t,m⟩,q⟩:=k;subst e;cases j;obtain⟨n,u,p,w⟩:=f.list m;refine wcM p.isList ?_;refine⟨d.heap.objs.size,[d.heap.objs.size],_,_,i,rfl,f.kept (t':=d.toks) λb o e=>wa8 _ e,ER a _,⟨_,waq _ rfl,rfl,rfl⟩,λb r=>?_,q⟩;have e:b=d.heap.objs.size:=by simpa using r
 subst e;exact f.wK (waa _) (f.b4.fresh (waa _))
theorem Aa{g:List (Addr×Obj)}{σ:St}{H:Hp}{s:Shared}{R:It->Hp->Prop}{E:Value->Shared->Prop}{lo hi:Int}{t u v:Tok}{tk:Nat}(I:Inv X g σ H s)(j:-(2^62)<=lo)(l:lo<2^62)(p:-(2^62)<=hi)(r:hi<2^62)
 (q:R (Ma lo (hi-lo).toNat) H):wpAny (model X.prog X.w) X.A (pyIter (.ref s.heap.objs.size)) (OW X g σ tg R) E {s with heap:=s.heap.push {cls:=.type "range",data:=.fields #[.int lo t,.int hi u,.int 1 v]},toks:=tk}:=by
 refine wpAny_pyIter_range (wi0 ..) (small_one j l p r) ?_;have a:Inv X g σ H {s with heap:=s.heap.push {cls:=.type "range",data:=.fields #[.int lo t,.int hi u,.int 1 v]},toks:=tk}:=I.kept λb o e=>wa8 _ e
 refine⟨(s.heap.push {cls:=.type "range",data:=.fields #[.int lo t,.int hi u,.int 1 v]}).objs.size,[(s.heap.push {cls:=.type "range",data:=.fields #[.int lo t,.int hi u,.int 1 v]}).objs.size],_,_,H,rfl,
  a.kept (t':=tk) λb o e=>wa8 _ e,C5 _ lo (hi-lo).toNat,?_,λb c=>?_,q⟩
 ·have d:lo+((0:Nat):Int)*1=lo:=by simp
  have f:(((hi-lo).toNat:Nat):Int)-((0:Nat):Int)=wcY lo hi 1:=by rw[rangeSize_one];split<;>omega
  show wg0 _ _ (lo+((0:Nat):Int)*1) ((((hi-lo).toNat:Nat):Int)-((0:Nat):Int)) 1;rw[d,f];exact waq _ rfl
 ·have e:b=(s.heap.push {cls:=.type "range",data:=.fields #[.int lo t,.int hi u,.int 1 v]}).objs.size:=by simpa using c
  subst e;exact a.wK (waa _) (a.b4.fresh (waa _))
def PH(ta:TA):TI:=λσ H R=>ta σ H λvs H1=>∃j:Int,vs=[.int j]/\-(2^62)<=j/\j<2^62/\R (Ma 0 j.toNat) H1
def PK(ta:TA):TI:=λσ H R=>ta σ H λvs H1=>∃i j:Int,vs=[.int i,.int j]/\(-(2^62)<=i/\i<2^62/\-(2^62)<=j/\j<2^62)/\R (Ma i (j-i).toNat) H1
theorem cT(g:Gl X "range")(l:X.mg "range"=none)(ha:PA X [a] C)(hs:starEach [a] X.env=[(false,eval a X.env)]:=by rfl):PI X tg (.Call (.Name "range" p) [a] [] pos) (PH C):=by
 intro b s σ H R I h;refine Call_ (gv I g l boot_range (wbr (bO (ha pos b s σ H _ I h) λm n ⟨o,u,d,f,c⟩=>?_) hs rfl));obtain⟨j,e,c,i,q⟩:=c;subst e
 cases f with
 |cons r k=>
  cases k;obtain⟨t,rfl⟩:=r;exact call_range_1 (Aa d (by omega) (by omega) c i (by simpa using q))
theorem qO(l:Gl X "range")(C:X.mg "range"=none)(ha:PA X [a,b] J)(hs:starEach [a,b] X.env=[(false,eval a X.env),(false,eval b X.env)]:=by rfl)(g:starEach [b] X.env=[(false,eval b X.env)]:=by rfl) :
 PI X tg (.Call (.Name "range" p) [a,b] [] pos) (PK J):=by
 intro c s σ H R I h;refine Call_ (gv I l C boot_range (wbr (bO (ha pos c s σ H _ I h) λw x ⟨y,z,k,m,d⟩=>?_) (by rw[hs,g]) (by rw[g];rfl)));obtain⟨i,j,e,⟨d,n,o,u⟩,q⟩:=d;subst e
 cases m with
 |cons r f=>
  cases f with
  |cons v f=>
   cases f;obtain⟨t,rfl⟩:=r;obtain⟨A,rfl⟩:=v;exact call_range_2 (Aa k d n o u q)
def Tf(wi:TI)(g:TG)(tb:TS):TS:=λD σ H=>wi σ H λJ H1=>∃W:Nat->Nat->St->Hp->Prop,(∃m,W 0 m σ H1)/\∀i m σ H,W i m σ H ->
 (J.stop i H/\D.nx σ H)\/(J.go i H/\∃N:St->Hp->Prop,(∀σ' H',N σ' H'->∃m',m'<m/\W (i+1) m' σ' H')/\∀x H',J.u0 i H x H'->g x σ H' λσ2 H2=>tb {D with nx:=N,ct:=N,bk:=D.nx} σ2 H2)
noncomputable def uv(fp:List Addr)(h:Heap):List (Addr×Obj):=fp.filterMap λb=>(h.get? b).map λo=>(b,o)
theorem k6(g:b∈j)(e:h.get? b=some o):(b,o)∈uv j h:=wd7.mpr ⟨b,g,by rw[e];rfl⟩
theorem EV(g:p∈uv j h):p.1∈j/\h.get? p.1=some p.2:=by
 obtain⟨b,a,e⟩:=wd7.mp g
 cases q:h.get? b with
 |none=>grind
 |some o=>
  grind
theorem Inv.pinned(I:Inv X g σ H s)(l:∀b∈j,wJ X g H b)(r:∀b∈j,∃o,s.heap.get? b=some o/\∀v,o.data≠.cell v):Inv X (g++uv j s.heap) σ H s:=
 I.DT λp f=>(waA.mp f).elim (λz=>I.pin p (waJ _ z)) λz=>by
  obtain⟨a,e⟩:=EV z;obtain⟨h,f1,f2,_⟩:=l p.1 a;obtain⟨o,c,d⟩:=r p.1 a;rw[e]at c;cases c;exact⟨e,h,f1,f2,d⟩
theorem Inv.p5(I:Inv X (g++pl) σ H s):Inv X g σ H s:=I.DT λp a=>I.pin p (waJ _ (waU _ a))
theorem b0(C:PassesOwn (model X.prog X.w) X.A X.env X.xe)(hc:X.calm=true)(hi:PI X tg iter wi)(hg:PG X tg g)(j:wI X body tb)
 (hs:∀x,wc4 iter X.env x=pure x:=by intro _;rfl):PS X (.For tg iter body [] pos) (Tf wi g tb):=by
 intro a s σ H D I h;refine wpAny_For (bO (hi a s σ H _ I h) λv s1 h1=>bO h1 λTe s2 h2=>?_) hs;obtain⟨it,E,tn,J,H2,e,I2,T,R,f2,W,⟨m0,w0⟩,G⟩:=h2;subst e;have k:∀{y:Hp},(∀b∈E,y b=none)->∀b∈E,wJ X a y b:=λhn b j=>⟨hn b j,(f2 b j).2⟩;refine codeAny_forLoop_any (λn s'=>∃i l y,Inv X a l y s'/\tn i s'.heap/\(∀b∈E,y b=none)/\W i n l y) ?_ m0 ⟨0,σ,H2,I2,R,λb j=>(f2 b j).1,w0⟩;rintro n s3 ⟨i,p,Q,I3,L,M,w3⟩;rcases G i n p Q w3 with⟨stop,qn⟩ |⟨go,N,hN,step⟩
 ·refine wcH C (bO (T.done X rfl rfl rfl hc i a s3 p Q X.xe I3 (k M) L stop) λr s4 ⟨S,I4⟩=>?_);subst S;exact wco ⟨p,Q,I4,qn⟩
 ·refine wcH C (bO (T.item X rfl rfl rfl hc i a s3 p Q X.xe I3 (k M) L go) λr s4 ⟨u,S,h4⟩=>?_);subst S;refine wcH C (bO h4 λ_ s5 ⟨x,H5,I5,r5,y5,B,U⟩=>?_);have V:=I5.pinned (k U) (T.obj _ _ B);refine wcH C (bO (hg _ s5 p H5 x u _ V r5 (step x H5 y5)) λ_ s6 ⟨Y,H6,I6,q6⟩=>?_);refine wcH C (bO (j _ s6 Y H6 _ I6 q6) λf Z z=>?_)
  have again:∀{c:St} {q:Hp},Inv X (a++uv E s5.heap) c q Z->N c q->∃m,m<n/\∃i l y,Inv X a l y Z/\tn i Z.heap/\(∀b∈E,y b=none)/\W i m l y:=λ{c q} t O=>by
   obtain⟨m',hm,w7⟩:=hN c q O;refine⟨m',hm,i+1,c,q,t.p5,T.keep _ _ _ B λb j o e=>(t.pin (b,o) (waJ _ (waJ _ (k6 j e)))).1,λb j=>?_,w7⟩;obtain⟨o,e,d⟩:=T.obj _ _ B b j;exact(t.pin (b,o) (waJ _ (waJ _ (k6 j e)))).2.1
  cases f with
  |next=>obtain⟨c,q,t,O⟩:=z;exact again t O
  |cont=>obtain⟨c,q,t,O⟩:=z;exact again t O
  |brk=>obtain⟨c,q,t,z⟩:=z;exact⟨c,q,t.p5,z⟩
  |ret v=>obtain⟨x7,c,q,t,r7,z⟩:=z;exact⟨x7,c,q,t.p5,r7,z⟩
end
theorem dh{K:wa2}{a:Addr}{xs:List V}{g:TG}{C:TS}{D:Ends}{σ:St}{H:Hp}(Pv:Nat->St->Hp->Prop)(h0:Pv 0 σ H)(hl:∀i σ H,i<=xs.length->Pv i σ H->aM K H a xs)
 (hs:∀i x σ H,xs[i]?=some x->Pv i σ H->g x σ H λj t=>C {D with nx:=Pv (i+1),ct:=Pv (i+1),bk:=D.nx} j t) (hd:∀σ H,Pv xs.length σ H->D.nx σ H) :
 ∃W:Nat->Nat->St->Hp->Prop,(∃m,W 0 m σ H)/\∀i m σ H,W i m σ H ->
  ((OX K a).stop i H/\D.nx σ H)\/((OX K a).go i H/\∃N:St->Hp->Prop,(∀l r,N l r->∃I,I<m/\W (i+1) I l r)/\∀x r,(OX K a).u0 i H x r->g x σ r λj t=>C {D with nx:=N,ct:=N,bk:=D.nx} j t):=by
 refine⟨λi m σ H=>m=xs.length-i/\i<=xs.length/\Pv i σ H,⟨xs.length,by simp,waB _,h0⟩,?_⟩;rintro i m σ H ⟨rfl,hi,p⟩;have q:=hl i σ H hi p
 by_cases b:i<xs.length
 ·refine .inr ⟨⟨xs,xs[i],q,by simp[b]⟩,Pv (i+1),λl r c=>⟨xs.length-(i+1),by omega,rfl,b,c⟩,λx r y=>?_⟩;obtain⟨e,y⟩:=y;subst e;exact hs i x σ _ (y xs q) p
 ·have e:i=xs.length:=by omega
  subst e;exact .inl ⟨⟨xs,q,waa _⟩,hd σ H p⟩
theorem cU{lo:Int}{n:Nat}{g:TG}{C:TS}{D:Ends}{σ:St}{H:Hp}(Pv:Nat->St->Hp->Prop)(h0:Pv 0 σ H)
 (hs:∀i σ H,i<n->Pv i σ H->g (.int (lo+i)) σ H λj t=>C {D with nx:=Pv (i+1),ct:=Pv (i+1),bk:=D.nx} j t) (hd:∀σ H,Pv n σ H->D.nx σ H) :
 ∃W:Nat->Nat->St->Hp->Prop,(∃m,W 0 m σ H)/\∀i m σ H,W i m σ H ->
  ((Ma lo n).stop i H/\D.nx σ H)\/((Ma lo n).go i H/\∃N:St->Hp->Prop,(∀l r,N l r->∃I,I<m/\W (i+1) I l r)/\∀x r,(Ma lo n).u0 i H x r->g x σ r λj t=>C {D with nx:=N,ct:=N,bk:=D.nx} j t):=by
 refine⟨λi m σ H=>m=n-i/\i<=n/\Pv i σ H,⟨n,by simp,waB _,h0⟩,?_⟩;rintro i m σ H ⟨rfl,hi,p⟩
 by_cases a:i<n
 ·refine .inr ⟨a,Pv (i+1),λl r b=>⟨n-(i+1),by omega,rfl,a,b⟩,λx r y=>?_⟩;obtain⟨e,y⟩:=y;subst e y;exact hs i σ _ a p
 ·have e:i=n:=by omega
  subst e;exact .inl ⟨waa _,hd σ H p⟩
noncomputable abbrev R2:=V->V->Hp->VK->Prop
def nA(X:Cx)(f:Value->Value->Sem Value)(r:R2):Prop:=
 ∀(pins:List (Addr×Obj)) (s:Shared) (σ:St) (H:Hp) (x y:V) (v u:Value) (Q:VK),Inv X pins σ H s->RelV x v->RelV y u->r x y H Q ->
  wpAny (model X.prog X.w) X.A (f v u) (EP X pins σ Q) X.xe s
def Tg(X:Cx)(f:Value->Sem Value)(r:V->Hp->VK->Prop):Prop:=
 ∀(pins:List (Addr×Obj)) (s:Shared) (σ:St) (H:Hp) (x:V) (v:Value) (Q:VK),Inv X pins σ H s->RelV x v->r x H Q ->
  wpAny (model X.prog X.w) X.A (f v) (EP X pins σ Q) X.xe s
def eF(X:Cx)(f:Value)(r:List V->Hp->VK->Prop):Prop:=
 ∀(pins:List (Addr×Obj)) (s:Shared) (σ:St) (H:Hp) (xs:List V) (us:List Value) (Q:VK),Inv X pins σ H s->Vals xs us->r xs H Q ->
  wpAny (model X.prog X.w) X.A (call f us) (EP X pins σ Q) X.xe s
def Se(r:R2)(ta tb:TE):TE:=λσ H Q=>ta σ H λx H1=>tb σ H1 λy H2=>r x y H2 Q
def Yn(r:V->Hp->VK->Prop)(ta:TE):TE:=λσ H Q=>ta σ H λx H1=>r x H1 Q
inductive rI(C:Int->Int->Prop)(g:Int->Int->V)(x y:V)(H:Hp)(Q:VK):Prop
 |mk (i j) (_:x=.int i) (_:y=.int j) (_:C i j) (_:Q (g i j) H)
inductive Mb(g:Int->Int->V)(x y:V)(H:Hp)(Q:VK):Prop
 |mk (i j) (_:x=.int i) (_:y=.int j) (_:Q (g i j) H)
inductive rU(g:Int->V)(x:V)(H:Hp)(Q:VK):Prop
 |mk (i) (_:x=.int i) (_:Q (g i) H)
section
variable{X:Cx}{a b c:Expr}{ta tb tc:TE}{pos:Pos}
theorem N3(ha:PE X a ta)(C:PE X b tb){R:V->V->Hp->Prop}(I:Inv X g σ H s)
 (h:ta σ H λx t=>tb σ t λy j=>R x y j) {Q:Value->Shared->Prop} {f:Value->Value->Sem Value}
 (J:∀v u r x y j,Inv X g σ j r->RelV x v->RelV y u->R x y j->wpAny (model X.prog X.w) X.A (f v u) Q X.xe r) :
 wpAny (model X.prog X.w) X.A (eval a X.env) (λv l=>wpAny (model X.prog X.w) X.A (eval b X.env) (λu p=>wpAny (model X.prog X.w) X.A (f v u) Q X.xe p) X.xe l) X.xe s:=by
 refine bO (ha g s σ H _ I h) λv c ⟨x,t,d,e,i⟩=>?_;refine bO (C g c σ t _ d i) λu r ⟨y,j,k,m,n⟩=>?_;exact J v u r x y j k e m n
theorem aO(g:nA X (binaryOp op) r)(ha:PE X a ta)(j:PE X b tb):PE X (.BinOp a op b pos) (Se r ta tb):=by
 intro c s σ H Q I h;exact wpAny_BinOp (N3 ha j I h λv u d x y e f i k q=>g c d σ e x y v u Q f i k q)
theorem PL{r:V->Hp->VK->Prop}(g:Tg X (unaryOp op) r)(ha:PE X a ta):PE X (.UnaryOp op a pos) (Yn r ta):=by
 intro b s σ H Q I h;exact UnaryOp_ (bO (ha b s σ H _ I h) λv c ⟨x,d,e,f,i⟩=>g b c σ d x v Q e f i)
theorem Sf{f:Value->Value->Sem Value}{C:Int->Int->Prop}{g:Int->Int->Int}
 (rule:∀(i j:Int) (t u:Tok) (s:Shared) (Q:Value->Shared->Prop) (E:Value->Shared->Prop),C i j->Q (.int (g i j) s.toks) {s with toks:=s.toks+1}->wpAny (model X.prog X.w) X.A (f (.int i t) (.int j u)) Q E s) :
 nA X f (rI C λi j=>.int (g i j)):=by
 intro a s σ H x y v u Q I b c h;obtain⟨i,j,rfl,rfl,hc,q⟩:=h;obtain⟨t,rfl⟩:=b;obtain⟨d,rfl⟩:=c;exact rule i j t d s _ _ hc ⟨.int (g i j),H,I.tok _,⟨_,rfl⟩,q⟩
theorem PN{f:Value->Value->Sem Value}{g:Int->Int->Int}
 (rule:∀(i j:Int) (t u:Tok) (s:Shared) (Q:Value->Shared->Prop) (E:Value->Shared->Prop),Q (.int (g i j) s.toks) {s with toks:=s.toks+1}->wpAny (model X.prog X.w) X.A (f (.int i t) (.int j u)) Q E s) :
 nA X f (Mb λi j=>.int (g i j)):=by
 intro a s σ H x y v u Q I b c h;obtain⟨i,j,rfl,rfl,q⟩:=h;obtain⟨t,rfl⟩:=b;obtain⟨d,rfl⟩:=c;exact rule i j t d s _ _ ⟨.int (g i j),H,I.tok _,⟨_,rfl⟩,q⟩
theorem Ka{f:Value->Value->Sem Value}{g:Int->Int->Bool}
 (rule:∀(i j:Int) (t u:Tok) (s:Shared) (Q:Value->Shared->Prop) (E:Value->Shared->Prop),Q (.bool (g i j)) s->wpAny (model X.prog X.w) X.A (f (.int i t) (.int j u)) Q E s) :
 nA X f (Mb λi j=>.bl (g i j)):=by
 intro a s σ H x y v u Q I b c h;obtain⟨i,j,rfl,rfl,q⟩:=h;obtain⟨t,rfl⟩:=b;obtain⟨d,rfl⟩:=c;exact rule i j t d s _ _ ⟨.bl (g i j),H,I,rfl,q⟩
def Th(i j:Int):Prop:=0<j/\j<1073741824
def Kb(i j:Int):Prop:=(-(2^64)<i/\i<2^64)\/(-(2^64)<j/\j<2^64)
theorem Kb.ok{i j:Int}(h:Kb i j):IntMulOk i j:=by
 rcases h with⟨a,b⟩ |⟨a,b⟩
 ·exact .of_left (intBits_le_64 a b)
 ·exact .of_right (intBits_le_64 a b)
theorem dH:nA X (binaryOp .Add) (Mb λi j=>.int (i+j)):=PN λ_ _ _ _ _ _ _ q=>add_int q
theorem uw:nA X (binaryOp .Sub) (Mb λi j=>.int (i-j)):=PN λ_ _ _ _ _ _ _ q=>sub_int q
theorem gx:nA X (binaryOp .Mult) (rI Kb λi j=>.int (i*j)):=Sf λ_ _ _ _ _ _ _ hc q=>mul_int q hc.ok
theorem u3:nA X (binaryOp .FloorDiv) (rI Th λi j=>.int (i/j)):=Sf λi j _ _ _ _ _ hc q=>by
 have a:(0:Int)<j:=hc.1;have b:j<1073741824:=hc.2;exact floordiv_int (by omega) (by rw[Int.fdiv_eq_ediv_of_nonneg i (by omega)];exact q) (.inl (wg3 (by omega)))
theorem dZ:nA X (binaryOp .Mod) (rI (λ_ j=>0<j) λi j=>.int (i%j)):=Sf λi j _ _ _ _ _ hc q=>by
 have a:(0:Int)<j:=hc;exact mod_int' (by omega) (by rw[Int.fmod_eq_emod_of_nonneg i (by omega)];exact q)
theorem Yo{f:Value->Sem Value}{g:Int->Int}
 (rule:∀(i:Int) (t:Tok) (s:Shared) (Q:Value->Shared->Prop) (E:Value->Shared->Prop),Q (.int (g i) s.toks) {s with toks:=s.toks+1}->wpAny (model X.prog X.w) X.A (f (.int i t)) Q E s) :
 Tg X f (rU λi=>.int (g i)):=by
 intro a s σ H x v Q I b h;obtain⟨i,rfl,q⟩:=h;obtain⟨t,rfl⟩:=b;exact rule i t s _ _ ⟨.int (g i),H,I.tok _,⟨_,rfl⟩,q⟩
theorem N4:Tg X (unaryOp .USub) (rU λi=>.int (-i)):=Yo λ_ _ _ _ _ q=>neg_int q
end
noncomputable def PQ:V->V->Bool
 |.non,.non=>true |.non,.int _=>true |.int _,.non=>true |.non,.bl _=>true |.bl _,.non=>true |.non,.str _=>true |.str _,.non=>true
 |.int _,.int _=>true |.bl _,.bl _=>true |.str _,.str _=>true |.byt _,.byt _=>true
 |.int _,.str _=>true |.str _,.int _=>true |.bl _,.str _=>true |.str _,.bl _=>true
 |_,_=>false
inductive Yp(x y:V)(H:Hp)(Q:VK):Prop
 |mk (_:PQ x y=true) (_:Q (.bl (decide (x=y))) H)
inductive Yq(x y:V)(H:Hp)(Q:VK):Prop
 |mk (_:PQ x y=true) (_:Q (.bl (!decide (x=y))) H)
theorem DV:decide (V.int i=V.int j)=(i==j):=by
 rw[wer];simp
theorem GV:decide (V.bl i=V.bl j)=(i==j):=by
 rw[wer];simp
theorem DW:decide (V.str i=V.str j)=(i==j):=by
 rw[wer];simp
theorem DX:decide (V.byt i=V.byt j)=(i.toList==j.toList):=by
 rw[wer];cases i;cases j;simp
section
variable{X:Cx}{a b c:Expr}{ta tb tc:TE}{pos:Pos}
theorem bC(I:Inv X g σ H s)(q:Q (.bl k) H)(e:k=j):EP X g σ Q (.bool j) s:=by
 subst e;exact⟨.bl k,H,I,rfl,q⟩
theorem rY:nA X (wbk .Eq) Yp:=by
 intro e s σ H x y v u Q I d a h;obtain⟨c,q⟩:=h
 cases x with
 |non=>
  cases d
  cases y with
  |non=>cases a;exact PySem.EqNone.eq_none_none (bC I q (by simp))
  |bl j=>cases a;exact PySem.EqNone.eq_none_bool (bC I q (by simp))
  |int j=>obtain⟨b,rfl⟩:=a;exact PySem.EqNone.eq_none_int (bC I q (by simp))
  |str j=>obtain⟨b,rfl⟩:=a;exact PySem.EqNone.eq_none_str (bC I q (by simp))
  |_=>exact absurd (show false=true from c) wap
 |bl i=>
  cases d
  cases y with
  |non=>cases a;exact PySem.EqNone.eq_bool_none (bC I q (by simp))
  |bl j=>cases a;exact eq_bool (bC I q GV)
  |str j=>obtain⟨b,rfl⟩:=a;exact PySem.EqMixed.eq_bool_str (bC I q (by simp))
  |_=>exact absurd (show false=true from c) wap
 |int i=>
  obtain⟨t,rfl⟩:=d
  cases y with
  |non=>cases a;exact PySem.EqNone.eq_int_none (bC I q (by simp))
  |int j=>obtain⟨b,rfl⟩:=a;exact eq_int (bC I q DV)
  |str j=>obtain⟨b,rfl⟩:=a;exact PySem.EqMixed.eq_int_str (bC I q (by simp))
  |_=>exact absurd (show false=true from c) wap
 |str i=>
  obtain⟨t,rfl⟩:=d
  cases y with
  |non=>cases a;exact PySem.EqNone.eq_str_none (bC I q (by simp))
  |bl j=>cases a;exact PySem.EqMixed.eq_str_bool (bC I q (by simp))
  |int j=>obtain⟨b,rfl⟩:=a;exact PySem.EqMixed.eq_str_int (bC I q (by simp))
  |str j=>obtain⟨b,rfl⟩:=a;exact eq_str (bC I q DW)
  |_=>exact absurd (show false=true from c) wap
 |byt i=>
  obtain⟨t,rfl⟩:=d
  cases y with
  |byt j=>obtain⟨b,rfl⟩:=a;exact PySem.W.eq_bytes (bC I q DX)
  |_=>exact absurd (show false=true from c) wap
 |_=>cases y<;>exact absurd (show false=true from c) wap
theorem GW:nA X (wbk .NotEq) Yq:=by
 intro e s σ H x y v u Q I d a h;obtain⟨c,q⟩:=h
 cases x with
 |non=>
  cases d
  cases y with
  |non=>cases a;exact PySem.EqNone.ne_none_none (bC I q (by simp))
  |bl j=>cases a;exact PySem.EqNone.ne_none_bool (bC I q (by simp))
  |int j=>obtain⟨b,rfl⟩:=a;exact PySem.EqNone.ne_none_int (bC I q (by simp))
  |str j=>obtain⟨b,rfl⟩:=a;exact PySem.EqNone.ne_none_str (bC I q (by simp))
  |_=>exact absurd (show false=true from c) wap
 |bl i=>
  cases d
  cases y with
  |non=>cases a;exact PySem.EqNone.ne_bool_none (bC I q (by simp))
  |bl j=>cases a;exact ne_bool (bC I q (congrArg not GV))
  |str j=>obtain⟨b,rfl⟩:=a;exact PySem.EqMixed.ne_bool_str (bC I q (by simp))
  |_=>exact absurd (show false=true from c) wap
 |int i=>
  obtain⟨t,rfl⟩:=d
  cases y with
  |non=>cases a;exact PySem.EqNone.ne_int_none (bC I q (by simp))
  |int j=>obtain⟨b,rfl⟩:=a;exact ne_int (bC I q (congrArg not DV))
  |str j=>obtain⟨b,rfl⟩:=a;exact PySem.EqMixed.ne_int_str (bC I q (by simp))
  |_=>exact absurd (show false=true from c) wap
 |str i=>
  obtain⟨t,rfl⟩:=d
  cases y with
  |non=>cases a;exact PySem.EqNone.ne_str_none (bC I q (by simp))
  |bl j=>cases a;exact PySem.EqMixed.ne_str_bool (bC I q (by simp))
  |int j=>obtain⟨b,rfl⟩:=a;exact PySem.EqMixed.ne_str_int (bC I q (by simp))
  |str j=>obtain⟨b,rfl⟩:=a;exact ne_str (bC I q (congrArg not DW))
  |_=>exact absurd (show false=true from c) wap
 |byt i=>
  obtain⟨t,rfl⟩:=d
  cases y with
  |byt j=>obtain⟨b,rfl⟩:=a;exact PySem.W.ne_bytes (bC I q (congrArg not DX))
  |_=>exact absurd (show false=true from c) wap
 |_=>cases y<;>exact absurd (show false=true from c) wap
theorem nK:nA X (wbk .Lt) (Mb λi j=>.bl (decide (i<j))):=Ka λ_ _ _ _ _ _ _ q=>lt_int q
theorem PR:nA X (wbk .LtE) (Mb λi j=>.bl (decide (i<=j))):=Ka λ_ _ _ _ _ _ _ q=>le_int q
theorem nL:nA X (wbk .Gt) (Mb λi j=>.bl (decide (j<i))):=Ka λ_ _ _ _ _ _ _ q=>gt_int q
theorem GX:nA X (wbk .GtE) (Mb λi j=>.bl (decide (j<=i))):=Ka λ_ _ _ _ _ _ _ q=>ge_int q
theorem xK:nA X (wbk .In) (λx y H Q=>∃i j,x=.str i/\y=.str j/\Q (.bl (!(wcZ j i 0 j.length 1).isEmpty)) H):=by
 intro a s σ H x y v u Q I b c h;obtain⟨i,j,rfl,rfl,q⟩:=h;obtain⟨t,rfl⟩:=b;obtain⟨d,rfl⟩:=c;exact in_str (bC I q rfl)
theorem GY:nA X (wbk .Is) (λx y H Q=>y=.non/\Q (.bl (decide (x=.non))) H):=by
 intro a s σ H x y v u Q I b c h;obtain⟨rfl,q⟩:=h;cases c;refine is_none_gen (bC I q ?_)
 cases x<;>first
  |(cases b;rfl)
  |(obtain⟨t,rfl⟩:=b;rfl)
theorem yS:nA X (wbk .IsNot) (λx y H Q=>y=.non/\Q (.bl (!decide (x=.non))) H):=by
 intro a s σ H x y v u Q I b c h;obtain⟨rfl,q⟩:=h;cases c;refine isnot_none_gen (bC I q ?_)
 cases x<;>first
  |(cases b;rfl)
  |(obtain⟨t,rfl⟩:=b;rfl)
theorem aU(b:Expr)(h:op≠.In:=by decide)(g:op≠.NotIn:=by decide):wd2 op b=false:=by
 have a:(op==CmpOp.In)=false:=by grind
 have c:(op==CmpOp.NotIn)=false:=by grind
 cases b<;>simp[wd2,a,c]
theorem k8(g:nA X (wbk op) r)(ha:PE X a ta)(j:PE X b tb)(l:wd2 op b=false):PE X (.Compare a [op] [b] pos) (Se r ta tb):=by
 intro c s σ H Q I h;exact wpAny_Compare1 (N3 ha j I h λv u d x y e f i k q=>g c d σ e x y v u Q f i k q) l
def PU(t:TE):TT:=λσ H Q=>t σ H λx H'=>VN x H' Q
theorem aH(g:nA X (wbk op) r)(ha:PE X a ta)(j:PE X b tb)(l:wd2 op b=false):PT X (.Compare a [op] [b] pos) (PU (Se r ta tb)):=by
 intro d s σ H Q I h
 refine wgk (bO (ha d s σ H _ I h) λv f ⟨x,i,m,n,o⟩=>bO (j d f σ i _ m o) λu p ⟨y,q,t,w,A⟩=>
  bO (g d p σ q x y v u _ t n w A) λc G ⟨z,B,C,D,k,e,E⟩=>?_) l
 subst e;cases D;exact wbO ⟨B,C,E⟩
theorem oo:(sizeLine:Nat)<2^63:=by rw[wcb];decide
theorem oq:nA X (binaryOp .Add) (λx y H Q=>∃i j,x=.str i/\y=.str j/\i.length+j.length<=sizeLine/\Q (.str (i++j)) H):=by
 intro a s σ H x y v u Q I b c h;obtain⟨i,j,rfl,rfl,d,q⟩:=h;obtain⟨t,rfl⟩:=b;obtain⟨e,rfl⟩:=c;exact add_str (λe f=>⟨.str (i++j),H,I.tok _,⟨_,rfl⟩,q⟩) d
theorem Ab:nA X (inplaceOp .Add) (λx y H Q=>∃i j,x=.str i/\y=.str j/\i.length+j.length<=sizeLine/\Q (.str (i++j)) H):=by
 intro a s σ H x y v u Q I b c h;obtain⟨i,j,rfl,rfl,d,q⟩:=h;obtain⟨t,rfl⟩:=b;obtain⟨e,rfl⟩:=c;exact iadd_str (λe f=>⟨.str (i++j),H,I.tok _,⟨_,rfl⟩,q⟩) d
theorem vals1(r:Vals [x] us):∃u,us=[u]/\RelV x u:=by
 cases r with
 |cons a b=>cases b;exact⟨_,rfl,a⟩
theorem vals2(r:Vals [x,y] us):∃u g,us=[u,g]/\RelV x u/\RelV y g:=by
 cases r with
 |cons a b=>
  cases b with
  |cons c d=>cases d;exact⟨_,_,rfl,a,c⟩
theorem EW(hc:X.calm=true):eF X (.builtin "max") (λxs H Q=>∃i j,xs=[.int i,.int j]/\Q (.int (if j>i then j else i)) H):=by
 intro b s σ H xs c Q I r h;obtain⟨i,j,rfl,q⟩:=h;obtain⟨u,d,rfl,⟨t,rfl⟩,⟨e,rfl⟩⟩:=vals2 r;refine max_two_ints (I.ok.hd hc) λf g k=>⟨_,H,I.kept k,?_,q⟩
 by_cases a:j>i
 ·rw[if_pos a,if_pos a];exact⟨_,rfl⟩
 ·rw[if_neg a,if_neg a];exact⟨_,rfl⟩
theorem xM(hc:X.calm=true):eF X (.builtin "min") (λxs H Q=>∃i j,xs=[.int i,.int j]/\Q (.int (if j<i then j else i)) H):=by
 intro b s σ H xs c Q I r h;obtain⟨i,j,rfl,q⟩:=h;obtain⟨u,d,rfl,⟨t,rfl⟩,⟨e,rfl⟩⟩:=vals2 r;refine min_two_ints (I.ok.hd hc) λf g k=>⟨_,H,I.kept k,?_,q⟩
 by_cases a:j<i
 ·rw[if_pos a,if_pos a];exact⟨_,rfl⟩
 ·rw[if_neg a,if_neg a];exact⟨_,rfl⟩
end
structure C6(h:Heap)(x dx C:Addr)(mA:Str->Option Value):Prop where
 obj:h.get? x=some (wcn C dx)
 ns:h.Ns1 dx mA
 ne:dx≠x
theorem EX{h:Heap}{g:Addr}{j:Str->Option Value}(n:h.Ns1 g j):∃l,h.get? g=some l/\∀name,weM name l=some (j name):=by
 obtain⟨o,c,m,d,hd,hk,_,f⟩:=n;refine⟨o,d,λname=>?_⟩;have e:=f name;unfold nsFind findBy at e;rw[<-Array.find?_toList]at e;unfold weM;rw[hd];dsimp only;split
 ·rename_i y q;rw[q]at e;exact congrArg some e
 ·rename_i q;rw[q]at e
  have a:c.toList.any (·.refKey)=false:=by
   rw[whe];intro y i;obtain⟨z,t,b⟩:=hk y (Array.mem_toList_iff.mp i);simp[DictEntry.refKey,b]
  have k:¬c.toList.any (·.refKey)=true:=by rw[a];exact wap
  rw[if_neg k];exact congrArg some e
theorem C6.look{h:Heap}{x j C:Addr}{l:Str->Option Value}(I:C6 h x j C l):∃g,PySem.W.InstAt h x (wcn C j) C (some g)/\∀name,weM name g=some (l name):=
 let ⟨g,a,hl⟩:=EX I.ns
 ⟨g,⟨I.obj,rfl,rfl,a⟩,hl⟩
section
variable{prog:wau}{w:World}{A:Around}{E:Value->Shared->Prop}{s:Shared}{K:wa2}{x dx C f:Addr}{mA:Str->Option Value}{name:Str}{v:Value}
theorem get_map{Q:Value->Shared->Prop}(X:K.In s.heap)(I:C6 s.heap x dx C mA)(j:wed K C name=true)(l:wes K C=true)
 (ha:wbf K (.ref C) name=some none) (p:mA name=some v) (g:why v=true) (h:Q v {s with toks:=s.toks+1}) :
 wpAny (model prog w) A (getAttr (.ref x) name expr) Q E s:=by
 obtain⟨a,J,hl⟩:=I.look;exact PySem.W.get_value X J (weG j).1 (PySem.W.findObj_own l ha rfl (by rw[hl,p])) g h
theorem GZ{Q:Value×List Value->Shared->Prop}(X:K.In s.heap)(I:C6 s.heap x dx C mA)(g:wed K C name=true)
 (j:wbf K (.ref C) name=some (some (.ref f))) (l:wfp K (.ref f)=true) (p:mA name=none) (h:Q (.ref f,[.ref x]) s) :
 wpAny (model prog w) A (wfS (.ref x) name pl) Q E s:=by
 obtain⟨a,J,hl⟩:=I.look;exact PySem.W.method_fn X J (weG g).1 (weG g).2 j (beq_iff_eq.mp l) (by show (weM name a).map (·.isSome)=some false;rw[hl,p];rfl) h
theorem Kc{Q:Unit->Shared->Prop}(X:K.In s.heap)(I:C6 s.heap x dx C mA)
 (hs:wbf K (.ref C) "__setattr__"=some (some (.builtin "object.__setattr__"))) (g:wgi K C=true) (j:wfT K C name=some none) (l:wes K C=true)
 (hw:wdM mA ns) (hsz:ns.length<=sizeLine)
 (h:∀h',C6 h' x dx C (λy=>if y=name then some v else mA y)->wfo dx s.heap h'->Q () {s with heap:=h',toks:=s.toks+2}) :
 wpAny (model prog w) A (setAttr (.ref x) name v) Q E s:=by
 obtain⟨p,J,hl⟩:=I.look;refine wf7 X J hs (PySem.W.osa_open (s:={s with toks:=s.toks+1}) (r:=none) X J g j λb=>?_);obtain⟨q,hc,e⟩:=PySem.W.any_some l;have i:s.heap.get? x=some ⟨.ref C,some dx,.plain,#[]⟩:=I.obj;refine wa7 (wax (wa7 (wa7 (wgl i (wa7 (weV (s:={s with toks:=s.toks+1}) (we4 X hc) ?_))))));rw[e];refine wax (a:=some dx) (wa7 (wax (wa7 ?_)));refine wh1 (s:={s with toks:=s.toks+1}) I.ns λh' c d=>?_;obtain⟨t,k,m,f,n,o⟩:=c.count (wfU name v hw);refine wa7 (wfq f (by grind [wfr,waj]) ?_);exact wax (h _ ⟨(d.2 _ (wb9 I.ne)).trans I.obj,c,I.ne⟩ d)
theorem Ac{R:wd8->Shared->Prop}(X:K.In s.heap)(l:whK K C=true)
 (hi:wbf K (.ref C) "__init__"=some (some (.ref f))) (p:PySem.W.typeIn K (.ref f)=some (.type "function"))
 (h:codeAny (model prog w) (A.under (.builtin "type.__call__" ⟨.ref C::vs,j⟩)) (.call (.ref f) ⟨.ref (s.heap.objs.size+1)::vs,j⟩) (PySem.W.InitBack (s.heap.objs.size+1) R)
   {s with heap:=(s.heap.push wbP).push (wcn C s.heap.objs.size)}) :
 codeAny (model prog w) A (.call (.ref C) ⟨vs,j⟩) R s:=by
 obtain⟨a,g,d,t,os⟩:=s;exact PySem.W.make_core (PySem.W.makes_of X l) (weN X hi) (λself=>PySem.W.bind_fn X self p) (.inl rfl) h
end
noncomputable def cH(f:Str)(v:V):List (Str×V)->List (Str×V)
 |[]=>[(f,v)]
 |(g,x)::r=>if g=f then(g,v)::r else(g,x)::cH f v r
theorem aE(f g:Str)(v:V):∀fs:List (Str×V),(cH f v fs).lookup g=if g=f then some v else fs.lookup g
 |[]=>by
  show wg4 g [(f,v)]=_
  by_cases h:g=f
  ·grind
  ·grind
 |(k,x)::r=>by
  have a:=aE f g v r;rw[show cH f v ((k,x)::r)=(if k=f then(k,v)::r else(k,x)::cH f v r) from rfl]
  by_cases hk:k=f
  ·grind
  ·grind
theorem qP(f:Str)(v:V):∀fs:List (Str×V),f∈(cH f v fs).map (·.1)/\∀g,g∈fs.map (·.1)->g∈(cH f v fs).map (·.1)
 |[]=>⟨by simp[cH],λg h=>by simp at h⟩
 |(k,x)::r=>by
  obtain⟨a,b⟩:=qP f v r;rw[show cH f v ((k,x)::r)=(if k=f then(k,v)::r else(k,x)::cH f v r) from rfl]
  by_cases hk:k=f
  ·grind
  ·grind
theorem rZ(f:Str)(v:V):∀fs:List (Str×V),(cH f v fs).length<=fs.length+1
 |[]=>by simp[cH]
 |(k,x)::r=>by
  have a:=rZ f v r;rw[show cH f v ((k,x)::r)=(if k=f then(k,v)::r else(k,x)::cH f v r) from rfl]
  by_cases hk:k=f
  ·grind
  ·grind
theorem jl.yT(r:jl (some v) o):∃u,o=some u/\RelV v u:=by
 cases o with
 |none=>exact(show False from r).elim
 |some u=>exact⟨u,rfl,r⟩
theorem jl.none_of(r:jl none o):o=none:=by grind [jl,cases False]
theorem EY(r:RelV v u):why u=true:=by
 cases v with
 |non=>cases(show u=wbA from r);rfl
 |bl b=>cases(show u=wgB b from r);rfl
 |int i=>obtain⟨t,e⟩:=(show ∃t,u=wfQ i t from r);cases e;rfl
 |str x=>obtain⟨t,e⟩:=(show ∃t,u=wfR x t from r);cases e;rfl
 |byt b=>obtain⟨t,e⟩:=(show ∃t,u=Value.bytes b t from r);cases e;rfl
 |flt b=>obtain⟨t,e⟩:=(show ∃t,u=whs b t from r);cases e;rfl
 |ref a=>cases(show u=wan a from r);rfl
 |ty n=>cases(show u=wep n from r);rfl
section
variable{P:wau}{w:World}{H H':Hp}{h h':Heap}{a C dx:Addr}{fs Yi:List (Str×V)}
theorem u5(b4:jt P w H h)(e:H a=some (.ins C dx fs)):∃g,C6 h a dx C g/\(∀f,jl (fs.lookup f) (g f))/\wdM g (fs.map (·.1))/\fs.length<=1000/\H dx=some (.own a):=by
 obtain⟨d,z,ne,ob,g,n,r,q⟩:=(show cb P w H h a (.ins C dx fs) from b4 a _ e);exact⟨g,⟨ob,n,ne⟩,r,q,z,d⟩
end
structure BV(K:wa2)(C:Addr):Prop where
 pg:wed K C whY=true
 hd:wes K C=true
 po:wgi K C=true
 sa:wbf K (.ref C) "__setattr__"=some (some (.builtin "object.__setattr__"))
theorem BV.get{K:wa2}{C:Addr}(c:BV K C)(f:Str):wed K C f=true:=c.pg
def bU(K:wa2)(C:Addr)(f:Str):Prop:=wbf K (.ref C) f=some none
theorem bU.PV{K:wa2}{C:Addr}{f:Str}(n:bU K C f):wfT K C f=some none:=by
 unfold wfT;rw[show wbf K (.ref C) f=some none from n];rfl
structure Kd(K:wa2)(C:Addr)(m:Str)(f:Addr):Prop where
 at_:wbf K (.ref C) m=some (some (.ref f))
 fn:wfp K (.ref f)=true
 kp:wcT K (.ref f)=true
section
variable{X:Cx}{pins:List (Addr×Obj)}{σ:St}{H:Hp}{s:Shared}{a C dx:Addr}{fs:List (Str×V)}{f:Str}{v:V}{A:Around}{E:Value->Shared->Prop}
theorem C7{Q:Value->Shared->Prop}(I:Inv X pins σ H s)(e:H a=some (.ins C dx fs))(c:BV X.K C)(n:bU X.K C f)(l:fs.lookup f=some v)
 (h:∀u s',Inv X pins σ H s'->RelV v u->Q u s'):wpAny (model X.prog X.w) A (getAttr (.ref a) f b) Q E s:=by
 obtain⟨g,O,r,_,_,_⟩:=u5 I.b4 e;obtain⟨u,i,d⟩:=jl.yT (v:=v) (o:=g f) (by grind);exact get_map I.iz O (c.get f) c.hd n i (EY d) (h u _ (I.tok _) d)
theorem ux{Q:Value×List Value->Shared->Prop}(I:Inv X pins σ H s)(e:H a=some (.ins C dx fs))(c:BV X.K C)(k:Kd X.K C m g)(l:fs.lookup m=none)
 (h:Q (.ref g,[.ref a]) s):wpAny (model X.prog X.w) A (wfS (.ref a) m pl) Q E s:=by
 obtain⟨b,O,r,_,_,_⟩:=u5 I.b4 e;have hn:b m=none:=jl.none_of (by grind);exact GZ I.iz O (c.get m) k.at_ k.fn hn h
theorem C8{Q:Unit->Shared->Prop}(I:Inv X pins σ H s)(e:H a=some (.ins C dx fs))(c:BV X.K C)(n:bU X.K C f)(hl:fs.length<1000)(l:RelV y u)
 (h:∀s',Inv X pins σ (upd H a (.ins C dx (cH f y fs))) s'->Q () s'):wpAny (model X.prog X.w) A (setAttr (.ref a) f u) Q E s:=by
 obtain⟨i,O,r,j,_,k⟩:=u5 I.b4 e;have m:(fs.map (·.1)).length<=sizeLine:=by rw[wa0,wcb];omega
 refine Kc I.iz O c.sa c.po n.PV c.hd j m λp d sb=>h _ ?_;have hd:∃o,p.get? dx=some o:=let ⟨o,_,_,t,_⟩:=d.ns;⟨o,t⟩
 refine I.write (x:=a) (e:=dx) (by rw[e];exact wbu) (.inr k) (λb q v z=>(sb.2 b v).trans z) hd ?_;refine⟨by rw[ae O.ne];exact k,?_,O.ne,d.obj,_,d.ns,λg=>?_,λg B=>?_⟩
 ·have:=rZ f y fs;omega
 ·show jl ((cH f y fs).lookup g) (if g=f then some u else i g);rw[aE]
  by_cases q:g=f
  ·rw[if_pos q,if_pos q];exact l
  ·rw[if_neg q,if_neg q];exact r g
 ·by_cases q:g=f
  ·rw[q];exact(qP f y fs).1
  ·refine(qP f y fs).2 g (j g λz=>B ?_);show (if g=f then some u else i g)=none;rw[if_neg q];exact z
theorem Inv.made(I:Inv X pins σ H s):Inv X pins σ (upd (upd H s.heap.objs.size (.own (s.heap.objs.size+1))) (s.heap.objs.size+1) (.ins C s.heap.objs.size []))
 {s with heap:=(s.heap.push wbP).push (wcn C s.heap.objs.size)}:=by
 have c:(s.heap.push wbP).get? s.heap.objs.size=some wbP:=waq s.heap rfl
 have d:((s.heap.push wbP).push (wcn C s.heap.objs.size)).get? (s.heap.objs.size+1)=some (wcn C s.heap.objs.size):=by
  have:=waq (s.heap.push wbP) (o:=wcn C s.heap.objs.size) rfl;rwa[wbL]at this
 have f:(s.heap.push wbP).Ns s.heap.objs.size (λ_=>none):=⟨wbP,#[],_,c,rfl,(λe g=>absurd g (by simp)),λ_=>rfl⟩;have h:=I.laid (a:=s.heap.objs.size) (o:=.own (s.heap.objs.size+1)) (h':=s.heap.push wbP) (t':=s.toks) (λb u q=>wa8 _ q) (waa _) ⟨_,c⟩;refine h.laid (a:=s.heap.objs.size+1) (o:=.ins C s.heap.objs.size []) (t':=s.toks) (λb u q=>wa8 _ q) (wdN (wbL _ _)) ?_;have ne:s.heap.objs.size≠s.heap.objs.size+1:=war (wbI _);refine⟨by rw[ae ne,a6],waB _,ne,d,λ_=>none,(whf f).at λo q=>wa8 _ q,λ_=>wbu,λy i=>absurd rfl i⟩
theorem Ke{Q:Value->Shared->Prop}(j:wct e f env (eval e env)=eval e env)
 (h:wpAny (model prog w) A (eval e env) (λo g=>wpAny (model prog w) A (getAttr o f true) Q E g) E s):wpAny (model prog w) A (eval (.Attribute e f pos) env) Q E s:=
 Attribute_any_ h (by rw[arm_eval_Attribute,j])
end
inductive Yr(K:wa2)(f:Str)(x:V)(H:Hp)(Q:VK):Prop
 |mk (a C dx fs v) (_:x=.ref a) (_:H a=some (.ins C dx fs)) (_:BV K C) (_:bU K C f) (_:fs.lookup f=some v) (_:Q v H)
def PX(K:wa2)(ta:TE)(f:Str):TE:=λσ H Q=>ta σ H λx H1=>Yr K f x H1 Q
def Ti(K:wa2)(ta tv:TE)(f:Str):TS:=λD σ H=>tv σ H λy H1=>ta σ H1 λx H2=>∃a C dx fs,x=.ref a/\H2 a=some (.ins C dx fs)/\BV K C/\bU K C f/\fs.length<1000 /\
 D.nx σ (upd H2 a (.ins C dx (cH f y fs)))
section
variable{X:Cx}{o e value:Expr}{f:Str}{pos pos' N5:Pos}{ta tv:TE}
theorem aD(g:PE X e ta)(j:wct e f X.env (eval e X.env)=eval e X.env):PE X (.Attribute e f pos) (PX X.K ta f):=by
 intro b s σ H Q I h;refine Ke j (bO (g b s σ H _ I h) λu r ⟨x,d,i,k,a,C,t,fs,v,ex,m,c,n,l,q⟩=>?_);subst ex;obtain rfl:u=wan a:=k;exact C7 i m c n l λw y o p=>⟨v,d,o,p,q⟩
theorem d4(ha:PE X o ta)(g:PE X value tv)(hs:wc6 value (some (.Attribute o f pos')) pos.line X.env=pure false):PS X (.Assign [.Attribute o f pos'] value pos) (Ti X.K ta tv f):=by
 intro b s σ H D I h;refine wcX (bO (g b s σ H _ I h) λu d ⟨y,e,i,j,q⟩=>bO (ha b d σ e _ i q) λk z m=>?_) hs;obtain⟨x,A,p,r,a,C,B,fs,ex,t,c,n,l,v⟩:=m;subst ex;obtain rfl:k=wan a:=r;exact C8 p t c n l j λE w=>⟨σ,_,w,v⟩
end
section
variable{X:Cx}{pins:List (Addr×Obj)}{σ:St}{H:Hp}{s:Shared}{A:Around}{E:Value->Shared->Prop}{Q:Value->Shared->Prop}{c:Value}{b:Bool}
set_option genInjectivity true in
inductive j4(K:wa2)(H:Hp):V->Value->Prop where
 |non:j4 K H .non (.type "NoneType")
 |bl (x:Bool):j4 K H (.bl x) (.type "bool")
 |int (i:Int):j4 K H (.int i) (.type "int")
 |str (x:Str):j4 K H (.str x) (.type "str")
 |flt (x:UInt64):j4 K H (.flt x) (.type "float")
 |lst {a:Addr} {xs:List V} (e:H a=some (.lst xs)):j4 K H (.ref a) (.type "list")
 |frz {a:Addr} {o:Obj} {xs:List V} (e:H a=some (.frz o (.lst xs))):j4 K H (.ref a) (.type "list")
 |tup {a:Addr} {xs:List V} (e:H a=some (.tup xs)):j4 K H (.ref a) (.type "tuple")
 |dK {a:Addr} {kvs:List (Key×V)} (e:H a=some (.dK kvs)):j4 K H (.ref a) (.type "dict")
 |dT {a:Addr} {kvs:List (List Key×V)} (e:H a=some (.dT kvs)):j4 K H (.ref a) (.type "dict")
 |ins {a C dx:Addr} {fs:List (Str×V)} (e:H a=some (.ins C dx fs)) (cl:BV K C) (ha:wbf K (.ref C) "__class__"=some (some (.builtin "object.__class__")))
   (hn:weZ K (.builtin "object.__class__") "__get__"=some (some (.builtin "getset_descriptor.__get__"))) (qL:PySem.W.takesIn K (.builtin "object.__class__")=some true)
   (hm:PySem.W.mroIn K C (.type "object")=some true):j4 K H (.ref a) (.ref C)
theorem EZ(I:Inv X pins σ H s)(g:RelV x u)(ty:j4 X.K H x t)(e:whW X.K t c=some b)(h:∀tk,Q (.bool b) {s with toks:=tk}) :
 wpAny (model X.prog X.w) A (call (.builtin "isinstance") [u,c]) Q E s:=by
 cases ty with
 |non=>cases(show u=wbA from g);exact wbE PySem.W.kitx_none I.iz wbu e (λz=>nomatch z) h
 |bl y=>cases(show u=wgB y from g);exact wbE PySem.W.kitx_bool I.iz wbu e (λz=>nomatch z) h
 |int i=>obtain⟨t,q⟩:=(show ∃t,u=wfQ i t from g);cases q;exact wbE PySem.W.kitx_int I.iz wbu e (λz=>nomatch z) h
 |str y=>obtain⟨t,q⟩:=(show ∃t,u=wfR y t from g);cases q;exact wbE PySem.W.kitx_str I.iz wbu e (λz=>nomatch z) h
 |flt y=>obtain⟨t,q⟩:=(show ∃t,u=whs y t from g);cases q;exact wbE PySem.W.kitx_float I.iz wbu e (λz=>nomatch z) h
 |@lst a k d=>
  cases(show u=wan a from g);obtain⟨_,_,n,_,f⟩:=(show cb X.prog X.w H s.heap a (.lst k) from I.b4 a _ d);exact wbE whg I.iz ⟨_,f,rfl⟩ e (λz=>nomatch z) h
 |@frz a ob k d=>
  cases(show u=wan a from g);obtain⟨_,_,_,n,_,f⟩:=(show cb X.prog X.w H s.heap a (.frz ob (.lst k)) from I.b4 a _ d);exact wbE whg I.iz ⟨_,f,rfl⟩ e (λz=>nomatch z) h
 |@tup a k d=>
  cases(show u=wan a from g);obtain⟨_,_,_,p⟩:=(show cb X.prog X.w H s.heap a (.tup k) from I.b4 a _ d);obtain⟨o,f,l,_⟩:=p;exact wbE PySem.W.kitx_tuple I.iz ⟨o,f,l⟩ e (λz=>nomatch z) h
 |@dK a j d=>
  cases(show u=wan a from g);obtain⟨_,_,B,_,p⟩:=(show cb X.prog X.w H s.heap a (.dK j) from I.b4 a _ d);obtain⟨o,m,r,f,l,_⟩:=p;exact wbE whh I.iz ⟨o,f,l.1⟩ e (λz=>nomatch z) h
 |@dT a j d=>
  cases(show u=wan a from g);obtain⟨_,_,k,_,o,m,r,f,l,_⟩:=(show cb X.prog X.w H s.heap a (.dT j) from I.b4 a _ d);exact wbE whh I.iz ⟨o,f,l.1⟩ e (λz=>nomatch z) h
 |@ins a C D fs d cl ha hn qL v=>
  cases(show u=wan a from g);obtain⟨G,O,_⟩:=u5 I.b4 d;obtain⟨L,J,_⟩:=O.look;exact wbE (PySem.W.kitx_own (cl.get _) cl.hd ha hn qL v) I.iz J e (λz=>nomatch z) h
end
structure eM(k:Nat)(A:Around):Prop where
 hd:A.handled=none
 dp:A.depth+3*k+5<recursionLimit
 un:A.units+16*k+200<wcI
theorem eM.mono(r:eM k A)(h:j<=k):eM j A:=⟨r.hd,by have:=r.dp;omega,by have:=r.un;omega⟩
theorem eM.deeper(r:eM (k+1) A)(env:Env):eM k (A.deeper env):=
 ⟨r.hd,by have:=r.dp;show A.depth+1+3*k+5<_;omega,by have:=r.un;show A.units+3+16*k+200<_;omega⟩
theorem C9{A:Around}{C:Addr}{us:List Value}{g:List (Str×Value)}:(A.under (.builtin "type.__call__" ⟨.ref C::us,g⟩)).depth=A.depth+1:=by
 first |rfl |simp[wh2,Code.weight,Code.isCreation,Code.isGuard,Code.isCaller,Code.frames,wh3,guardIds]
theorem Ca{A:Around}{C:Addr}{us:List Value}{g:List (Str×Value)}:(A.under (.builtin "type.__call__" ⟨.ref C::us,g⟩)).units=A.units+1:=by
 first |rfl |simp[wh2,Code.cUnits,Code.frames,wh3]
theorem eM.make(r:eM (k+1) A)(C:Addr)(us:List Value)(g:List (Str×Value)):eM k (A.under (.builtin "type.__call__" ⟨.ref C::us,g⟩)):=
 ⟨r.hd,by have:=r.dp;rw[C9];omega,by have:=r.un;rw[Ca];omega⟩
theorem eM.depth(r:eM k A):A.depth<recursionLimit:=by have:=r.dp;omega
theorem eM.units(r:eM k A):A.units+64<wcI:=by have:=r.un;omega
theorem eM.yU(r:eM k A):A.units<wcI:=by have:=r.un;omega
def Hc:TA:=λ_ H Q=>Q [] H
def Ad(ta:TE)(tr:TA):TA:=λσ H Q=>ta σ H λx H1=>tr σ H1 λxs H2=>Q (x::xs) H2
section
variable{X:Cx}{e:Expr}{es:List Expr}{te:TE}{t:TA}{pos:Pos}
theorem a9:PA X [] Hc:=λ_ _ _ _ H Q I h=>wf8 ⟨[],H,I,.nil,h⟩
theorem a5(ha:PE X e te)(g:PA X es t)(hs:starEach (e::es) X.env=(false,eval e X.env)::starEach es X.env:=by rfl):PA X (e::es) (Ad te t):=by
 intro pos a s σ H Q I h;rw[hs];show wpAny _ _ (spliced ((false,eval e X.env)::backTo pos (starEach es X.env))) _ _ s;refine wd9 (bO (ha a s σ H _ I h) λu b ⟨x,c,d,f,i⟩=>?_);exact bO (g pos a b σ c _ d i) λo p ⟨j,k,l,m,n⟩=>⟨x::j,k,l,.cons f m,n⟩
inductive Ys(xs:List V)(H:Hp)(Q:VK):Prop
 |mk (_:xs.length<=sizeLine) (_:∀p,H p=none->Q (.ref p) (upd H p (.tup xs)))
def PY(t:TA):TE:=λσ H Q=>t σ H λxs H1=>Ys xs H1 Q
inductive Yt(xs:List V)(H:Hp)(Q:VK):Prop
 |mk (_:xs.length<=sizeLine) (_:∀p,H p=none->Q (.ref p) (upd H p (.lst xs)))
def PZ(t:TA):TE:=λσ H Q=>t σ H λxs H1=>Yt xs H1 Q
theorem ee{g}(h:PA X es t):PE X (.Tuple es g pos) (PY t):=by
 intro a s σ H Q I i;refine wpAny_Tuple_spliced (bO (h pos a s σ H _ I i) λj c ⟨k,d,f,r,z,q⟩=>⟨by rw[<-r.length];exact z,?_⟩);have l:d c.heap.objs.size=none:=f.b4.fresh (waa _);refine⟨.ref c.heap.objs.size,upd d c.heap.objs.size (.tup k),f.laid (t':=c.toks) (λb u e=>wa8 _ e) (waa _) ?_,rfl,q _ l⟩;exact⟨z,j,r,⟨_,waq _ rfl,rfl,_,rfl⟩⟩
theorem cC(h:PA X es t):PE X (.List es pos) (PZ t):=by
 intro a s σ H Q I g;refine wpAny_List_spliced (bO (h pos a s σ H _ I g) λi c ⟨j,d,f,r,z,q⟩=>⟨by rw[<-r.length];exact z,?_⟩);have k:d c.heap.objs.size=none:=f.b4.fresh (waa _);refine⟨.ref c.heap.objs.size,upd d c.heap.objs.size (.lst j),f.laid (t':=c.toks) (λb u e=>wa8 _ e) (waa _) ?_,rfl,q _ k⟩;exact⟨z,i,0,r,waq _ rfl⟩
end
noncomputable abbrev Sp:=List V->Hp->VK->XK->Prop
noncomputable abbrev Gz:=List Env->Hp->Shared->XK->Value->Shared->Prop
structure Cb(P:wau)(w:World)(K:wa2)(mg:Str->Option Value)(base:Heap)(A:Around)(outer:List Env)(s:Shared)(H:Hp):Prop where
 frames:A.frames=some outer
 mod:Mod K mg base
 bs:∀b o,base.get? b=some o->s.heap.get? b=some o/\H b=none
 GJ:base.objs.size<=s.heap.objs.size
 oZ:s.heap.FunFrames base outer
 K7:∀b∈rX outer,H b=none
 b4:jt P w H s.heap
 bare:AllBare s.gens
def CE(outer:List Env)(P:wau)(w:World)(H:Hp)(s:Shared)(Q:VK)(u:Value)(s':Shared):Prop:=
 ∃v H',s'.os=s.os/\AllBare s'.gens/\Un (rX outer) [] H H' s.heap s'.heap/\jt P w H' s'.heap/\RelV v u/\Q v H'
def CR(CX:Gz)(outer:List Env)(P:wau)(w:World)(H:Hp)(s:Shared)(Q:VK)(E:XK)(r:wd8)(s':Shared):Prop:=
 match r with
 |.ok (.ret u)=>CE outer P w H s Q u s'
 |.ok _=>False
 |.error e=>CX outer H s E e s'
structure aS(P:wau)(w:World)(K:wa2)(mg:Str->Option Value)(base:Heap)(CX:Gz)(k:Nat)(f:Addr)(fd:wad)(ps:List Str)(sp:Sp):Prop where
 len:∀vs H Q E,sp vs H Q E->vs.length=ps.length
 run:∀(A:Around) (outer:List Env) (s:Shared) (H:Hp) (args:Args) (us:List Value) (vs:List V) (Q:VK) (E:XK),eM k A->Cb P w K mg base A outer s H->BindsTo s fd args (ps.zip us)->Vals vs us->sp vs H Q E ->
  codeAny (model P w) A (.call (.ref f) args) (CR CX outer P w H s Q E) s
theorem Cb.make{P:wau}{w:World}{K:wa2}{mg:Str->Option Value}{base:Heap}{A:Around}{outer:List Env}{s:Shared}{H:Hp}(e:Cb P w K mg base A outer s H)(C:Addr)(us:List Value)(g:List (Str×Value)) :
 Cb P w K mg base (A.under (.builtin "type.__call__" ⟨.ref C::us,g⟩)) outer s H:=⟨by first |exact e.frames |(simpa [wh2,Code.envs,wh3,pushEnvs] using e.frames),e.mod,e.bs,e.GJ,e.oZ,e.K7,e.b4,e.bare⟩
section
variable{X:Cx}{pins:List (Addr×Obj)}{σ:St}{H:Hp}{s s':Shared}
theorem Inv.Kf(I:Inv X pins σ H s):Cb X.prog X.w X.K X.mg X.base X.A X.stack s H:=
 ⟨I.ok.frames,I.ok.mod,I.bs,waj I.ok.GJ I.sz,I.stack,I.tY,I.b4,I.bare⟩
theorem Inv.after(I:Inv X pins σ H s)(h:CE X.stack X.prog X.w H s Q u s'):EP X pins σ Q u s':=by
 obtain⟨v,c,os,bare,un,b4,r,q⟩:=h;obtain⟨e,g,d,t,a⟩:=s';obtain rfl:a=s.os:=os;exact⟨v,c,I.call (h':=e) (g':=g) (d':=d) (t':=t) (ch:=[]) un b4 bare (λb z=>absurd z (by simp)),r,q⟩
end
def Md(sp:Sp)(wL:List V)(E:XK)(t:TA):TE:=λσ H Q=>t σ H λvs H1=>sp (vs++wL) H1 Q E
inductive Yu(C:Addr)(m:Str)(x:V)(H:Hp)(k:Prop):Prop
 |mk (a dx fs) (_:x=.ref a) (_:H a=some (.ins C dx fs)) (_:fs.lookup m=none) (_:k)
def Mf(C:Addr)(m:Str)(sp:Sp)(wL:List V)(E:XK)(ta:TE)(t:TA):TE:=λσ H Q=>ta σ H λx H1=>Yu C m x H1 (t σ H1 λvs H2=>sp (x::(vs++wL)) H2 Q E)
def Q0(C:Addr)(sp:Sp)(wL:List V)(E:XK)(t:TA):TE:=λσ H Q=>t σ H λvs H1=>∀x dx,H1 x=none->H1 dx=none->dx≠x ->
 sp (.ref x::(vs++wL)) (upd (upd H1 dx (.own x)) x (.ins C dx [])) (λv H2=>v=.non/\Q (.ref x) H2) E
def Binds(K:wa2)(fd:wad)(ps:List Str)(ds:List Value):Prop:=
 ∀(s:Shared) (us:List Value),K.In s.heap->(us++ds).length=ps.length->BindsTo s fd ⟨us,[]⟩ (ps.zip (us++ds))
theorem Binds.all{K:wa2}{fd:wad}{ps:List Str}(h:∀us:List Value,us.length=ps.length->bindArgs fd ⟨us,[]⟩=pure (ps.zip us)):Binds K fd ps []:=λs us _ hl=>by
 rw[waY]at hl ⊢;exact .of_eq (h us hl)
def Passes(CX:Gz)(X:Cx)(E:XK):Prop:=∀(pins:List (Addr×Obj)) (σ:St) (H:Hp) (s:Shared) (e:Value) (s':Shared),Inv X pins σ H s->CX X.stack H s E e s'->X.xe e s'
section
variable{X:Cx}{CX:Gz}{k:Nat}{f C:Addr}{fd:wad}{ps:List Str}{sp:Sp}{wL:List V}{ds:List Value}{E:XK}{x m:Str}{p pos apos:Pos}{e o:Expr}{es:List Expr}{ta:TE}{t:TA}
theorem Cd(F:aS X.prog X.w X.K X.mg X.base CX k f fd ps sp)(j:eM k X.A)(l:Binds X.K fd ps ds)(hd:Vals wL ds)(J:Passes CX X E)
 (I:Inv X g σ H s) (r:Vals vs us) (h:sp (vs++wL) H Q E):wpAny (model X.prog X.w) X.A (call (.ref f) us) (EP X g σ Q) X.xe s:=by
 have b:Vals (vs++wL) (us++ds):=r.append hd;have hl:(us++ds).length=ps.length:=by rw[<-b.length];exact F.len _ _ _ _ h
 refine wda (wcc (F.run X.A X.stack s H ⟨us,[]⟩ (us++ds) (vs++wL) Q E j I.Kf (l s us I.iz hl) b h) λr c a=>?_)
 cases r with
 |error e=>exact J g σ H s e c I a
 |ok fl=>
  cases fl with
  |ret u=>exact I.after a
  |next=>exact wb1 a
  |brk=>exact wb1 a
  |cont=>exact wb1 a
theorem k9(F:aS X.prog X.w X.K X.mg X.base CX k f fd ps sp)(l:eM k X.A)(J:Gl X x)(T:X.mg x=some (.ref f))(hk:wcT X.K (.ref f)=true)(U:Binds X.K fd ps ds)(hd:Vals wL ds)(hx:Passes CX X E)
 (ha:PA X (e::es) t) (g:(x==("__debug__":Str))=false:=by decide) (he:starEach (e::es) X.env=(false,eval e X.env)::starEach es X.env:=by rfl) (j:(backTo pos (starEach es X.env)).any (·.1)=false:=by rfl) :
 PE X (.Call (.Name x p) (e::es) [] pos) (Md sp wL E t):=by
 intro a s σ H Q I h;refine wbv (gK I J T ?_ g);refine wcC (h₀:=X.base) I.ok.mod.M8 hk (bO (ha pos a s σ H _ I h) λc d ⟨i,m,b,r,q⟩=>⟨b.iz,?_⟩) he j;exact Cd F l U hd hx b r q
theorem cX(U:PE X o ta)(c:BV X.K C)(J:Kd X.K C m f)(F:aS X.prog X.w X.K X.mg X.base CX k f fd ps sp)(hr:eM k X.A)(hb:Binds X.K fd ps ds)(hd:Vals wL ds)(hx:Passes CX X E)(ha:PA X (e::es) t)
 (g:starEach (e::es) X.env=(false,eval e X.env)::starEach es X.env:=by rfl) (j:(backTo pos (starEach es X.env)).any (·.1)=false:=by rfl)
 (ht:eval (.Call (.Attribute o m apos) (e::es) [] pos) X.env=(do
   let T <-eval o X.env
   standAt apos.atName
   let (f,first) <-holding [T] (wfS T m pl)
   callWith pos f first (backTo pos (starEach (e::es) X.env)) (backToKw pos (wdD [] X.env))):=by rfl) :
 PE X (.Call (.Attribute o m apos) (e::es) [] pos) (Mf C m sp wL E ta t):=by
 intro b s σ H Q I h;refine wei (pl:=pl) (bO (U b s σ H _ I h) λu n ⟨x,p,d,v,a,B,fs,ex,y,l,q⟩=>?_) ht;subst ex;obtain rfl:u=wan a:=v;refine ux d y c J l ?_;refine wcC (first:=[.ref a]) (h₀:=X.base) I.ok.mod.M8 J.kp (bO (ha pos b n σ p _ d q) λus D ⟨vs,G,i,r,z⟩=>⟨i.iz,?_⟩) g j;exact Cd (us:=.ref a::us) (vs:=.ref a::vs) F hr hb hd hx i (.cons rfl r) z
theorem bP(r:PE X o ta)(c:BV X.K C)(g:Kd X.K C m f)(F:aS X.prog X.w X.K X.mg X.base CX k f fd ps sp)(J:eM k X.A)(T:Binds X.K fd ps ds)(hd:Vals wL ds)(U:Passes CX X E)
 (ht:eval (.Call (.Attribute o m apos) [] [] pos) X.env=(do
   let j <-eval o X.env
   standAt apos.atName
   let (f,first) <-holding [j] (wfS j m pl)
   callWith pos f first (backTo pos (starEach [] X.env)) (backToKw pos (wdD [] X.env))):=by rfl) :
 PE X (.Call (.Attribute o m apos) [] [] pos) (Mf C m sp wL E ta Hc):=by
 intro b s σ H Q I h;refine wei (pl:=pl) (bO (r b s σ H _ I h) λu n ⟨x,p,d,e,a,t,fs,ex,i,l,q⟩=>?_) ht;subst ex;obtain rfl:u=wan a:=e;refine ux d i c g l ?_;exact PySem.W.callWith_K0 (first:=[.ref a]) d.iz g.kp (Cd (us:=[.ref a]) (vs:=[.ref a]) F J T hd U d (.cons rfl .nil) q)
structure Mk(K:wa2)(C f:Addr):Prop where
 makes:whK K C=true
 init:wbf K (.ref C) "__init__"=some (some (.ref f))
 fn:wfp K (.ref f)=true
 kp:wcT K (.ref C)=true
theorem Hd(M:Mk X.K C f)(F:aS X.prog X.w X.K X.mg X.base CX k f fd ps sp)(l:eM (k+1) X.A)(J:Binds X.K fd ps ds)(hd:Vals wL ds)
 (T:Passes CX X E) (I:Inv X g σ H s) (r:Vals vs us)
 (h:∀x j,H x=none->H j=none->j≠x->sp (.ref x::(vs++wL)) (upd (upd H j (.own x)) x (.ins C j [])) (λv U=>v=.non/\Q (.ref x) U) E) :
 wpAny (model X.prog X.w) X.A (call (.ref C) us) (EP X g σ Q) X.xe s:=by
 have c:=h (s.heap.objs.size+1) s.heap.objs.size (I.b4.fresh (wc1 _)) (I.b4.fresh (waa _)) (war (wbI _));have b:=Inv.made (C:=C) I;have d:Vals (V.ref (s.heap.objs.size+1)::(vs++wL)) (wan (s.heap.objs.size+1)::(us++ds)):=.cons rfl (r.append hd)
 have hl:(wan (s.heap.objs.size+1)::us++ds).length=ps.length:=by
  have e:=d.length;rw[F.len _ _ _ _ c]at e;exact e.symm
 refine wda (Ac (f:=f) I.iz M.makes M.init (beq_iff_eq.mp M.fn) (wcc (F.run _ X.stack _ _ ⟨wan (s.heap.objs.size+1)::us,[]⟩ (wan (s.heap.objs.size+1)::(us++ds)) _ _ E (l.make C us [])
  (b.Kf.make C us []) (J _ (wan (s.heap.objs.size+1)::us) b.iz hl) d c) λr i a=>?_))
 cases r with
 |error e=>exact T g σ _ _ e i b a
 |ok fl=>
  cases fl with
  |ret u=>
   obtain⟨v,m,n,o,p,q⟩:=b.after a;subst p;exact⟨o,⟨V.ref (s.heap.objs.size+1),m,n,rfl,q⟩⟩
  |next=>exact wb1 a
  |brk=>exact wb1 a
  |cont=>exact wb1 a
theorem nB(M:Mk X.K C f)(F:aS X.prog X.w X.K X.mg X.base CX k f fd ps sp)(l:eM (k+1) X.A)(J:Gl X x)(T:X.mg x=some (.ref C))(U:Binds X.K fd ps ds)(hd:Vals wL ds)(hx:Passes CX X E)
 (ha:PA X (e::es) t) (g:(x==("__debug__":Str))=false:=by decide) (he:starEach (e::es) X.env=(false,eval e X.env)::starEach es X.env:=by rfl) (j:(backTo pos (starEach es X.env)).any (·.1)=false:=by rfl) :
 PE X (.Call (.Name x p) (e::es) [] pos) (Q0 C sp wL E t):=by
 intro a s σ H Q I h;refine wbv (gK I J T ?_ g);refine wcC (h₀:=X.base) I.ok.mod.M8 M.kp (bO (ha pos a s σ H _ I h) λc d ⟨i,m,b,r,q⟩=>⟨b.iz,?_⟩) he j;exact Hd M F l U hd hx b r q
end
section
variable{X:Cx}{CX:Gz}{k:Nat}{f C:Addr}{fd:wad}{ps ks:List Str}{sp:Sp}{E:XK}{x m:Str}{p pos apos Yv:Pos}{e o:Expr}{es:List Expr}{kws:List wej}{te ta:TE}{t tk:TA}{nm:Option Str}
variable{g:List Value->List Value->List Value}{gV:List V->List V->List V}
end
structure u9(N P:List Str)(sc:wd6):Prop where
 kind:sc.kind=.function
 co:sc.isCoroutine=false
 gen:sc.isGenerator=false
 nd:N.Nodup
 pre:N.take P.length=P
 par:∀x∈P,sc.names.lookup x=some .local\/sc.names.lookup x=some .cell
 N6:∀y∈sc.names,y.2≠.free
theorem xN{kindOf:Str->Option wee}:∀{binds:List (Str×Value)} {m:Str->Option Value},(∀v,(x,v)∉binds)->bindL kindOf binds m x=m x
 |[],_,_=>rfl
 |(n,v)::r,m,h=>by
  unfold bindL;rw[xN λw hw=>h w (wac _ hw)];split
  ·grind
  ·rfl
theorem xO{kindOf:Str->Option wee}:∀{binds:List (Str×Value)} {m:Str->Option Value},(∀v,(x,v)∉binds)->bindC kindOf binds m x=m x
 |[],_,_=>rfl
 |(n,v)::r,m,h=>by
  unfold bindC;rw[xO λw hw=>h w (wac _ hw)];split
  ·rfl
  ·grind
theorem xP{kindOf:Str->Option wee}:∀{P:List Str} {vs:List Value} {i:Nat} {m:Str->Option Value},P.Nodup->P[i]?=some x->vs[i]?=some v->kindOf x=some .local ->
 bindL kindOf (P.zip vs) m x=some v
 |[],_,_,_,_,h,_,_=>by simp at h
 |_::_,[],_,_,_,_,h,_=>by simp at h
 |p::P,w::vs,0,m,nd,a,b,hk=>by
  simp at a b;subst a;subst b;show bindL kindOf ((p,w)::P.zip vs) m p=_;unfold bindL;rw[xN λv c=>(wbF.mp nd).1 (wfV c).1,if_pos hk];simp
 |p::P,w::vs,i+1,m,nd,a,b,hk=>by
  show bindL kindOf ((p,w)::P.zip vs) m x=_;unfold bindL;exact xP (i:=i) (wbF.mp nd).2 (by simpa using a) (by simpa using b) hk
theorem xQ{kindOf:Str->Option wee}:∀{P:List Str} {vs:List Value} {i:Nat} {m:Str->Option Value},P.Nodup->P[i]?=some x->vs[i]?=some v->kindOf x≠some .local ->
 bindC kindOf (P.zip vs) m x=some v
 |[],_,_,_,_,h,_,_=>by simp at h
 |_::_,[],_,_,_,_,h,_=>by simp at h
 |p::P,w::vs,0,m,nd,a,b,hk=>by
  simp at a b;subst a;subst b;show bindC kindOf ((p,w)::P.zip vs) m p=_;unfold bindC;rw[xO λv c=>(wbF.mp nd).1 (wfV c).1,if_neg hk];simp
 |p::P,w::vs,i+1,m,nd,a,b,hk=>by
  show bindC kindOf ((p,w)::P.zip vs) m x=_;unfold bindC;exact xQ (i:=i) (wbF.mp nd).2 (by grind) (by grind) hk
noncomputable def start(N:List Str)(vs:List V):St:=vs.map some++wam (N.length-vs.length) none
noncomputable def uz(CX:Gz)(P:wau)(w:World)(K:wa2)(mg:Str->Option Value)(base:Heap)(N:List Str)(qual:Str)(scope:wd6)(f:Addr)(cd:Value)(A:Around)(outer:List Env)(s:Shared)(H:Hp)(E:XK):Cx where
 prog:=P
 w:=w
 K:=K
 mg:=mg
 base:=base
 A:=A.deeper (envOfC qual scope s.heap.objs.size f cd)
 N:=N
 s₀:=s
 H₀:=H
 env:=envOfC qual scope s.heap.objs.size f cd
 outer:=outer
 stack:=envOfC qual scope s.heap.objs.size f cd::outer
 ex:=[]
 calm:=true
 fn:=λ_=>true
 pn:=[]
 xe:=λe s'=>wpAny (model P w) (A.deeper (envOfC qual scope s.heap.objs.size f cd)) («leaving» (envOfC qual scope s.heap.objs.size f cd) e) (λ_ Tj=>CX outer H s E e Tj) (λe' Tj=>CX outer H s E e' Tj) s'
theorem Ae{g:wd6}{n:Nat}{x:Str}(h:g.names.lookup x=some .cell):∃c,(cellsFrom n g.names []).lookup x=some c:=by
 have q:=wg5 g.names n [] (.inl h);exact wfs.mp q
theorem F0{CX:Gz}{P:wau}{w:World}{K:wa2}{mg:Str->Option Value}{base:Heap}{N ps:List Str}{g:Str}{scope:wd6}{f:Addr}{cd:Value}{A:Around}{outer:List Env}{s s1:Shared}{H:Hp}{E:XK}{us:List Value}{vs:List V}
 (S:u9 N ps scope) (hd:A.handled=none) (j:Cb P w K mg base A outer s H) (hl:vs.length=ps.length) (r:Vals vs us)
 (x:InCallC s s.heap.objs.size (bindL (envOfC g scope s.heap.objs.size f cd).kindOf (ps.zip us) λ_=>none) (cellsFrom (s.heap.objs.size+1) scope.names []) (bindC (envOfC g scope s.heap.objs.size f cd).kindOf (ps.zip us) λ_=>none) s1) :
 Inv (uz CX P w K mg base N g scope f cd A outer s H E) [] (start N vs) H s1:=by
 have D:ps.length<=N.length:=by have:=congrArg wdE S.pre;rw[wak]at this;omega
 obtain⟨B,I,rfl,hk⟩:=x.done;have l:∀b:Addr,b∉(uz CX P w K mg base N g scope f cd A outer s H E).ex:=λb z=>absurd (show b∈([]:List Addr) from z) (by simp)
 refine⟨⟨j.mod,S.kind,rfl,rfl,waa _,λy z c B d=>?_,λy m=>?_,λy c _ h=>?_,λ_=>hd,Around.frames_deeper j.frames,.inr ⟨rfl,rfl⟩,λb z=>absurd z (l b),j.bs,j.GJ,λb _ _=>l b,λb z=>absurd z (l b),j.oZ,j.K7⟩,
  rfl,j.bare,Un.kept hk,⟨_,x.toInCall.ns,λi y v B d J=>?_⟩,λy c h=>⟨_,x.cell y c h⟩,j.b4.fresh (waa _),λy c h=>?_,λp o=>absurd (show p∈([]:List (Addr×Obj)) from o) (by simp),j.b4.kept hk,?_⟩
 ·exact name_of_addr x.apart (wcy B) (wcy d)
 ·have m:scope.names.lookup y=some .cell\/scope.names.lookup y=some .free:=m;rcases m with m |m
  ·exact Ae m
  ·exact absurd rfl (S.N6 _ (wcy m))
 ·exact wfn (x.above y c (wcy h))
 ·have hi:i<vs.length:=by
   unfold start at d
   by_cases hi:i<vs.length
   ·exact hi
   ·rw[waD (by simpa using hi)]at d;rw[List.getElem?_replicate]at d;split at d<;>cases d
  have ha:vs[i]?=some v:=by
   unfold start at d;rw[waF (by simpa using hi),wa4]at d
   cases e:vs[i]? with
   |none=>rw[e]at d;cases d
   |some a=>rw[e]at d;cases d;rfl
  obtain⟨u,C,G⟩:=r.get ha
  have o:ps[i]?=some y:=by
   rw[<-S.pre,wdO (by omega)];exact B
  have t:ps.Nodup:=by rw[<-S.pre];exact S.nd.sublist (wbi _ _)
  refine⟨u,G,?_⟩;rcases S.par y (wa9 o) with k |k
  ·exact .inl ⟨k,xP t o C k⟩
  ·obtain⟨c,e⟩:=Ae (n:=s.heap.objs.size+1) k;refine .inr ⟨.inl k,c,e,?_⟩;have q:=x.cell y c e;rw[xQ t o C (by show scope.names.lookup y≠_;rw[k];decide)]at q;exact q
 ·exact j.b4.fresh (wfn (x.above y c (wcy h)))
 ·unfold start;show _=N.length;rw[wa5,wa0,waP];omega
theorem Mg{CX:Gz}{P:wau}{w:World}{K:wa2}{mg:Str->Option Value}{base:Heap}{k:Nat}{f:Addr}{name g:Str}{l:Arguments}{body:List Stmt}{scope:wd6}{dV kV T pm j ct oc:Value}{an od:Option Addr}
 {U:Array (Option Value)} {N ps:List Str} {sp:Sp} (lk:K.lookup f=some ⟨oc,od,.func (wcp name g l body scope dV kV T pm an j ct),U⟩) (Tl:we0 K j g=true) (S:u9 N ps scope)
 (len:∀vs H Q E,sp vs H Q E->vs.length=ps.length)
 (C:∀(A:Around) (outer:List Env) (s:Shared) (H:Hp) (vs:List V) (Q:VK) (E:XK),eM k (A.deeper (envOfC g scope s.heap.objs.size f j))->sp vs H Q E ->
   ∃t,wI (uz CX P w K mg base N g scope f j A outer s H E) body t/\t {nx:=λ_ p=>Q .non p,rt:=Q} (start N vs) H) :
 aS P w K mg base CX (k+1) f (wcp name g l body scope dV kV T pm an j ct) ps sp:=by
 refine⟨len,λA outer s H args M vs Q E m h O r i=>?_⟩;have hl:=len _ _ _ _ i;have G:K.In s.heap:=h.mod.M8.keeps λb o e=>(h.bs b o e).1;have z:s.heap.NoLimit:=h.mod.nolimit.keeps λb o e=>(h.bs b o e).1
 have c:∀y∈ps.zip M,scope.names.lookup y.1=some .local\/(scope.names.lookup y.1=some .cell/\((cellsFrom (s.heap.objs.size+1) scope.names []).lookup y.1).isSome=true):=λ⟨n,v⟩ R=>by
  rcases S.par n (wfV R).1 with q |q
  ·exact .inl q
  ·exact .inr ⟨q,wg5 _ _ _ (.inl q)⟩
 refine codeAny_call_function m.depth (G _ _ lk) rfl S.co S.gen rfl (PySem.W.codeRec_of G Tl) (O _ _ _ _ ?_);refine wpAny_newFunctionEnv_cells S.kind c λenv X L x=>?_;subst X;refine⟨z.keeps x.toInCall.keep,codeAny_func ?_⟩;obtain⟨t,Y,Z⟩:=C A outer s H vs Q E (m.deeper _) i;have I:Inv (uz CX P w K mg base N g scope f j A outer s H E) [] (start N vs) H L:=F0 S m.hd h hl r x;refine wb8 (Y [] L (start N vs) H _ I Z) (λfl B d=>?_) λe B d=>d
 have fin:∀{a:St} {p:Hp} {v:V} {u:Value},Inv (uz CX P w K mg base N g scope f j A outer s H E) [] a p B->RelV v u->Q v p->CE outer P w H s Q u B:=
  λ{a p v u} J D q=>⟨v,p,J.os,J.bare,J.base,J.b4,D,q⟩
 cases fl with
 |ret u=>
  obtain⟨v,a,p,J,D,q⟩:=d;exact fin J D q
 |next=>
  obtain⟨a,p,J,q⟩:=d;exact fin (v:=V.non) (u:=wbA) J rfl q
 |brk=>
  obtain⟨_,_,_,q⟩:=d;exact wb1 q
 |cont=>
  obtain⟨_,_,_,q⟩:=d;exact wb1 q
section
variable{X:Cx}{x:Str}{p pos:Pos}{e:Expr}{es:List Expr}{t:TA}{id T:String}{r:List V->Hp->VK->Prop}
def VO(r:List V->Hp->VK->Prop)(t:TA):TE:=λσ H Q=>t σ H λvs H1=>r vs H1 Q
theorem aC(hc:eF X (.builtin id) r)(l:Gl X x)(C:X.mg x=none)(J:waV x=some (.builtin id))(ha:PA X (e::es) t)(hn:x≠"__name__":=by decide)(g:(x==("__debug__":Str))=false:=by decide)
 (U:starEach (e::es) X.env=(false,eval e X.env)::starEach es X.env:=by rfl) (j:(backTo pos (starEach es X.env)).any (·.1)=false:=by rfl):PE X (.Call (.Name x p) (e::es) [] pos) (VO r t):=by
 intro a s σ H Q I h;refine wbv (gv I l C J ?_ hn g);exact wet (bO (ha pos a s σ H _ I h) λb c ⟨d,f,i,k,m⟩=>hc a c σ f d b Q i k m) U j
theorem bH(hc:eF X (.type T) r)(l:Gl X x)(C:X.mg x=none)(J:waV x=some (.type T))(ha:PA X (e::es) t)(hn:x≠"__name__":=by decide)(g:(x==("__debug__":Str))=false:=by decide)
 (U:starEach (e::es) X.env=(false,eval e X.env)::starEach es X.env:=by rfl) (j:(backTo pos (starEach es X.env)).any (·.1)=false:=by rfl):PE X (.Call (.Name x p) (e::es) [] pos) (VO r t):=by
 intro a s σ H Q I h;refine wbv (gv I l C J ?_ hn g);exact wbr (bO (ha pos a s σ H _ I h) λb c ⟨d,f,i,k,m⟩=>hc a c σ f d b Q i k m) U j
end
end L2
namespace HT
open PySem PyProof.Rows
section
open PySem.SeqAt
open PySem.AutoSeq1 (wpAny_loadPart')
open PySem.MeetsSeq PySem.MeetsSeq2 PySem.MeetsSeq3
end
section
variable{prog:wau}{w:World}{A:Around}{E:Value->Shared->Prop}{s:Shared}
noncomputable def Af(n d:Nat):Option Int->Nat
 |none=>d
 |some v=>if v<0 then(v+(n:Int)).toNat else min v.toNat n
theorem Kg(n d k:Nat):Af n d (some (k:Int))=min k n:=by
 show (if (k:Int)<0 then((k:Int)+(n:Int)).toNat else min (k:Int).toNat n)=min k n;rw[if_neg (by omega),waG]
end
end HT
namespace L2
open PySem PySem.Spec PyProof.Rows
noncomputable abbrev TO:=St->Hp->(Option Int->Hp->Prop)->Prop
def PO(X:Cx)(e:Option Expr)(t:TO):Prop:=
 ∀(pins:List (Addr×Obj)) (s:Shared) (σ:St) (H:Hp) (Q:Option Int->Hp->Prop),Inv X pins σ H s->t σ H Q ->
  wpAny (model X.prog X.w) X.A (evalPart e X.env) (λu s'=>∃o H',Inv X pins σ H' s'/\IsPart u o/\Q o H') X.xe s
noncomputable def Kh:TO:=λ_ H Q=>Q none H
inductive Yw(x:V)(H:Hp)(Q:Option Int->Hp->Prop):Prop
 |mk (i) (_:x=.int i) (_:Q (some i) H)
noncomputable def Q1(t:TE):TO:=λσ H Q=>t σ H λx H1=>Yw x H1 Q
section
variable{X:Cx}{e:Expr}{te:TE}{lo hi:Option Expr}{tl th:TO}{pos p2:Pos}
theorem gM:PO X none Kh:=by
 intro a s σ H Q I h;rw[evalPart_none];exact wax ⟨none,H,I,.none,h⟩
theorem bp(h:PE X e te):PO X (some e) (Q1 te):=by
 intro a s σ H Q I hw;rw[evalPart_some];refine bO (h a s σ H _ I hw) λu g ⟨x,b,c,d,f⟩=>?_;obtain⟨i,rfl,q⟩:=f;obtain⟨t,rfl⟩:=d;exact⟨some i,b,c,.int i t,q⟩
def Tn(X:Cx)(r:V->Option Int->Option Int->Hp->VK->Prop):Prop:=
 ∀(pins:List (Addr×Obj)) (s:Shared) (σ:St) (H:Hp) (x:V) (v vl vu:Value) (lo hi:Option Int) (sl:Addr) (Q:VK),Inv X pins σ H s->RelV x v->s.heap.IsSliceOf sl vl vu .none->IsPart vl lo->IsPart vu hi->r x lo hi H Q ->
  ∃T id,wfh (.type T) "__getitem__"=pure (some (.builtin id))/\s.TypeIs v T/\wpAny (model X.prog X.w) X.A (getItem v (.ref sl)) (EP X pins σ Q) X.xe s
def Yx(r:V->Option Int->Option Int->Hp->VK->Prop)(te:TE)(tl th:TO):TE:=λσ H Q=>te σ H λx H1=>tl σ H1 λl H2=>th σ H2 λu H3=>r x l u H3 Q
theorem cy{r:V->Option Int->Option Int->Hp->VK->Prop}(j:Tn X r)(p:PE X e te)(hl:PO X lo tl)(t:PO X hi th):PE X (.Subscript e (.Slice lo hi none p2) pos) (Yx r te tl th):=by
 intro a s σ H Q I h;refine wgD (bO (p a s σ H _ I h) λv i ⟨x,k,m,n,o⟩=>?_);refine wpAny_Slice (bO (hl a i σ k _ m o) λd y ⟨l,z,B,pl,C⟩=>bO (t a y σ z _ B C) λf c ⟨u,g,D,E,G⟩=>?_);rw[evalPart_none];refine wax ?_;have J:Inv X a σ g {c with heap:=c.heap.push {cls:=.type "slice",data:=.fields #[d,f,.none]}}:=D.kept (t':=c.toks) λb ob q=>wa8 _ q;obtain⟨T,id,L,M,N⟩:=j a {c with heap:=c.heap.push {cls:=.type "slice",data:=.fields #[d,f,.none]}} σ g x v d f l u c.heap.objs.size Q J n (wh4 ..) pl E G;show wpAny (model X.prog X.w) X.A (wf1 e (.Slice lo hi none p2) v (.ref c.heap.objs.size)) (EP X a σ Q) X.xe {c with heap:=c.heap.push {cls:=.type "slice",data:=.fields #[d,f,.none]}};exact tail_any (ops:=[.ref c.heap.objs.size,v]) M L N (by with_unfolding_all rfl)
noncomputable def m6(xs:List V)(lo hi:Option Int):List V:=(xs.drop (HT.Af xs.length 0 lo)).take (HT.Af xs.length xs.length hi-HT.Af xs.length 0 lo)
theorem Ag(xs:List V)(lo hi:Option Int):(m6 xs lo hi).length<=xs.length:=by
 unfold m6;rw[wak,wbp];omega
end
noncomputable def F1(n:Nat)(i:Int):Option Nat:=if 0<=i then(if i<n then some i.toNat else none) else if -(n:Int)<=i then some (i+n).toNat else none
noncomputable def yV{α:Type}(xs:List α)(i:Int):Option α:=(F1 xs.length i).bind λj=>xs[j]?
theorem DY(h:F1 n i=some j):seqIndex? i n=some j/\j<n/\-(n:Int)<=i/\i<n:=by
 unfold F1 at h
 by_cases h0:0<=i
 ·rw[if_pos h0]at h
  by_cases a:i<n
  ·rw[if_pos a]at h;have e:i.toNat=j:=wag h;exact⟨by rw[wht h0 a,e],by omega,by omega,a⟩
  ·rw[if_neg a]at h;cases h
 ·rw[if_neg h0]at h
  by_cases a:-(n:Int)<=i
  ·rw[if_pos a]at h;have e:(i+n).toNat=j:=wag h;exact⟨by rw[seqIndex_neg (by omega) a,e],by omega,a,by omega⟩
  ·rw[if_neg a]at h;cases h
theorem yW{α:Type}{xs:List α}{i:Int}{v:α}(h:yV xs i=some v):∃j,seqIndex? i xs.length=some j/\xs[j]?=some v/\j<xs.length/\-(xs.length:Int)<=i/\i<xs.length:=by
 unfold yV at h
 cases e:F1 xs.length i with
 |none=>rw[e]at h;cases h
 |some j=>
  rw[e]at h;obtain⟨a,b,c,d⟩:=DY e;exact⟨j,a,h,b,c,d⟩
theorem bE{α:Type}{xs:List α}{j:Nat}{v:α}(h:xs[j]?=some v):yV xs (j:Int)=some v:=by
 have a:j<xs.length:=(wa6.mp h).1
 have e:F1 xs.length (j:Int)=some j:=by
  unfold F1;rw[if_pos (by omega),if_pos (by omega)];simp
 unfold yV;rw[e];exact h
theorem He{α:Type}(xs:List α)(v:α):yV (xs++[v]) (-1)=some v:=by
 have hl:(xs++[v]).length=xs.length+1:=by simp
 have e:F1 (xs++[v]).length (-1)=some xs.length:=by
  unfold F1;rw[hl,if_neg (by decide),if_pos (by omega)];congr 1;omega
 unfold yV;rw[e];show (xs++[v])[xs.length]?=some v;simp
def Ki(b:Expr):Prop:=∀o i,wg6 b false o i=operate [o,i] (getItem o i)
def OY(X:Cx)(r:R2):Prop:=
 ∀(value slice:Expr) (pins:List (Addr×Obj)) (s:Shared) (σ:St) (H:Hp) (x y:V) (v u:Value) (Q:VK),Inv X pins σ H s->RelV x v->RelV y u->r x y H Q ->
  wg6 slice false v u=operate [v,u] (getItem v u)->wpAny (model X.prog X.w) X.A (wf1 value slice v u) (EP X pins σ Q) X.xe s
def Kj(X:Cx)(id:String)(r:V->List V->Hp->VK->Prop):Prop:=
 ∀(pins:List (Addr×Obj)) (s:Shared) (σ:St) (H:Hp) (x:V) (xs:List V) (v:Value) (us:List Value) (Q:VK),Inv X pins σ H s->RelV x v->Vals xs us->r x xs H Q ->
  wpAny (model X.prog X.w) X.A (call (.builtin id) (v::us)) (EP X pins σ Q) X.xe s
section
variable{X:Cx}{a b:Expr}{ta tb:TE}{pos:Pos}
theorem bf(g:OY X r)(ha:PE X a ta)(j:PE X b tb)(hs:Ki b):PE X (.Subscript a b pos) (Se r ta tb):=by
 intro c s σ H Q I h;exact wgD (N3 ha j I h λv u d x y e f i k q=>g a b c d σ e x y v u Q f i k q (hs _ _))
inductive Q2(K:wa2)(x y:V)(H:Hp)(Q:VK):Prop
 |mk (p xs i v) (_:x=.ref p) (_:y=.int i) (_:aM K H p xs) (_:yV xs i=some v) (_:Q v H)
inductive Q3(K:wa2)(x y:V)(H:Hp)(Q:VK):Prop
 |mk (p xs i v) (_:x=.ref p) (_:y=.int i) (_:gL K H p xs) (_:yV xs i=some v) (_:Q v H)
inductive To(x y:V)(H:Hp)(Q:VK):Prop
 |mk (z i c) (_:x=.str z) (_:y=.int i) (_:z.length<=sizeLine) (_:yV z.cps.toList i=some c) (_:Q (.str ⟨#[c]⟩) H)
theorem bF:OY X (Q2 X.K):=by
 intro value slice a s σ H x y v u Q I k l h f;obtain⟨p,D,i,z,rfl,rfl,m,n,q⟩:=h;cases k;obtain⟨t,rfl⟩:=l;obtain⟨c,r,pl,E⟩:=I.list m;obtain⟨j,b,o,G,A,B⟩:=yW n;obtain⟨w,g,d⟩:=r.get o;have hl:=r.length;have hn:=oo;have fin:EP X a σ Q w s:=⟨z,H,I,d,q⟩
 by_cases h0:0<=i
 ·have e:i.toNat=j:=by
   rw[wht h0 B]at b;exact wag b
  exact item_listR pl.isList h0 (by omega) (by rw[e];simpa using g) fin f
 ·have e:(i+(c.toArray.size:Int)).toNat=j:=by
   rw[seqIndex_neg (by omega) A]at b;rw[waE,<-hl];exact wag b
  exact wg7 (x:=w) pl.isList.typeIs wf9.lookup
   (wpAny_getItem_list_neg (Q:=λr C=>r=w/\EP X a σ Q r C) pl.isList (by omega) (by rw[waE]<;>omega) (by omega) (by rw[e];simpa using g) ⟨rfl,fin⟩) f
theorem fI:OY X (Q3 X.K):=by
 intro value slice a s σ H x y v u Q I c d h e;obtain⟨p,A,i,z,rfl,rfl,f,g,q⟩:=h;cases c;obtain⟨t,rfl⟩:=d;obtain⟨k,r,pl,B⟩:=I.tuple f;obtain⟨j,l,m,C,D,E⟩:=yW g;obtain⟨w,n,b⟩:=r.get m;have hl:=r.length;have hn:=oo;have fin:EP X a σ Q w s:=⟨z,H,I,b,q⟩
 exact wg7 (x:=w) pl.typeIs slot_tuple_getitem.lookup
  (getItem_tuple (j:=j) (Q:=λr o=>r=w/\EP X a σ Q r o) pl (by omega) (by omega) (by rw[waE,<-hl];exact l) (by simpa using n) ⟨rfl,fin⟩) e
theorem Hf:OY X To:=by
 intro value slice a s σ H x y v u Q I b d h e;obtain⟨z,i,c,rfl,rfl,m,f,q⟩:=h;obtain⟨t,rfl⟩:=b;obtain⟨n,rfl⟩:=d;obtain⟨j,g,o,p,k,l⟩:=yW f;have hl:z.cps.toList.length=z.length:=by simp[wdt]
 rw[hl]at g k l;have hn:=oo
 exact tail_any (typeIs_str s z t) slot_str_getitem.lookup (getItem_str (c:=c) (by
  grind) (by grind) ⟨.str ⟨#[c]⟩,H,I.tok _,⟨_,rfl⟩,q⟩) e
theorem Ce(g:List Value)(n j:Nat)(u:Value):wcQ (·.setIfInBounds j u) {cls:=.type "list",data:=.seq g.toArray n}={cls:=.type "list",data:=.seq (g.set j u).toArray n}:=by
 simp[wcQ]
theorem Inv.lst(I:Inv X j σ H s)(h:H p=some (.lst xs)) :
 ∃(g:List Value) (n:Nat),Vals xs g/\s.heap.get? p=some {cls:=.type "list",data:=.seq g.toArray n}/\xs.length<=sizeLine:=by
 obtain⟨z,g,n,r,e⟩:=I.b4 p _ h;exact⟨g,n,r,e,z⟩
theorem Inv.N7{g:List (Addr×Obj)}{σ:St}{H:Hp}{s:Shared}{p:Addr}{xs ys:List V}{j its':List Value}{n l:Nat}{f:Obj->Obj}(I:Inv X g σ H s)(h:H p=some (.lst xs))
 (J:s.heap.get? p=some {cls:=.type "list",data:=.seq j.toArray n}) (C:f {cls:=.type "list",data:=.seq j.toArray n}={cls:=.type "list",data:=.seq its'.toArray l}) (r:Vals ys its') (T:ys.length<=sizeLine) (t:Nat) :
 Inv X g σ (upd H p (.lst ys)) {s with heap:=s.heap.update p f,toks:=t}:=by
 have e:(s.heap.update p f).get? p=some {cls:=.type "list",data:=.seq its'.toArray l}:=by
  rw[wbB f J (by rw[C]<;>rfl),C]
 refine I.write (x:=p) (e:=p) (by rw[h];trivial) (.inl rfl) (λb u a q=>(waR _ _ (wb9 a)).trans q) ⟨_,e⟩ ?_;exact⟨T,its',l,r,e⟩
inductive Q4(o i v:V)(H:Hp)(Q:Hp->Prop):Prop
 |mk (p xs k j) (_:o=.ref p) (_:i=.int k) (_:H p=some (.lst xs)) (_:F1 xs.length k=some j) (_:Q (upd H p (.lst (xs.set j v))))
theorem set_list:PB X Q4:=by
 intro a s σ H o i v B C u Q I m w x h;obtain⟨p,y,k,j,rfl,rfl,e,z,q⟩:=h;cases m;obtain⟨t,rfl⟩:=w;obtain⟨b,n,r,d,A⟩:=I.lst e;obtain⟨c,D,f,g⟩:=DY z;have hl:=r.length;have hn:=oo
 have l:Inv X a σ (upd H p (.lst (y.set j v))) {s with heap:=s.heap.update p (wcQ (·.setIfInBounds j u))}:=
  I.N7 e d (Ce b n j u) (r.set x j) (by rw[wcq];exact A) s.toks
 by_cases h0:0<=k
 ·have hk:k.toNat=j:=by
   rw[wht h0 g]at c;exact wag c
  exact PySem.W.ki_setAt d h0 (by omega) (by rw[waE,<-hl];exact g) (by rw[hk];exact⟨_,l,q⟩)
 ·have hk:(k+(b.toArray.size:Int)).toNat=j:=by
   rw[seqIndex_neg (by omega) f]at c;rw[waE,<-hl];exact wag c
  exact PySem.W.ki_setBack d (by omega) (by rw[waE,<-hl];exact f) (by omega) (by rw[hk];exact⟨_,l,q⟩)
theorem yX(lo hi:Option Int)(n:Nat):(wg8 lo hi none n).1=((HT.Af n 0 lo:Nat):Int)/\(wg8 lo hi none n).2.1=((HT.Af n n hi:Nat):Int)/\(wg8 lo hi none n).2.2=1:=by
 have key:∀(i:Int) (d:Nat),max 0 (min (if i<0 then i+(n:Int) else i) (n:Int))=((HT.Af n d (some i):Nat):Int):=by
  intro i d
  by_cases h:i<0<;>simp only[HT.Af,h,if_true,if_false]<;>omega
 exact⟨by cases lo with |none=>rfl |some i=>exact key i 0,by cases hi with |none=>rfl |some i=>exact key i n,rfl⟩
theorem wM(g:List Value)(lo hi:Option Int):weW g.toArray lo hi none=((g.drop (HT.Af g.length 0 lo)).take (HT.Af g.length g.length hi-HT.Af g.length 0 lo)).toArray:=by
 obtain⟨a,b,c⟩:=yX lo hi g.toArray.size;unfold weW;rw[a,b,c];simp only[sliceRange_one,pick_run,waE]<;>rfl
inductive Tp(K:wa2)(x:V)(lo hi:Option Int)(H:Hp)(Q:VK):Prop
 |mk (a xs) (_:x=.ref a) (_:aM K H a xs) (_:∀p,H p=none->Q (.ref p) (upd H p (.lst (m6 xs lo hi))))
theorem kc:Tn X (Tp X.K):=by
 intro e s σ H x v n p lo hi sl Q I g i pl j h;obtain⟨a,c,rfl,k,q⟩:=h;cases g;obtain⟨l,r,f,m⟩:=I.list k;have d:=r.length;refine⟨"list",_,wf9.lookup,f.isList.typeIs,?_⟩;refine wft f.isList i pl j .none (by simp) ?_ (by grind);rw[wM,<-d];refine⟨.ref s.heap.objs.size,_,I.laid (t':=s.toks) (o:=.lst (m6 c lo hi)) (λb ob q=>wa8 _ q) (waa _) ?_,rfl,q _ (I.b4.fresh (waa _))⟩;exact⟨waj (Ag c lo hi) m,_,0,(r.drop (HT.Af c.length 0 lo)).take (HT.Af c.length c.length hi-HT.Af c.length 0 lo),waq _ rfl⟩
noncomputable def eh:V->Bool
 |.non=>true
 |.bl _=>true
 |.int _=>true
 |.str _=>true
 |_=>false
noncomputable def se:V->V->Bool
 |.non,.non=>true
 |.bl a,.bl b=>a==b
 |.bl a,.int b=>(if a then 1 else 0)==b
 |.int a,.bl b=>a==(if b then 1 else 0)
 |.int a,.int b=>a==b
 |.str a,.str b=>a==b
 |_,_=>false
theorem Cg(j:RelV y u)(g:RelV x v)(p:eh y=true)(l:eh x=true):SeqAt.EqAt A s u v (se y x):=by
 cases y with
 |non=>
  cases j
  cases x with
  |non=>cases g;exact wfW _
  |bl b=>cases g;exact SeqAt.EqAt.none_bool b
  |int b=>obtain⟨t,rfl⟩:=g;exact SeqAt.EqAt.none_int b t
  |str b=>obtain⟨t,rfl⟩:=g;exact SeqAt.EqAt.none_str b t
  |_=>exact absurd (show false=true from l) wap
 |bl a=>
  cases j
  cases x with
  |non=>cases g;exact SeqAt.EqAt.bool_none a
  |bl b=>cases g;exact SeqAt.EqAt.bool_bool a b
  |int b=>obtain⟨t,rfl⟩:=g;exact SeqAt.EqAt.bool_int a b t
  |str b=>obtain⟨t,rfl⟩:=g;exact SeqAt.EqAt.bool_str a b t
  |_=>exact absurd (show false=true from l) wap
 |int a=>
  obtain⟨c,rfl⟩:=j
  cases x with
  |non=>cases g;exact SeqAt.EqAt.int_none a c
  |bl b=>cases g;exact SeqAt.EqAt.int_bool a c b
  |int b=>obtain⟨t,rfl⟩:=g;exact wgm a c b t
  |str b=>obtain⟨t,rfl⟩:=g;exact wgY a c b t
  |_=>exact absurd (show false=true from l) wap
 |str a=>
  obtain⟨c,rfl⟩:=j
  cases x with
  |non=>cases g;exact SeqAt.EqAt.str_none a c
  |bl b=>cases g;exact SeqAt.EqAt.str_bool a c b
  |int b=>obtain⟨t,rfl⟩:=g;exact wgZ a c b t
  |str b=>obtain⟨t,rfl⟩:=g;exact wgn a c b t
  |_=>exact absurd (show false=true from l) wap
 |_=>exact absurd (show false=true from p) wap
noncomputable def Ch(x:V)(u:Value):Bool:=match u with
 |.none=>se .non x
 |.bool b=>se (.bl b) x
 |.int i _=>se (.int i) x
 |.str z _=>se (.str z) x
 |_=>false
theorem Hg(r:RelV y u)(f:eh y=true):Ch x u=se y x:=by
 cases y with
 |non=>cases r;rfl
 |bl b=>cases r;rfl
 |int i=>obtain⟨t,rfl⟩:=r;rfl
 |str z=>obtain⟨t,rfl⟩:=r;rfl
 |_=>exact absurd (show false=true from f) wap
theorem p6:∀{xs:List V} {us:List Value},Vals xs us->xs.all eh=true->us.any (Ch x)=xs.any λy=>se y x
 |_,_,.nil,_=>rfl
 |y::xs,u::us,.cons r t,f=>by
  rw[wf2,wbV]at f;rw[wd3,wd3,Hg r f.1,p6 t f.2]
theorem m7(g:RelV x v)(j:eh x=true):∀{xs:List V} {us:List Value},Vals xs us->xs.all eh=true->∀u∈us,SeqAt.EqAt A s u v (Ch x u)
 |_,_,.nil,_=>λu a=>by cases a
 |y::xs,u::us,.cons r t,f=>λb a=>by
  rw[wf2,wbV]at f;rcases waC.mp a with rfl |a
  ·rw[Hg r f.1];exact Cg r g f.1 j
  ·exact m7 g j t f.2 b a
noncomputable def p7(x:V)(xs:List V):Bool:=xs.any λy=>se y x
inductive Sg(K:wa2)(neg:Bool)(x y:V)(H:Hp)(Q:VK):Prop
 |mk (p xs) (_:y=.ref p) (_:(aM K H p xs\/gL K H p xs)) (_:eh x=true) (_:xs.all eh=true) (_:Q (.bl (if neg then !p7 x xs else p7 x xs)) H)
theorem qQ:nA X (wbk .In) (Sg X.K false):=by
 intro c s σ H x y v u Q I d f h;obtain⟨p,i,rfl,b,e,fs,q⟩:=h;cases f;rcases b with b |b
 ·obtain⟨a,r,pl,g⟩:=I.list b;refine SeqAt.in_listAt (Ch x) pl.isList (λw hw=>m7 d e r fs w (by grind)) ⟨.bl _,H,I,rfl,?_⟩;rw[show a.toArray.any (Ch x)=a.any (Ch x) by simp,p6 r fs];exact q
 ·obtain⟨a,r,pl,g⟩:=I.tuple b;refine SeqAt.in_tupleAt (Ch x) pl (λw hw=>m7 d e r fs w (by grind)) ⟨.bl _,H,I,rfl,?_⟩;rw[show a.toArray.any (Ch x)=a.any (Ch x) by simp,p6 r fs];exact q
theorem kd:nA X (wbk .NotIn) (Sg X.K true):=by
 intro c s σ H x y v u Q I d f h;obtain⟨p,i,rfl,b,e,fs,q⟩:=h;cases f;rcases b with b |b
 ·obtain⟨a,r,pl,g⟩:=I.list b;refine SeqAt.notIn_listAt (Ch x) pl.isList (λw hw=>m7 d e r fs w (by grind)) ⟨.bl _,H,I,rfl,?_⟩;rw[show a.toArray.any (Ch x)=a.any (Ch x) by simp,p6 r fs];exact q
 ·obtain⟨a,r,pl,g⟩:=I.tuple b;refine SeqAt.notIn_tupleAt (Ch x) pl (λw hw=>m7 d e r fs w (by grind)) ⟨.bl _,H,I,rfl,?_⟩;rw[show a.toArray.any (Ch x)=a.any (Ch x) by simp,p6 r fs];exact q
theorem yY:nA X (wbk .NotIn) (λx y H Q=>∃i j,x=.str i/\y=.str j/\Q (.bl (!(!(wcZ j i 0 j.length 1).isEmpty))) H):=by
 intro a s σ H x y v u Q I b c h;obtain⟨i,j,rfl,rfl,q⟩:=h;obtain⟨t,rfl⟩:=b;obtain⟨d,rfl⟩:=c;exact notIn_str ⟨.bl _,H,I,rfl,q⟩
theorem bx:eF X (.builtin "len") (λxs H Q=>∃p ys,xs=[.ref p]/\(aM X.K H p ys\/gL X.K H p ys)/\Q (.int ys.length) H):=by
 intro e s σ H xs i Q I r h;obtain⟨p,ys,rfl,a,q⟩:=h;obtain⟨u,rfl,f⟩:=vals1 r;cases f;have hn:=oo;rcases a with a |a
 ·obtain⟨c,d,pl,g⟩:=I.list a;have b:=d.length;exact weH pl.isList (by grind) ⟨.int ys.length,H,I.tok _,⟨s.toks+1,by grind⟩,q⟩
 ·obtain⟨c,d,pl,g⟩:=I.tuple a;have b:=d.length;exact len_tuple pl (by grind) ⟨.int ys.length,H,I.tok _,⟨s.toks+1,by grind⟩,q⟩
theorem bJ:eF X (.builtin "len") (λxs H Q=>∃z,xs=[.str z]/\z.length<=sizeLine/\Q (.int z.length) H):=by
 intro a s σ H xs b Q I r h;obtain⟨z,rfl,c,q⟩:=h;obtain⟨u,rfl,t,rfl⟩:=vals1 r;have hn:=oo;exact len_str (by omega) ⟨.int z.length,H,I.tok _,⟨_,rfl⟩,q⟩
theorem dI:eF X (.type "list") (λxs H Q=>∃p ys,xs=[.ref p]/\(aM X.K H p ys\/gL X.K H p ys)/\∀l,H l=none->Q (.ref l) (upd H l (.lst ys))):=by
 intro g s σ H xs x Q I r h;obtain⟨p,ys,rfl,i,q⟩:=h;obtain⟨u,rfl,v⟩:=vals1 r;cases v
 have fin:∀(a:List Value),Vals ys a->ys.length<=sizeLine->∀(c:Heap) (d:Nat),(∀b t,s.heap.get? b=some t->c.get? b=some t) ->
  c.get? s.heap.objs.size=some {cls:=.type "list",dict:=none,data:=.seq a.toArray d,slots:=#[]}->EP X g σ Q (.ref s.heap.objs.size) {s with heap:=c}:=λa f j c d kp e=>
  ⟨.ref s.heap.objs.size,_,I.laid (t':=s.toks) kp (waa _) (show cb X.prog X.w _ c _ (.lst ys) from ⟨j,a,d,f,e⟩),rfl,q _ (I.b4.fresh (waa _))⟩
 rcases i with i |i
 ·obtain⟨a,f,pl,j⟩:=I.list i;have k:=f.length;obtain⟨o,m,hc,n,hd⟩:=pl.isList;exact call_list_seq p (.inl rfl) m hc hd (λc d kp e=>fin a f j c d kp e) (by grind)
 ·obtain⟨a,f,pl,j⟩:=I.tuple i;have k:=f.length;obtain⟨o,m,hc,n,hd⟩:=pl;exact call_list_seq p (.inr rfl) m hc hd (λc d kp e=>fin a f j c d kp e) (by grind)
def Tq(K:wa2)(T:String)(x:V)(H:Hp):Prop:=match x with
 |.str _=>T="str"
 |.int _=>T="int"
 |.ref p=>(T="list"/\∃xs,aM K H p xs)\/(T="tuple"/\∃o,K.lookup p=some o/\o.cls=.type "tuple"/\o.dict=none) \/
   (T="dict"/\((∃kvs,H p=some (.dK kvs))\/∃kvs,H p=some (.dT kvs)))\/(T="set"/\∃S n,H p=some (.set S n))
 |_=>False
theorem Hh(I:Inv X g σ H s)(r:RelV x v)(ty:Tq X.K T x H) :
 s.TypeIs v T/\∀a,v=.ref a->∃ob,s.heap.get? a=some ob/\ob.dict=none:=by
 cases x with
 |str z=>
  obtain⟨t,rfl⟩:=r;cases(show T="str" from ty);exact⟨typeIs_str s z t,λ_ e=>nomatch e⟩
 |int i=>
  obtain⟨t,rfl⟩:=r;cases(show T="int" from ty);exact⟨typeIs_int s i t,λ_ e=>nomatch e⟩
 |ref p=>
  cases r;rcases ty with⟨rfl,j,f⟩ |⟨rfl,o,hk,hc,hd⟩ |⟨rfl,hk⟩ |⟨rfl,S,n,hk⟩
  ·obtain⟨h,_,pl,_⟩:=I.list f;refine⟨pl.isList.typeIs,λa e=>?_⟩;cases e;obtain⟨o,n,e,c,hd,_⟩:=pl;exact⟨o,e,hd⟩
  ·refine⟨⟨o,I.iz p o hk,hc⟩,λa e=>?_⟩;cases e;exact⟨o,I.iz _ o hk,hd⟩
  ·have z:∃o,s.heap.get? p=some o/\o.ExactDict:=by
    rcases hk with⟨b,hk⟩ |⟨b,hk⟩
    ·obtain⟨_,_,_,_,o,_,_,e,ex,_⟩:=I.b4 p _ hk;exact⟨o,e,ex⟩
    ·obtain⟨_,_,_,_,o,_,_,e,ex,_⟩:=I.b4 p _ hk;exact⟨o,e,ex⟩
   obtain⟨o,e,ex⟩:=z;refine⟨⟨o,e,ex.1⟩,λa d=>?_⟩;cases d;exact⟨o,e,ex.2.1⟩
  ·obtain⟨o,_,_,_,e,ex,_⟩:=I.b4 p _ hk;refine⟨⟨o,e,ex.1⟩,λa d=>?_⟩;cases d;exact⟨o,e,ex.2.1⟩
 |_=>exact wb1 ty
def Q6(K:wa2)(T:String)(r:V->List V->Hp->VK->Prop)(to:TE):TE:=λσ H Q=>to σ H λx H1=>Tq K T x H1/\r x [] H1 Q
def VP(K:wa2)(T:String)(r:V->List V->Hp->VK->Prop)(to:TE)(t:TA):TE:=λσ H Q=>to σ H λx H1=>Tq K T x H1/\t σ H1 λxs H2=>r x xs H2 Q
variable{o e:Expr}{es:List Expr}{to:TE}{t:TA}{name:Str}{apos eX:Pos}{T id:String}{r:V->List V->Hp->VK->Prop}
theorem Ci(p:wgE T)(slot:Slot T name id)(l:typeOf (.builtin id)=pure (.type "method_descriptor"))(C:Kj X id r)(J:PE X o to)
 (g:wct o name X.env (eval o X.env)=eval o X.env:=by rfl) (j:(apos.endLine==eX.line)=true:=by rfl):PE X (.Call (.Attribute o name apos) [] [] eX) (Q6 X.K T r to):=by
 intro a s σ H Q I h;refine wpAny_Call_method0_late g j (bO (J a s σ H _ I h) λv d ⟨x,e,b,c,ty,f⟩=>?_);obtain⟨i,k⟩:=Hh b c ty;exact⟨T,id,p,slot,l,i,k,wdk rfl (PySem.evalArgs_none (C a d σ e x [] v [] Q b c .nil f))⟩
theorem j8(J:wgE T)(slot:Slot T name id)(C:typeOf (.builtin id)=pure (.type "method_descriptor"))(U:Kj X id r)(ho:PE X o to)(ha:PA X (e::es) t)
 (j:wct o name X.env (eval o X.env)=eval o X.env:=by rfl)
 (p:((backTo eX (starEach (e::es) X.env)).all (λx=>!x.1)&&(backToKw eX (wdD [] X.env)).all (λx=>x.1.isSome)
   && decide ((e::es).length+([]:List wej).length+(if ([]:List wej).isEmpty then 0 else 1)<30))=true:=by rfl)
 (l:(apos.endLine==eX.line)=true:=by rfl) (hs:starEach (e::es) X.env=(false,eval e X.env)::starEach es X.env:=by rfl) (g:(backTo eX (starEach es X.env)).any (·.1)=false:=by rfl) :
 PE X (.Call (.Attribute o name apos) (e::es) [] eX) (VP X.K T r to t):=by
 intro a s σ H Q I h;refine wpAny_Call_method_late j p l rfl (bO (ho a s σ H _ I h) λv f ⟨x,i,b,c,ty,k⟩=>?_);obtain⟨m,n⟩:=Hh b c ty;refine⟨T,id,J,slot,C,m,n,?_⟩;have d:=ha eX a f σ i _ b k;rw[hs]at d ⊢;refine wdk (by show (false ||(backTo eX (starEach es X.env)).any (·.1))=false;rw[g]<;>rfl) (weu ?_);exact bO d λq u ⟨w,y,z,A,B⟩=>U a u σ y x w v q Q z c A B
end
def VQ(X:Cx)(id:String)(r:V->List V->Hp->VK->Prop):Prop:=
 ∀(pins:List (Addr×Obj)) (s:Shared) (σ:St) (H:Hp) (x:V) (xs:List V) (v:Value) (us:List Value) (Q:VK),Inv X pins σ H s->RelV x v->Vals xs us->r x xs H Q ->
  wpAny (model X.prog X.w) X.A (call (.builtin id) (v::us)) (EP X pins σ Q) X.xe s
theorem Vals.one:∀{x:V} {us:List Value},Vals [x] us->∃u,us=[u]/\RelV x u
 |_,_,.cons r .nil=>⟨_,rfl,r⟩
theorem Vals.zero:∀{us:List Value},Vals [] us->us=[]
 |_,.nil=>rfl
theorem Vals.dropLast(h:Vals xs us):Vals xs.dropLast us.dropLast:=by
 induction h with
 |nil=>exact .nil
 |cons r t a=>
  cases t with
  |nil=>exact .nil
  |cons q b=>exact .cons r a
theorem Vals.rep(h:Vals xs us):∀k:Nat,Vals (wam k xs).flatten (wam k us).flatten
 |0=>.nil
 |k+1=>by
  rw[wcz,wcz,wc5,wc5];exact Vals.append h (Vals.rep h k)
theorem foldl_rep(g:List Value):∀(k:Nat) (j:List Value),
 whL (λl p=>l++p) j.toArray (wam k g.toArray)=(j++(wam k g).flatten).toArray
 |0,j=>by simp
 |k+1,j=>by
  have e:j.toArray++g.toArray=(j++g).toArray:=by simp
  have a:(j++g)++(wam k g).flatten=j++(wam (k+1) g).flatten:=by
   grind
  rw[<-a,<-foldl_rep g k (j++g),<-e,wcz,wdH]
section
variable{X:Cx}{pins:List (Addr×Obj)}{σ:St}{H:Hp}{s:Shared}{l b:Addr}{xs ys zs:List V}
theorem Inv.Q7{g its':List Value}{n:Nat}{f:Array Value->Array Value}{t':Nat}(I:Inv X pins σ H s)(j:H l=some (.lst xs))
 (e:s.heap.get? l=some {cls:=.type "list",data:=.seq g.toArray n}) (p:f g.toArray=its'.toArray) (r:Vals ys its') (t:ys.length<=sizeLine) :
 Inv X pins σ (upd H l (.lst ys)) {s with heap:=s.heap.update l (wcQ f),toks:=t'}:=by
 have q:=PySem.IsL.update e f;rw[p]at q;refine I.write (x:=l) (e:=l) (by rw[j];exact trivial) (.inl rfl) (λc u a b=>(waR s.heap (wcQ f) (wb9 a)).trans b) ⟨_,q⟩ ?_;exact⟨t,its',_,r,q⟩
theorem Inv.N8(I:Inv X pins σ H s)(j:Vals ys g)(p:ys.length<=sizeLine) :
 Inv X pins σ (upd H s.heap.objs.size (.lst ys)) {s with heap:=s.heap.push {cls:=.type "list",data:=.seq g.toArray},toks:=t'}:=
 I.laid (λ_ _ q=>wa8 _ q) (waa _) ⟨p,g,0,j,waq _ rfl⟩
theorem Inv.fresh(I:Inv X pins σ H s):H s.heap.objs.size=none:=I.b4.fresh (waa _)
theorem Inv.Hi(I:Inv X pins σ H s)(j:H l=some (.lst xs)):xs.length<=sizeLine/\∃(g:List Value) (n:Nat),Vals xs g/\xs.length=g.length/\s.heap.get? l=some {cls:=.type "list",data:=.seq g.toArray n}:=by
 obtain⟨z,g,n,r,e⟩:=I.b4 l _ j;exact⟨z,g,n,r,r.length,e⟩
theorem Hj(h:n<=sizeLine):wdP n=false:=by grind [wdP,decide_eq_false]
end
section
variable{X:Cx}
inductive Kk(x:V)(vs:List V)(H:Hp)(Q:VK):Prop
 |mk (l xs y) (_:x=.ref l) (_:vs=[y]) (_:H l=some (.lst xs)) (_:xs.length<sizeLine) (_:Q .non (upd H l (.lst (xs++[y]))))
theorem cV:VQ X "list.append" Kk:=by
 intro b s σ H x i v j Q I d f h;obtain⟨l,k,y,rfl,rfl,c,m,q⟩:=h;cases d;obtain⟨u,rfl,g⟩:=f.one;obtain⟨z,a,n,r,hl,e⟩:=I.Hi c;refine wev waX ⟨_,e,rfl⟩ F.entry_list_append (F.args_list_append_2 _ _) (PySem.list_append l a.toArray n u (by grind)) ⟨e,?_⟩;refine⟨.non,_,I.Q7 (its':=a++[u]) c e (by simp) (r.append (.cons g .nil)) ?_,rfl,q⟩;rw[wa5,wci];omega
inductive Tr(x:V)(vs:List V)(H:Hp)(Q:VK):Prop
 |mk (l xs y) (_:x=.ref l) (_:vs=[]) (_:H l=some (.lst xs)) (_:xs[xs.length-1]?=some y) (_:Q y (upd H l (.lst xs.dropLast)))
theorem N9:VQ X "list.pop" Tr:=by
 intro d s σ H x m v o Q I g i h;obtain⟨l,p,y,rfl,rfl,f,j,q⟩:=h;cases g;have b:=i.zero;subst b;obtain⟨z,a,n,r,hl,e⟩:=I.Hi f;obtain⟨u,t,k⟩:=r.get j
 have c:a.toArray[a.toArray.size-1]?=some u:=by
  grind
 refine wev wh5 ⟨_,e,rfl⟩ F.entry_list_pop (F.args_list_pop_1 _) (MeetsSeq.list_pop_last l a.toArray n u c (by grind)) ⟨e,?_⟩;refine⟨y,_,I.Q7 (its':=a.dropLast) f e ?_ r.dropLast ?_,k,q⟩
 ·grind
 ·grind
inductive Ts(x y:V)(H:Hp)(Q:VK):Prop
 |mk (l b xs zs) (_:x=.ref l) (_:y=.ref b) (_:H l=some (.lst xs)) (_:H b=some (.lst zs)) (_:xs.length+zs.length<=sizeLine) (_:∀p,H p=none->Q (.ref p) (upd H p (.lst (xs++zs))))
theorem Hk:nA X (binaryOp .Add) Ts:=by
 intro d s σ H x y v u Q I f g h;obtain⟨l,b,t,w,rfl,rfl,i,j,A,q⟩:=h;cases f;cases g;obtain⟨z,c,n,r,hl,e⟩:=I.Hi i;obtain⟨B,a,C,k,m,o⟩:=I.Hi j;refine whz e o ?_ (by rw[waE,waE];omega);have p:c.toArray++a.toArray=(c++a).toArray:=by simp
 rw[p];exact⟨.ref _,_,I.N8 (t':=s.toks) (r.append k) (by rw[wa5];omega),rfl,q _ I.fresh⟩
inductive Tu(x y:V)(H:Hp)(Q:VK):Prop
 |mk (l k xs) (_:x=.ref l) (_:y=.int k) (_:H l=some (.lst xs)) (_:-(2^63)<=k) (_:k<2^63) (_:xs.length*k.toNat<=sizeLine) (_:∀p,H p=none->Q (.ref p) (upd H p (.lst (wam k.toNat xs).flatten)))
theorem Kl{α:Type}(xs:List α)(k:Nat):(wam k xs).flatten.length=k*xs.length:=by simp_all [wcz,wc5,wa5,Nat.succ_mul,wh6]
theorem Hl:nA X (binaryOp .Mult) Tu:=by
 intro p s σ H x y v u Q I A B h;obtain⟨l,k,L,rfl,rfl,C,D,E,w,q⟩:=h;cases A;obtain⟨t,rfl⟩:=B;obtain⟨z,b,n,r,hl,e⟩:=I.Hi C;have d:b.toArray.size*k.toNat<=sizeLine:=by rw[waE,<-hl];exact w
 have f:¬b.toArray.size*k.toNat>(2^63-1)/8:=by
  have:(sizeLine:Nat)<=(2^63-1)/8:=by decide
  omega
 have g:¬(!Builtin.List.listFitsIndex k)=true:=by
  rw[fitsIndex_both D E];exact wap
 have c:¬wdP (b.toArray.size*k.toNat)=true:=by
  rw[Hj d];exact wap
 have i:whL (λj o=>j++o) #[] (wam (if b.toArray.isEmpty=true then 0 else k.toNat) b.toArray)=(wam k.toNat b).flatten.toArray:=by
  have G:∀m:Nat,whL (λj o=>j++o) #[] (wam m b.toArray)=(wam m b).flatten.toArray:=λm=>by
   grind [foldl_rep]
  rw[G]
  cases b with
  |nil=>simp
  |cons a M=>grind
 refine wpAny_binaryOp_repeat_ref (T:="list") (U:="int") (by decide) ⟨_,e,rfl⟩ (λJ=>typeIs_int J k t) noFill_list_mul F.fills_int_mul F.slot_int_rmul repeat_list F.slot_int_index.lookup
  (wev F.slot_int_rmul (typeIs_int s k t) F.entry_int_rmul (F.args_int_rmul_2 _ _) (int___rmul___int_list k t l b.toArray n)
    ⟨e,rfl,⟨_,e,rfl⟩,wev F.slot_list_mul ⟨_,e,rfl⟩ F.entry_list_mul (F.args_list_mul_2 _ _) (AutoListH.list___mul___list_int_3 l b.toArray n k t g f c) ⟨e,?_⟩⟩)
 rw[i];exact⟨.ref _,_,I.N8 (t':=s.toks) (r.rep k.toNat) (by rw[Kl,Nat.mul_comm];exact w),rfl,q _ I.fresh⟩
end
section
variable{prog:wau}{w:World}{A:Around}{E:Value->Shared->Prop}{s:Shared}
set_option maxRecDepth 100000 in
end
section
variable{X:Cx}
end
section
variable{κ:Type}[DecidableEq κ]
noncomputable def bA(kvs:List (κ×V))(k:κ):Option V:=(kvs.find? λkv=>decide (kv.1=k)).map (·.2)
noncomputable def putK(kvs:List (κ×V))(k:κ)(v:V):List (κ×V):=
 if (kvs.any λkv=>decide (kv.1=k))=true then kvs.map (λkv=>if kv.1=k then(kv.1,v) else kv) else kvs++[(k,v)]
theorem Hm:bA ([]:List (κ×V)) k=none:=rfl
theorem cj{p:κ×V}{r:List (κ×V)}{k:κ}(e:p.1=k):bA (p::r) k=some p.2:=by simp[bA,wdb,e]
theorem ck{p:κ×V}{r:List (κ×V)}{k:κ}(e:¬p.1=k):bA (p::r) k=bA r k:=by simp[bA,wdb,e]
theorem iL(k:κ):∀kvs:List (κ×V),(kvs.any λg=>decide (g.1=k))=(bA kvs k).isSome
 |[]=>rfl
 |p::r=>by
  rw[wd3]
  by_cases e:p.1=k
  ·simp only[cj e,decide_eq_true e,Bool.true_or,Option.isSome_some]
  ·rw[ck e,decide_eq_false e,Bool.false_or];exact iL k r
theorem Ah(k j:κ)(y:V):∀kvs:List (κ×V),bA (kvs.map λg=>if g.1=k then(g.1,y) else g) j=(bA kvs j).map λx=>if j=k then y else x
 |[]=>rfl
 |p::r=>by
  have a:=Ah k j y r;rw[waz]
  by_cases h:p.1=k
  ·rw[if_pos h]
   by_cases e:p.1=j
   ·rw[cj (p:=(p.1,y)) e,cj e,wew,if_pos (e.symm.trans h)]
   ·rw[ck (p:=(p.1,y)) e,ck e,a]
  ·rw[if_neg h]
   by_cases e:p.1=j
   ·rw[cj (p:=p) e,cj e,wew,if_neg (λz=>h (e.trans z))]
   ·rw[ck (p:=p) e,ck e,a]
theorem xR(k j:κ)(y:V):∀kvs:List (κ×V),bA kvs k=none->bA (kvs++[(k,y)]) j=if j=k then some y else bA kvs j
 |[],_=>by
  by_cases e:k=j
  ·rw[if_pos e.symm];exact cj (p:=(k,y)) e
  ·rw[if_neg (λz=>e z.symm)];exact ck (p:=(k,y)) e
 |p::r,hn=>by
  rw[List.cons_append];have hk:¬p.1=k:=λz=>by rw[cj z]at hn;cases hn
  rw[ck hk]at hn;have a:=xR k j y r hn
  by_cases e:p.1=j
  ·rw[cj e,cj e,if_neg (λz=>hk (e.trans z))]
  ·rw[ck e,ck e,a]
theorem uA(kvs:List (κ×V))(k j:κ)(y:V):bA (putK kvs k y) j=if j=k then some y else bA kvs j:=by
 unfold putK
 by_cases a:(kvs.any λb=>decide (b.1=k))=true
 ·rw[if_pos a,Ah];rw[iL]at a
  by_cases e:j=k
  ·obtain⟨x,c⟩:=wfs.mp a;rw[if_pos e,e,c,wew,if_pos rfl]
  ·rw[if_neg e]
   cases bA kvs j with
   |none=>rfl
   |some x=>rw[wew,if_neg e]
 ·rw[if_neg a];refine xR k j y kvs ?_;rw[iL]at a
  cases q:bA kvs k with
  |none=>rfl
  |some x=>rw[q]at a;exact(a rfl).elim
theorem fu(kvs:List (κ×V))(k:κ)(v:V):(putK kvs k v).length<=kvs.length+1:=by
 unfold putK;split
 ·rw[wa0];omega
 ·rw[wa5,waK,wfX];omega
theorem f9{kvs:List (κ×V)}{k:κ}(v:V)(h:bA kvs k=none):putK kvs k v=kvs++[(k,v)]:=by simp_all [putK,iL,if_neg]
theorem jl.jx(r:jl o u):o.isSome=u.isSome:=by
 cases o with
 |none=>cases u with
  |none=>rfl
  |some _=>exact(show False from r).elim
 |some _=>cases u with
  |none=>exact(show False from r).elim
  |some _=>rfl
theorem jl.getD(r:jl o u)(rd:RelV d d'):RelV (o.getD d) (u.getD d'):=by
 cases o with
 |none=>cases u with
  |none=>exact rd
  |some _=>exact(show False from r).elim
 |some _=>cases u with
  |none=>exact(show False from r).elim
  |some _=>exact r
theorem KV.val{kvs:List (κ×V)}{vs:List (κ×Value)}(r:KV kvs vs)(k:κ):jl (bA kvs k) (valueAt vs k):=by
 unfold KV at r
 induction r with
 |nil=>exact wbu
 |@cons p q ps a h t f=>
  obtain⟨d,g⟩:=h
  by_cases e:p.1=k
  ·have c:q.1=k:=d.symm.trans e;have b:valueAt (q::a) k=some q.2:=by simp[valueAt,wdb,c]
   rw[cj e,b];exact g
  ·have c:¬q.1=k:=λz=>e (d.trans z);have b:valueAt (q::a) k=valueAt a k:=by simp[valueAt,wdb,c]
   rw[ck e,b];exact f
theorem KV.any{kvs:List (κ×V)}{vs:List (κ×Value)}(r:KV kvs vs)(k:κ):(kvs.any λg=>decide (g.1=k))=vs.any λg=>decide (g.1=k):=by
 unfold KV at r
 induction r with
 |nil=>rfl
 |cons h t a=>rw[wd3,wd3,a,h.1]
theorem KV.repl(r:KV kvs vs)(k:κ)(j:RelV y u) :
 KV (kvs.map λg=>if g.1=k then(g.1,y) else g) (vs.map λg=>if g.1=k then(g.1,u) else g):=by
 unfold KV at r ⊢
 induction r with
 |nil=>exact .nil
 |@cons p q ps d h t b=>
  rw[waz,waz];refine .cons ?_ b;obtain⟨a,c⟩:=h
  by_cases e:p.1=k
  ·rw[if_pos e,if_pos (a.symm.trans e)];exact⟨a,j⟩
  ·rw[if_neg e,if_neg (λz=>e (a.trans z))];exact⟨a,c⟩
theorem KV.put{kvs:List (κ×V)}{vs:List (κ×Value)}(r:KV kvs vs)(k:κ){y:V}{u:Value}(g:RelV y u):KV (putK kvs k y) (stored vs k u):=by
 unfold putK stored;rw[r.any k]
 by_cases e:(vs.any λa=>decide (a.1=k))=true
 ·rw[if_pos e,if_pos e];exact r.repl k g
 ·rw[if_neg e,if_neg e];exact Paired.snoc r ⟨rfl,g⟩
theorem KV.keys{kvs:List (κ×V)}{vs:List (κ×Value)}(r:KV kvs vs):kvs.map (·.1)=vs.map (·.1):=by
 unfold KV at r
 induction r with
 |nil=>rfl
 |cons h t a=>grind
theorem KV.length{kvs:List (κ×V)}{vs:List (κ×Value)}(r:KV kvs vs):kvs.length=vs.length:=wgN r
end
theorem sf(r:RelV (kV k) u):(bc P w).is k u=true:=by grind [RelV,kV,bc,A6,A7]
theorem xS:∀{g:List Key} {us:List Value},Vals (g.map kV) us->ItemsAre (bc P w) g us
 |[],_,r=>by rw[wdQ]at r;cases r;exact .nil
 |k::g,_,r=>by
  rw[waz]at r
  cases r with
  |cons h t=>exact .cons (sf h) (xS t)
abbrev KT(H:Hp):List (List Key×V)->List (List Key×Addr×Value)->Prop:=Paired λp q=>p.1=q.1/\H q.2.1=some (.tup (p.1.map kV))/\RelV p.2 q.2.2
theorem KT.val{H:Hp}{kvs:List (List Key×V)}{xs:List (List Key×Addr×Value)}(r:KT H kvs xs)(k:List Key):jl (bA kvs k) ((atKey xs k).map (·.2)):=by
 induction r with
 |nil=>exact wbu
 |@cons p q ps a h t f=>
  obtain⟨d,_,g⟩:=h
  by_cases e:p.1=k
  ·have c:q.1=k:=d.symm.trans e;have b:atKey (q::a) k=some q.2:=by simp[atKey,wdb,c]
   rw[cj e,b];exact g
  ·have c:¬q.1=k:=λz=>e (d.trans z);have b:atKey (q::a) k=atKey a k:=by simp[atKey,wdb,c]
   rw[ck e,b];exact f
theorem KT.repl(r:KT H kvs xs)(k:List Key)(j:RelV y u) :
 KT H (kvs.map λg=>if g.1=k then(g.1,y) else g) (xs.map (putAt k u)):=by
 induction r with
 |nil=>exact .nil
 |@cons p q ps f h t c=>
  rw[waz,waz];refine .cons ?_ c;obtain⟨a,b,d⟩:=h;unfold putAt
  by_cases e:p.1=k
  ·rw[if_pos e,if_pos (a.symm.trans e)];exact⟨a,b,j⟩
  ·rw[if_neg e,if_neg (λz=>e (a.trans z))];exact⟨a,b,d⟩
theorem KT.put{H:Hp}{kvs:List (List Key×V)}{xs:List (List Key×Addr×Value)}(r:KT H kvs xs)(k:List Key){b:Addr}{y:V}{u:Value}(j:H b=some (.tup (k.map kV)))(g:RelV y u) :
 KT H (putK kvs k y) (storedH xs k b u):=by
 have e:(kvs.any λa=>decide (a.1=k))=(atKey xs k).isSome:=by
  rw[iL,(r.val k).jx,wfa]
 unfold putK storedH;rw[e]
 by_cases q:(atKey xs k).isSome=true
 ·rw[if_pos q,if_pos q];exact r.repl k g
 ·rw[if_neg q,if_neg q];exact Paired.snoc r ⟨rfl,j,g⟩
theorem KT.keeps(r:KT H kvs xs)(g:∀b ys,H b=some (.tup ys)->j b=some (.tup ys)):KT j kvs xs:=
 Paired.MU r λ_ _ z=>⟨z.1,g _ _ z.2.1,z.2.2⟩
section
variable{P:wau}{w:World}{H:Hp}{h:Heap}{a:Addr}
theorem Mh(ok:jt P w H h)(e:Rd H a u):cb P w H h a u:=e.ok ok
theorem jy(ok:jt P w H h)(e:Rd H a (.dK kvs)):kvs.length<=sizeLine/\(a==wcO)=false/\∃vs,KV kvs vs/\h.DictOf (bc P w) a vs:=
 show cb P w H h a (.dK kvs) from Mh ok e
theorem p8(ok:jt P w H h)(e:H a=some (.dK kvs)):kvs.length<=sizeLine/\(a==wcO)=false/\∃vs,KV kvs vs/\h.DictOf (bc P w) a vs:=jy ok (.inl e)
theorem qR(ok:jt P w H h)(e:H a=some (.tup (g.map kV))):(weT (bc P w)).is h g a:=by
 obtain⟨_,b,r,o,c,d,n,f⟩:=(show cb P w H h a (.tup (g.map kV)) from ok a _ e);exact⟨o,b.toArray,n,c,d,f,by simpa using xS r⟩
theorem uB(ok:jt P w H h)(e:Rd H a (.dT kvs)):kvs.length<=sizeLine/\(a==wcO)=false /\
 ∃xs,KT H kvs xs/\h.DictOfH (weT (bc P w)) a xs:=by
 obtain⟨z,y,xs,r,o,b,c,d,f,g,i,j⟩:=(show cb P w H h a (.dT kvs) from Mh ok e);refine⟨z,y,xs,r,o,b,c,d,f,g,i,λx k=>?_,j⟩
 have all:∀{l:List (List Key×V)} {m:List (List Key×Addr×Value)},KT H l m->∀x∈m,(weT (bc P w)).is h x.1 x.2.1:=by
  intro l m q
  induction q with
  |nil=>grind
  |@cons p q ps n s t u=>
   grind [qR]
 exact all r x k
theorem Q8(ok:jt P w H h)(e:H a=some (.dT kvs)):kvs.length<=sizeLine/\(a==wcO)=false /\
 ∃xs,KT H kvs xs/\h.DictOfH (weT (bc P w)) a xs:=uB ok (.inl e)
end
def eD(H:Hp)(a:Addr)(y:V)(r:Option V):Prop:=
 (∃kvs k,Rd H a (.dK kvs)/\y=kV k/\r=bA kvs k)\/∃kvs k b,Rd H a (.dT kvs)/\y=.ref b/\H b=some (.tup (k.map kV))/\r=bA kvs k
def ke(H:Hp)(a:Addr)(y v:V)(H':Hp):Prop:=
 (∃kvs k,H a=some (.dK kvs)/\y=kV k/\kvs.length<sizeLine/\H'=upd H a (.dK (putK kvs k v))) \/
 ∃kvs k b,H a=some (.dT kvs)/\y=.ref b/\H b=some (.tup (k.map kV))/\kvs.length<sizeLine/\H'=upd H a (.dT (putK kvs k v))
theorem eD.k{H:Hp}{a:Addr}{kvs:List (Key×V)}{k:Key}(e:H a=some (.dK kvs)):eD H a (kV k) (bA kvs k):=.inl ⟨kvs,k,.inl e,rfl,rfl⟩
theorem ke.k{H:Hp}{a:Addr}{kvs:List (Key×V)}{k:Key}{v:V}(e:H a=some (.dK kvs))(hl:kvs.length<sizeLine):ke H a (kV k) v (upd H a (.dK (putK kvs k v))):=.inl ⟨kvs,k,e,rfl,hl,rfl⟩
section
variable{X:Cx}{pins:List (Addr×Obj)}{σ:St}{H:Hp}{s:Shared}{a:Addr}{y v:V}{u r:Value}{o:Option V}{A:Around}{E:Value->Shared->Prop}
theorem Inv.big(I:Inv X pins σ H s):wcO<s.heap.objs.size:=by
 have h:waQ<s.heap.objs.size:=(I.mod.glob.keeps I.bk).lt;exact Nat.lt_trans (by decide) h
theorem F4{Q:Value->Shared->Prop}(C:A.units+1<wcI)(I:Inv X pins σ H s)(g:eD H a y (some v))(t:RelV y u)(h:∀j s',Inv X pins σ H s'->RelV v j->Q j s') :
 wpAny (model X.prog X.w) A (getItem (.ref a) u) Q E s:=by
 rcases g with⟨d,k,e,f,l⟩ |⟨d,k,b,e,f,n,l⟩
 ·subst f;obtain⟨z,hd,q,rel,i⟩:=jy I.b4 e;obtain⟨j,hw,c⟩:=jl.yT (v:=v) (o:=valueAt q k) (by rw[l];exact rel.val k);exact wpAny_getItem_of (sf t) i.mapOf hw (h j _ (I.tok _) c)
 ·subst f;cases(show u=wan b from t);obtain⟨z,hd,r,rel,i⟩:=uB I.b4 e;obtain⟨j,hw,c⟩:=jl.yT (v:=v) (o:=(atKey r k).map (·.2)) (by rw[l];exact rel.val k);obtain⟨p,x,m⟩:=wdi.mp hw;refine wpAny_getItem_heap (wdc C) (qR I.b4 n) i x ?_;rw[m];exact h j _ (I.tok _) c
theorem Tv{Q:Value->Shared->Prop}(p:A.units+1<wcI)(I:Inv X pins σ H s)(g:eD H a y o)(j:RelV y u)(h:∀s',Inv X pins σ H s'->Q (.bool o.isSome) s') :
 wpAny (model X.prog X.w) A (wbk .In u (.ref a)) Q E s:=by
 rcases g with⟨c,k,e,d,l⟩ |⟨c,k,b,e,d,i,l⟩
 ·subst d;obtain⟨z,hd,m,rel,f⟩:=jy I.b4 e;refine wpAny_in_of (sf j) hd f.mapOf ?_;rw[<-(rel.val k).jx,<-l];exact h _ (I.tok _)
 ·subst d;cases(show u=wan b from j);obtain⟨z,hd,n,rel,f⟩:=uB I.b4 e;refine wpAny_in_heap (wdc p) (qR I.b4 i) hd f ?_;have q:=(rel.val k).jx;rw[wfa]at q;rw[<-q,<-l];exact h _ (I.tok _)
theorem Km{Q:Value->Shared->Prop}(p:A.units+1<wcI)(I:Inv X pins σ H s)(g:eD H a y o)(j:RelV y u)(h:∀s',Inv X pins σ H s'->Q (.bool (!o.isSome)) s') :
 wpAny (model X.prog X.w) A (wbk .NotIn u (.ref a)) Q E s:=by
 rcases g with⟨c,k,e,d,l⟩ |⟨c,k,b,e,d,i,l⟩
 ·subst d;obtain⟨z,hd,m,rel,f⟩:=jy I.b4 e;refine wpAny_notIn_of (sf j) hd f.mapOf ?_;rw[<-(rel.val k).jx,<-l];exact h _ (I.tok _)
 ·subst d;cases(show u=wan b from j);obtain⟨z,hd,n,rel,f⟩:=uB I.b4 e;refine wpAny_notIn_heap (wdc p) (qR I.b4 i) hd f ?_;have q:=(rel.val k).jx;rw[wfa]at q;rw[<-q,<-l];exact h _ (I.tok _)
theorem ua(I:Inv X pins σ H s)(g:Pt (H a))(hs:wfo a s.heap h')(j:∃q,h'.get? a=some q)(new:cb X.prog X.w (upd H a ob) h' a ob) :
 Inv X pins σ (upd H a ob) {s with heap:=h',toks:=t'}:=
 I.write (x:=a) (e:=a) g (.inl rfl) (λb q c z=>(hs.2 b c).trans z) j new
theorem Cj(z:kvs.length<=sizeLine)(hd:(a==wcO)=false)(rel:KV kvs vs)(dd:h'.DictOf (bc P w) a vs) :
 cb P w g h' a (.dK kvs):=⟨z,hd,vs,rel,dd⟩
theorem F5{Q:Unit->Shared->Prop}(J:A.units+1<wcI)(I:Inv X pins σ H s)(g:ke H a y v T)(t:RelV y u)(C:RelV v r)(h:∀s',Inv X pins σ T s'->Q () s') :
 wpAny (model X.prog X.w) A (setItem (.ref a) u r) Q E s:=by
 rcases g with⟨d,k,e,j,l,m⟩ |⟨d,k,b,e,j,x,l,m⟩
 ·subst j m;obtain⟨z,hd,G,rel,n⟩:=p8 I.b4 e;have o:G.length<=sizeLine:=by rw[<-rel.length];exact z
  have hl:(putK d k v).length<=sizeLine:=by have:=fu d k v;omega
  refine wpAny_setItem_pairs (hsz:=o) (sf t) n λB f p=>h _ ?_;have L:∃q,B.get? a=some q:=let ⟨q,_,_,i,_⟩:=f;⟨q,i⟩
  exact ua I (by rw[e];exact wbu) p L (Cj hl hd (rel.put k C) f)
 ·subst j m;cases(show u=wan b from t);obtain⟨z,hd,M,rel,n⟩:=Q8 I.b4 e;have o:M.length<=sizeLine:=by rw[<-wgN rel];exact z
  have hl:(putK d k v).length<=sizeLine:=by have:=fu d k v;omega
  refine wpAny_setItem_heap (hsz:=o) (wdc J) (qR I.b4 x) n λB f p=>h _ ?_;obtain⟨q,N,O,i,R,S,U,_,V⟩:=f;refine ua I (by rw[e];exact wbu) p ⟨q,i⟩ ⟨hl,hd,_,(rel.put k x C).keeps λc Y D=>?_,q,N,O,i,R,S,U,V⟩;rw[ae (Pq D e (λz=>nomatch z))];exact D
end
section
variable{X:Cx}{pins:List (Addr×Obj)}{σ:St}{H:Hp}{s:Shared}{a:Addr}{kvs:List (Key×V)}{k:Key}{u:Value}{A:Around}{E:Value->Shared->Prop}
end
def Q9(i:Expr):Prop:=∀ov iv,wg6 i false ov iv=operate [ov,iv] (getItem ov iv)
theorem Kn{prog:wau}{w:World}{A:Around}{E:Value->Shared->Prop}{s:Shared}{env:Env}{value slice:Expr}{pos:Pos}{T id:String}{Q:Value->Shared->Prop}
 (hl:wfh (.type T) "__getitem__"=pure (some (.builtin id))) (hs:Q9 slice)
 (h:wpAny (model prog w) A (eval value env) (λo j=>wpAny (model prog w) A (eval slice env) (λi g=>g.TypeIs o T/\wpAny (model prog w) A (getItem o i) Q E g) E j) E s) :
 wpAny (model prog w) A (eval (.Subscript value slice pos) env) Q E s:=by
 refine wgD (wb8 h (λo j c=>wb8 c (λi g a=>?_) λ_ _ x=>x) λ_ _ x=>x);obtain⟨e,a⟩:=a;unfold wf1;refine wa7 ?_;rw[getitemInPython_of_ne e.not_modules];refine wa7 (wpAny_specialOf e hl ?_)
 have fin:wpAny (model prog w) A (wg6 slice false o i) (λr b=>wpAny (model prog w) A (letTemporaryGo value o r >>= λ_=>pure r) Q E b) E g:=by
  rw[hs o i];exact wpAny_operating (wb8 a (λr b d=>wa7 (wpAny_letTemporaryGo (wax d))) λ_ _ x=>x)
 first
  |exact wax (wa7 fin)
  |exact wa7 (wax (wa7 fin))
  |exact wa7 fin
theorem Ai{X:Cx}(I:Inv X j σ H s)(g:eD H a y o):s.TypeIs (.ref a) "dict":=by
 rcases g with⟨c,k,e,_,_⟩ |⟨c,k,b,e,_,_,_⟩
 ·obtain⟨_,_,f,_,d⟩:=jy I.b4 e;exact d.typeIs
 ·obtain⟨_,_,h,_,d⟩:=uB I.b4 e;exact d.typeIs
def Qa(td ty:TE):TE:=λσ H Q=>td σ H λx H1=>ty σ H1 λy H2=>∃a v,x=.ref a/\eD H2 a y (some v)/\Q v H2
def Tw(ty td:TE):TE:=λσ H Q=>ty σ H λy H1=>td σ H1 λx H2=>∃a o,x=.ref a/\eD H2 a y o/\Q (.bl o.isSome) H2
def Ko(ty td:TE):TE:=λσ H Q=>ty σ H λy H1=>td σ H1 λx H2=>∃a o,x=.ref a/\eD H2 a y o/\Q (.bl (!o.isSome)) H2
def Mi(td ty tv:TE):TS:=λD σ H=>tv σ H λv H1=>td σ H1 λx H2=>ty σ H2 λy H3=>∃a H4,x=.ref a/\ke H3 a y v H4/\D.nx σ H4
section
variable{X:Cx}{o i e value:Expr}{pos pos' N5:Pos}{td ty tv:TE}
theorem da(j:X.A.units+1<wcI)(l:PE X o td)(hi:PE X i ty)(hs:Q9 i):PE X (.Subscript o i pos) (Qa td ty):=by
 intro b s σ H Q I h;refine Kn PySem.F.slot_dict_getitem.lookup hs (bO (l b s σ H _ I h) λu e ⟨x,f,k,m,n⟩=>bO (hi b e σ f _ k n) λw z ⟨y,p,d,q,a,v,ex,g,r⟩=>?_);subst ex;obtain rfl:u=wan a:=m;exact⟨Ai d g,F4 j d g q λB C t c=>⟨v,p,t,c,r⟩⟩
theorem Hn(j:X.A.units+1<wcI)(hi:PE X i ty)(l:PE X o td):PC X .In i o (Tw ty td):=by
 intro b s σ H Q I h;refine bO (hi b s σ H _ I h) λv c ⟨y,d,e,f,k⟩=>bO (l b c σ d _ e k) λu w ⟨x,m,n,p,a,q,ex,g,r⟩=>?_;subst ex;obtain rfl:u=wan a:=p;exact Tv j n g f λz t=>⟨.bl q.isSome,m,t,rfl,r⟩
theorem xT(j:X.A.units+1<wcI)(hi:PE X i ty)(l:PE X o td):PC X .NotIn i o (Ko ty td):=by
 intro b s σ H Q I h;refine bO (hi b s σ H _ I h) λv c ⟨y,d,e,f,k⟩=>bO (l b c σ d _ e k) λu w ⟨x,m,n,p,a,q,ex,g,r⟩=>?_;subst ex;obtain rfl:u=wan a:=p;exact Km j n g f λz t=>⟨.bl (!q.isSome),m,t,rfl,r⟩
theorem et(j:X.A.units+1<wcI)(l:PE X o td)(hi:PE X i ty)(p:PE X value tv)(hs:wc6 value (some (.Subscript o i pos')) pos.line X.env=pure false) :
 PS X (.Assign [.Subscript o i pos'] value pos) (Mi td ty tv):=by
 intro b s σ H D I h;refine wpAny_Assign_Subscript (bO (p b s σ H _ I h) λr c ⟨v,d,e,f,k⟩=>bO (l b c σ d _ e k) λu m ⟨x,n,q,t,w⟩=>bO (hi b m σ n _ q w) λJ L ⟨y,M,z,B,a,C,ex,g,E⟩=>?_) hs;subst ex;obtain rfl:u=wan a:=t;exact F5 j z g B f λN G=>⟨σ,C,G,E⟩
end
theorem uC(h:Heap)(g:wcO<h.objs.size):cb P w H (h.push {cls:=.type "dict",data:=.dict #[]}) h.objs.size (.dK []):=
 ⟨waB _,beq_eq_false_iff_ne.mpr (wb9 (war g)),[],.nil,Heap.DictOf.new h⟩
def Nb:TE:=λ_ H Q=>∀p,H p=none->Q (.ref p) (upd H p (.dK []))
section
variable{X:Cx}{pos:Pos}
theorem cY:PE X (.Dict [] [] pos) Nb:=λb s σ H Q I h=>
 wpAny_Dict_empty ⟨.ref s.heap.objs.size,_,I.laid (a:=s.heap.objs.size) (o:=.dK []) (t':=s.toks) (λ_ _ q=>wa8 _ q) (waa _) (uC s.heap I.big),rfl,h _ (I.b4.fresh (waa _))⟩
end
def Ck:List (TE×TE)->St->Hp->(List (V×V)->Hp->Prop)->Prop
 |[],_,H,Q=>Q [] H
 |(tk,tv)::r,σ,H,Q=>tk σ H λx H1=>tv σ H1 λy H2=>Ck r σ H2 λps H3=>Q ((x,y)::ps) H3
abbrev VV:List (V×V)->List (Value×Value)->Prop:=Paired λp q=>RelV p.1 q.1/\RelV p.2 q.2
def Sh(X:Cx)(pos:Pos)(keys:List (Option Expr))(values:List Expr)(Tx:List (TE×TE)):Prop:=
 ∀(pins:List (Addr×Obj)) (s:Shared) (σ:St) (H:Hp) (Q:List (V×V)->Hp->Prop),Inv X pins σ H s->Ck Tx σ H Q ->
  wpAny (model X.prog X.w) X.A (evalPairs (pairTrees keys values X.env pos)) (λvs s'=>∃ps H',Inv X pins σ H' s'/\VV ps vs/\Q ps H') X.xe s
theorem DZ{X:Cx}:Sh X pos [] [] []:=λa s σ H Q I h=>pairTrees_nil_walk ⟨[],H,I,.nil,h⟩
theorem Aj{X:Cx}(hk:PE X k tk)(j:PE X v l)(p:Sh X pos r vs g) :
 Sh X pos (some k::r) (v::vs) ((tk,l)::g):=λa s σ H Q I h=>
 pairTrees_cons_walk (bO (hk a s σ H _ I h) λu b ⟨x,c,d,e,f⟩=>bO (j a b σ c _ d f) λA i ⟨y,m,n,o,q⟩=>
  bO (p a i σ m _ n q) λB C ⟨ps,t,w,rel,z⟩=>⟨(x,y)::ps,t,w,.cons ⟨e,o⟩ rel,z⟩)
noncomputable def kg(kvs more:List (Key×V)):List (Key×V):=more.foldl (λacc kv=>putK acc kv.1 kv.2) kvs
theorem KV.merge:∀{more:List (Key×V)} {rs:List (Key×Value)} {kvs:List (Key×V)} {vs:List (Key×Value)},KV more rs->KV kvs vs->KV (kg kvs more) (merged vs rs):=by
 intro more rs kvs vs r;unfold KV at r
 induction r generalizing kvs vs with
 |nil=>intro q;exact q
 |@cons p q ps c h t a=>
  intro b
  have e:KV (putK kvs p.1 p.2) (stored vs q.1 q.2):=by
   have:=b.put p.1 h.2;rw[<-h.1];exact this
  exact a e
theorem wN:∀(more kvs:List (Key×V)),(kg kvs more).length<=kvs.length+more.length:=by intro more;induction more<;>grind [putK,fu,kg,waK]
theorem uD:∀{kvs:List (Key×V)} {ws:List (Value×Value)},VV (kvs.map λg=>(kV g.1,g.2)) ws->∃rs,Carries (bc P w) ws rs/\KV kvs rs
 |[],_,r=>by rw[wdQ]at r;cases r;exact⟨[],wbu,.nil⟩
 |p::kvs,_,r=>by
  rw[waz]at r
  cases r with
  |@cons a b as bs h t=>
   obtain⟨rs,c,q⟩:=uD (P:=P) (w:=w) t;obtain⟨b1,d⟩:=b;exact⟨(p.1,d)::rs,⟨sf h.1,rfl,c⟩,.cons ⟨rfl,h.2⟩ q⟩
def Qb(Tx:List (TE×TE)):TE:=λσ H Q=>∀p,H p=none->Ck Tx σ (upd H p (.dK [])) λps H2=>H2 p=some (.dK [])/\∃kvs:List (Key×V),ps=kvs.map (λkv=>(kV kv.1,kv.2))/\kvs.length<=15/\Q (.ref p) (upd H2 p (.dK (kg [] kvs)))
theorem E1{X:Cx}(h:Sh X pos keys values j)(g:keys.all (·.isSome)=true)(hl:keys.length=values.length)(h0:keys≠[])
 (l:keys.length<=15):PE X (.Dict keys values pos) (Qb j):=by
 intro b s σ H Q I q;have hn:=I.b4.fresh (waa s.heap.objs.size);have k:=I.laid (a:=s.heap.objs.size) (o:=.dK []) (h':=s.heap.push {cls:=.type "dict",data:=.dict #[]}) (t':=s.toks) (λ_ _ q=>wa8 _ q) (waa _) (uC s.heap I.big);refine wpAny_Dict_walk (knd:=bc X.prog X.w) g hl h0 l (bO (h b _ σ _ _ k (q _ hn)) λD E ⟨ps,G,i,rel,e,d,m,lk,n⟩=>?_);subst m;obtain⟨p,c,r⟩:=uD (P:=X.prog) (w:=X.w) rel;obtain⟨z,hd,t,u,v⟩:=p8 i.b4 e;cases u;refine⟨p,c,v,λh' f x=>⟨.ref s.heap.objs.size,_,?_,rfl,n⟩⟩
 have y:(kg [] d).length<=sizeLine:=by
  have A:=wN d [];rw[wfX]at A;rw[wcb];omega
 have B:∃q,h'.get? s.heap.objs.size=some q:=let ⟨q,_,_,C,_⟩:=f;⟨q,C⟩
 exact ua i (by rw[e];exact wbu) x B (Cj y hd (r.merge .nil) f)
structure M1(X:Cx)(o:Expr)(m:Str)(apos:Pos)(e:Expr)(eX:Pos):Prop where
 base:wct o m X.env (eval o X.env)=eval o X.env
 few:((backTo eX (starEach [e] X.env)).all (λx=>!x.1)&&(backToKw eX (wdD [] X.env)).all (λx=>x.1.isSome)
  && decide (([e]:List Expr).length+([]:List wej).length+(if ([]:List wej).isEmpty then 0 else 1)<30))=true
 line:(apos.endLine==eX.line)=true
 trees:backTo eX (starEach [e] X.env)=[(false,eval e X.env)]
structure M2(X:Cx)(o:Expr)(m:Str)(apos:Pos)(e f:Expr)(eX:Pos):Prop where
 base:wct o m X.env (eval o X.env)=eval o X.env
 few:((backTo eX (starEach [e,f] X.env)).all (λx=>!x.1)&&(backToKw eX (wdD [] X.env)).all (λx=>x.1.isSome)
  && decide (([e,f]:List Expr).length+([]:List wej).length+(if ([]:List wej).isEmpty then 0 else 1)<30))=true
 line:(apos.endLine==eX.line)=true
 trees:backTo eX (starEach [e,f] X.env)=[(false,eval e X.env),(false,eval f X.env)]
def Tz(H:Hp)(a:Addr):Prop:=(∃kvs,Rd H a (.dK kvs))\/∃kvs,Rd H a (.dT kvs)
theorem Ho{X:Cx}(I:Inv X j σ H s)(d:Tz H a) :
 s.TypeIs (.ref a) "dict"/\(∀b,wan a=.ref b->∃ob,s.heap.get? b=some ob/\ob.dict=none)/\(a==wcO)=false:=by
 rcases d with⟨f,e⟩ |⟨f,e⟩
 ·obtain⟨_,hd,i,_,c⟩:=jy I.b4 e;refine⟨c.typeIs,λb q=>?_,hd⟩;cases q;obtain⟨ob,_,_,g,h,_⟩:=c;exact⟨ob,g,h.2.1⟩
 ·obtain⟨_,hd,k,_,c⟩:=uB I.b4 e;refine⟨c.typeIs,λb q=>?_,hd⟩;cases q;obtain⟨ob,_,_,g,h,_⟩:=c;exact⟨ob,g,h.2.1⟩
section
variable{X:Cx}{pins:List (Addr×Obj)}{σ:St}{H:Hp}{s:Shared}{a:Addr}{y d:V}{u r:Value}{o:Option V}{A:Around}{E:Value->Shared->Prop}
theorem Nc{Q:Value->Shared->Prop}(t:A.units+1<wcI)(I:Inv X pins σ H s)(g:eD H a y o)(j:RelV y u)(rd:RelV d r)(h:∀p s',Inv X pins σ H s'->RelV (o.getD d) p->Q p s') :
 wpAny (model X.prog X.w) A (call (.builtin "dict.get") [.ref a,u,r]) Q E s:=by
 rcases g with⟨f,k,e,i,l⟩ |⟨f,k,b,e,i,m,l⟩
 ·subst i;obtain⟨z,hd,q,rel,c⟩:=jy I.b4 e;refine wex wek c.typeIs wg9 (wfJ _ _ _) (meets_dict_get_default (bc X.prog X.w) a (sf j) hd r) ⟨_,c.mapOf,h _ _ (I.tok _) ?_⟩;rw[l];exact(rel.val k).getD rd
 ·subst i;cases(show u=wan b from j);obtain⟨z,hd,n,rel,c⟩:=uB I.b4 e;refine wex wek c.typeIs wg9 (wfJ _ _ _) (meetsH_dict_get_default (weT (bc X.prog X.w)) a b hd r) ⟨wdc t,k,n,qR I.b4 m,c,h _ _ (I.tok _) ?_⟩;rw[l];exact(rel.val k).getD rd
end
def Nf(td ty tx:TE):TE:=λσ H Q=>td σ H λx H1=>∃a,x=.ref a/\Tz H1 a/\ty σ H1 λy H2=>tx σ H2 λz H3=>∃o,eD H3 a y o/\Q (o.getD z) H3
section
variable{X:Cx}{o e f:Expr}{apos eX:Pos}{td ty tx:TE}
theorem Hq(j:X.A.units+1<wcI)(l:PE X o td)(p:PE X e ty)(r:PE X f tx)(m:M2 X o "get" apos e f eX):PE X (.Call (.Attribute o "get" apos) [e,f] [] eX) (Nf td ty tx):=by
 intro b s σ H Q I h;refine wpAny_Call_method m.base m.few m.line wcv wek PySem.F.type_dict_get (bO (l b s σ H _ I h) λu k ⟨x,n,i,q,a,ex,d,t⟩=>?_);subst ex;obtain rfl:u=wan a:=q;obtain⟨v,w,_⟩:=Ho i d;refine⟨v,w,?_⟩;rw[m.trees]
 refine wdk rfl (weu (wd9 (bO (p b k σ n _ i t) λR B ⟨y,C,D,E,G⟩=>
  wd9 (bO (r b B σ C _ D G) λS T ⟨z,J,L,M,U,g,N⟩=>wf8 ?_))))
 exact Nc j L g E M λV Y O c=>⟨_,J,O,c,N⟩
end
section
variable{X:Cx}{pins:List (Addr×Obj)}{σ:St}{H:Hp}{s:Shared}{a:Addr}{kvs:List (Key×V)}{A:Around}{E:Value->Shared->Prop}
end
section
variable{X:Cx}{pins:List (Addr×Obj)}{σ:St}{H:Hp}{s:Shared}{a:Addr}{y:V}{u:Value}{A:Around}{E:Value->Shared->Prop}
end
end L2
namespace VR
open PySem PySem.W PySem.Calls PyProof.Rows
theorem tK:∀(ns:List Int) (vs:List Value),WellAll P h vs (ns.map WData.int)->IntsAre vs ns:=by
 intro ns
 induction ns with
 |nil=>
  intro vs w;rw[wdQ]at w;cases w;exact .nil
 |cons n ns c=>
  intro vs w;rw[waz]at w
  cases w with
  |cons a b=>
   cases a;exact .cons _ _ (c _ b)
theorem F6{l:weF}{n:Nat}(hn:l.most=some n){P:Params}{h:Heap}{args:List WData}{g:List Value}
 (j:l.row.toRowW.claim.pre args=true) (p:WellAll P h g args) :
 ∃a vs ns,g=[wan a]/\args=[WData.list (ns.map WData.int)]/\h.get? a=some {cls:=.type "list",data:=.seq vs.toArray}/\IntsAre vs ns/\ns.length<=n:=by
 have i:WShape.hasAll [] args [.list .int]=true:=(pre_splitW j).1;have hc:l.pre.holds [] {args:=args}=true:=(pre_splitW j).2;obtain⟨d,r,rfl,k,m⟩:=hasAllW_cons i;obtain rfl:=hasAllW_nil m;obtain⟨w,rfl,o⟩:=hasW_list k;obtain⟨ns,rfl⟩:=items_int o
 have b:ns.length<=n:=by
  unfold OpenLaw.pre at hc
  have e:(WTm.not (.lt (.lit (.int (n:Int))) (.len (.arg 0)))).holds [] {args:=[.list (ns.map .int)]}=true:=by
   have e:=(holds_andW hc).1;rw[hn]at e;exact e
  have f:=condW_of e (w_not (w_lt w_lit (w_len_list (w_arg rfl))));rw[wa0]at f;refine whA λq=>?_;have s:(n:Int)<((ns.length:Nat):Int):=by omega
  first
   |(rw[decide_eq_true s]at f;exact absurd f (by decide))
   |(simp at f;omega)
 cases p with
 |cons t u=>
  cases u
  cases t with
  |list v c=>exact⟨_,_,ns,rfl,rfl,v,tK ns _ c,b⟩
theorem F7(l:weF)(args:List WData):l.row.toRowW.claim.post args (.bool true) args=true:=
 postW_of (r:=l.row.toRowW) (X:=(true==true))
  (show WShape.has [] (.bool true) .bool=true by first |rfl |decide |simp[WShape.has,WShape.arms,WShape.armsAll])
  (show (WTm.eq .res (.lit (.bool true))).value [] {args:=args,res:=some (.bool true),after:=args}=some (.bool (true==true)) from w_eq_bool (w_res rfl) w_lit) rfl
theorem Ak{l:weF}{n:Nat}{q:wau}{loose:List Str}{XP:(Str->Option Value)->Heap->Prop}{YP:World->Heap->Prop}{d:DefRec}
 (hn:l.most=some n) (p:d.params.defaults=[])
 (call:∀(w:World) (s₀ g:Shared) (mg t:Str->Option Value) (fa:Addr) (o:Obj) (pm cd j:Value) (a:Addr) (vs:List Value) (ns:List Int),
   Ground q loose [] XP w s₀ mg t g.heap->YP w g.heap ->
   g.heap.get? fa=some o->o.data=.func (docDef d.name d.params d.body d.scope pm cd j)->g.heap.CodeRec cd d.name->mg d.name=some (.ref fa) ->
   g.heap.get? a=some {cls:=.type "list",data:=.seq vs.toArray}->IntsAre vs ns->ns.length<=n->g.gens=#[] ->
   codeAny (model l.prog w) callerA (.call (.ref fa) ⟨[.ref a],[]⟩) (λr s'=>r=.ok (.ret (.bool true))/\OldK g.heap s'.heap/\s'.os=g.os/\AllBare s'.gens) g) :
 whJ q loose XP YP l.row.toRowW d [] (λf vs=>whM f vs):=by
 intro w s₀ g mg t G Y fa o pm cd j x kV y hd i s k z args u as c v A m B;obtain rfl:x=.none:=Dflts.none s p;obtain rfl:kV=.none:=Dflts.noKw s;obtain⟨a,vs,ns,rfl,rfl,e,b,h⟩:=F6 hn c m;refine enter_call (wcc (call w s₀ g mg t fa o pm cd j a vs ns G Y y (fd_plain hd) i k e b h z) λr s' C=>?_);obtain⟨rfl,D,E,H⟩:=C;exact⟨.inl ⟨.bool true,.bool true,[],rfl,λ_=>rfl,.bool true,F7 l _,λ_=>⟨List.Pairwise.nil,λ_ I=>(nomatch I)⟩⟩,D,E,H⟩
section
variable{prog:wau}{w:World}{A:Around}{E:Value->Shared->Prop}{s:Shared}{K:Frag}
end
end VR
namespace L2
open PySem PySem.Spec PyProof.Rows
theorem xU:∀{vs:List Value} {ns:List Int},IntsAre vs ns->Vals (ns.map V.int) vs
 |_,_,.nil=>.nil
 |_,_,.cons n t h=>.cons ⟨t,rfl⟩ (xU h)
def Only(H:Hp):Prop:=∀b,H b=none\/∃o xs,H b=some (.frz o (.lst xs))
theorem Hr{P:wau}{w:World}{K:wa2}{mg I:Str->Option Value}{CX:Gz}{k:Nat}{fa a:Addr}{fd:wad}{x:Str}{sp:Sp}{g:Shared}{vs:List Value}{ns:List Int}
 (KX:K.In g.heap) (p:g.heap.Ns waQ mg) (j:g.heap.Ns builtinsNs I) (J:∀x:Str,x≠"__name__"->I x=waV x) (t:g.heap.NoLimit) (hg:g.gens=#[])
 (ha:g.heap.get? a=some {cls:=.type "list",data:=.seq vs.toArray}) (hi:IntsAre vs ns) (hl:ns.length<=sizeLine) (hr:eM k callerA)
 (F:∀base:Heap,K.In base->base.Ns waQ mg->aS P w K mg base CX k fa fd [x] sp) (l:∀(s:Shared) (u:Value),BindsTo s fd ⟨[u],[]⟩ [(x,u)])
 (T:∀H:Hp,Only H->aM K H a (ns.map V.int)->sp [.ref a] H (λv _=>v=.bl true) λ_ _ _=>False)
 (U:∀H e s',CX [] H g (λ_ _ _=>False) e s'->False) :
 codeAny (model P w) callerA (.call (.ref fa) ⟨[.ref a],[]⟩) (λr s'=>r=.ok (.ret (.bool true))/\OldK g.heap s'.heap/\s'.os=g.os/\AllBare s'.gens) g:=by
 have G:=xU hi;have f:=hi.length
 have core:∀H:Hp,Only H->aM K H a (ns.map V.int)->jt P w H g.heap->(∀b,H b≠none->b=a)->(H a≠none->K.lookup a=none) ->
  codeAny (model P w) callerA (.call (.ref fa) ⟨[.ref a],[]⟩) (λr s'=>r=.ok (.ret (.bool true))/\OldK g.heap s'.heap/\s'.os=g.os/\AllBare s'.gens) g:=by
  intro H L O b4 M Q;have E2:∀{b:Addr} {o:Obj},g.heap.get? b=some o->H b=none->(yQ g.heap H).get? b=some o:=λe n=>GI e n
  have D:∀{b:Addr} {o:Obj} {i:Array DictEntry} {y:Nat},g.heap.get? b=some o->o.data=.dict i y->H b=none:=λ{b o i y} e d=>by
   cases q:H b with
   |none=>rfl
   |some u=>
    have E:b=a:=M b (by rw[q];simp);subst E;rw[ha]at e;cases e;have R:Data.seq vs.toArray _=Data.dict i y:=d;cases R
  have c:∀{b:Addr} {m:Str->Option Value},g.heap.Ns b m->(yQ g.heap H).Ns b m:=λ{b m} ⟨o,i,y,e,d,r⟩=>⟨o,i,y,E2 e (D e d),d,r⟩
  have A:K.In (yQ g.heap H):=λb o e=>E2 (KX b o e) (by
   cases q:H b with
   |none=>rfl
   |some u=>
    have E:b=a:=M b (by rw[q];simp);subst E
    rw[Q (by rw[q];simp)]at e;cases e)
  have S:Mod K mg (yQ g.heap H):=⟨A,c p,⟨I,c j,J⟩,let ⟨X,Y,Z⟩:=t;⟨X,c Y,Z⟩⟩;have e0:Cb P w K mg (yQ g.heap H) callerA [] g H:=⟨rfl,S,λb o e=>K5 e,wdN (EK _ _),trivial,λb j=>absurd (show b∈([]:List Addr) from j) (by simp),b4,.of_eq hg⟩;refine wcc ((F _ A (c p)).run callerA [] g H ⟨[.ref a],[]⟩ [.ref a] [.ref a] _ _ hr e0 (l g (.ref a)) (.cons rfl .nil) (T H L O)) λr s' h=>?_
  cases r with
  |error e=>exact(U H e s' h).elim
  |ok fl=>
   cases fl with
   |next=>exact wb1 h
   |brk=>exact wb1 h
   |cont=>exact wb1 h
   |ret u=>
    obtain⟨v,H',os,bare,un,B,r',q⟩:=h;have q':v=.bl true:=q;subst q';obtain rfl:u=wgB true:=r';refine⟨rfl,OldK.of_keep λb o e=>?_,os,bare⟩
    cases q:H b with
    |none=>exact un.keep b o e q (by intro z;exact absurd (show b∈([]:List Addr) from z) (by simp)) (by simp)
    |some u=>
     rcases L b with z |⟨ob,xs,z⟩
     ·rw[q]at z;cases z
     ·have z2:=un.tJ b ob _ z;obtain⟨N,_⟩:=b4 b _ z;obtain⟨e2,_⟩:=B b _ z2;rw[e]at N;cases N;exact e2
 cases hk:K.lookup a with
 |some o=>
  have e:=KX a o hk;rw[ha]at e;cases e;refine core (λ_=>none) (λ_=>.inl rfl) (.inr ⟨_,vs.toArray,_,hk,rfl,rfl,rfl,by rw[waE,f];exact hl,by simpa using G⟩) (λb u z=>by have C:(none:Option HO)=some u:=z;cases C) (λb z=>absurd rfl z) λz=>absurd rfl z
 |none=>
  refine core (λb=>if b=a then some (.frz {cls:=.type "list",data:=.seq vs.toArray} (.lst (ns.map V.int))) else none) (λb=>?_) (.inl (.inr ⟨{cls:=.type "list",data:=.seq vs.toArray},if_pos rfl⟩)) (λb u z=>?_) (λb z=>?_) λ_=>hk
  ·by_cases j:b=a
   ·exact .inr ⟨_,_,if_pos j⟩
   ·exact .inl (if_neg j)
  ·by_cases j:b=a
   ·have C:=(if_pos j).symm.trans z;cases C;subst j;exact⟨ha,by rw[wa0];exact hl,vs,_,G,ha⟩
   ·have C:=(if_neg j).symm.trans z;cases C
  ·by_cases j:b=a
   ·exact j
   ·exact absurd (if_neg j) z
noncomputable abbrev KOf{K:wa2}{h:Heap}(_:K.In h):wa2:=K
theorem Kp{l:weF}{n k:Nat}{q:wau}{loose:List Str}{XP:(Str->Option Value)->Heap->Prop}{YP:World->Heap->Prop}{d:DefRec}{K:Params->wa2}{CX:World->Gz}{sp:World->Sp}{x:Str}
 (hn:l.most=some n) (p:n<=sizeLine) (r:d.params.defaults=[]) (I:eM k callerA)
 (J:∀(w:World) (h:Heap),YP w h->(K w.params).In h)
 (F:∀(w:World) (mg:Str->Option Value) (fa:Addr) (h:Heap),(K w.params).In h->h.Ns waQ mg->mg d.name=some (.ref fa) ->
   ∃fd:wad,(∀(s:Shared) (u:Value),BindsTo s fd ⟨[u],[]⟩ [(x,u)]) /\
    ∀base:Heap,(K w.params).In base->base.Ns waQ mg->aS l.prog w (K w.params) mg base (CX w) k fa fd [x] (sp w))
 (t:∀(w:World) (H:Hp) (a:Addr) (ns:List Int),ns.length<=n->Only H->aM (K w.params) H a (ns.map V.int)->sp w [.ref a] H (λv _=>v=.bl true) λ_ _ _=>False)
 (C:∀(w:World) (H:Hp) (s:Shared) (e:Value) (s':Shared),CX w [] H s (λ_ _ _=>False) e s'->False) :
 whJ q loose XP YP l.row.toRowW d [] (λf vs=>whM f vs):=by
 refine VR.Ak hn r λw z j mg Q fa o pm R B a vs ns G Y S hd D y m i c E=>?_;have A:=J w _ Y;obtain⟨fd,L,M⟩:=F w mg fa _ A G.T.g y;exact Hr A G.T.g G.T.b G.T.builtins G.T.nolimit E m i (waj c p) I M L (λH N O=>t w H a ns c N O) λH e s'=>C w H j e s'
noncomputable def inClass(s:Stmt)(j:Nat):Stmt:=match s with
 |.ClassDef _ _ _ body _ _ _ _ _ _ _=>body.getD j (.Pass ⟨0,0,0,0⟩)
 |_=>.Pass ⟨0,0,0,0⟩
noncomputable def dJ(s:Stmt):Arguments:=match s with
 |.FunctionDef _ a _ _ _ _ _ _ _ _=>a
 |_=>{posonlyargs:=[],args:=[],vararg:=none,kwonlyargs:=[],kw_defaults:=[],kwarg:=none,defaults:=[]}
noncomputable def cf(s:Stmt):List Stmt:=match s with
 |.FunctionDef _ _ b _ _ _ _ _ _ _=>b
 |_=>[]
noncomputable def aI(s:Stmt):wd6:=match s with
 |.FunctionDef _ _ _ _ _ _ sc _ _ _=>sc
 |_=>{kind:=.function,names:=[],isGenerator:=false,isCoroutine:=false}
noncomputable abbrev d8:Gz:=λ_ _ _ _ _ _=>False
abbrev E0:XK:=λ_ _ _=>False
theorem bI{X:Cx}:Passes d8 X E0:=λ_ _ _ _ _ _ _ h=>h.elim
structure Al(K:wa2)(x qual:Str)(st:Stmt)(f:Addr)(fd:wad):Prop where
 ex:∃(oc:Value) (od:Option Addr) (kV doc pm:Value) (an:Option Addr) (hX ct:Value) (Hs:Array (Option Value)),
  fd=wcp x qual (dJ st) (cf st) (aI st) .none kV doc pm an hX ct/\K.lookup f=some ⟨oc,od,.func fd,Hs⟩/\we0 K hX qual=true
 kp:wcT K (.ref f)=true
section
variable{P:wau}{w:World}{K:wa2}{mg:Str->Option Value}{base:Heap}
theorem Al.ok{x g:Str}{st:Stmt}{f:Addr}{fd:wad}{N ps:List Str}{k:Nat}{sp:Sp}(F:Al K x g st f fd)(S:u9 N ps (aI st))(len:∀vs H Q E,sp vs H Q E->vs.length=ps.length)
 (l:∀(j:Value) (A:Around) (outer:List Env) (s:Shared) (H:Hp) (vs:List V) (Q:VK) (E:XK),eM k (A.deeper (envOfC g (aI st) s.heap.objs.size f j))->sp vs H Q E ->
   ∃t,wI (uz d8 P w K mg base N g (aI st) f j A outer s H E).M9 (cf st) t/\t {nx:=λ_ p=>Q .non p,rt:=Q} (start N vs) H):aS P w K mg base d8 (k+1) f fd ps sp:=by
 obtain⟨i,m,kV,c,pm,n,j,ct,d,rfl,lk,a⟩:=F.ex;refine Mg lk a S len λA outer s H vs Q E e b=>?_;obtain⟨t,h,q⟩:=l j A outer s H vs Q E e b;exact⟨t,h.M9,q⟩
theorem Al.binds{x g:Str}{st:Stmt}{f:Addr}{fd:wad}{ps:List Str}(F:Al K x g st f fd)
 (h:∀(kV j pm:Value) (p:Option Addr) (l ct:Value) (us:List Value),us.length=ps.length->bindArgs (wcp x g (dJ st) (cf st) (aI st) .none kV j pm p l ct) ⟨us,[]⟩=pure (ps.zip us)):Binds K fd ps []:=by
 obtain⟨c,d,kV,j,pm,p,l,ct,a,rfl,lk,b⟩:=F.ex;exact .all (h kV j pm p l ct)
theorem Ht{x g:Str}{st:Stmt}{f:Addr}{C:Value}{I t:Option Addr}{r:Array (Option Value)}{kV p pm j ct:Value}(l:K.lookup f=some ⟨C,I,.func (wcp x g (dJ st) (cf st) (aI st) .none kV p pm t j ct),r⟩)
 (c:we0 K j g=true) (k:wcT K (.ref f)=true):Al K x g st f (wcp x g (dJ st) (cf st) (aI st) .none kV p pm t j ct):=⟨⟨C,I,kV,p,pm,t,j,ct,r,rfl,l,c⟩,k⟩
end
theorem fb(g:eM k A):A.units+1<wcI:=wbe (Nat.add_le_add_left (by decide:1<=64) _) g.units
theorem bz(h:n<=1000):n<sizeLine:=wbe h (by decide)
section
variable{X:Cx}
theorem pv(i:Nat)(j:X.N[i]?=some x:=by rfl)(l:Pu X.env.scope x:=by first |exact wdR rfl |exact Or.inr (wdR rfl) |exact Or.inr (Or.inr rfl))(hd:(x==("__debug__":Str))=false:=by decide)
 (g:(x==("__classdict__":Str))=false:=by decide):PE X (.Name x pos) (K8 i):=MY j l hd g
end
theorem cm{A B:Prop}(h:B):if false=true then A else B:=by
 grind
theorem fJ{A B:Prop}(h:A):if true=true then A else B:=by
 grind
theorem Am{c A B:Prop}[Decidable c](g:c->A)(j:¬c->B):if c then A else B:=by
 by_cases h:c
 ·rw[if_pos h];exact g h
 ·rw[if_neg h];exact j h
def a8(H H':Hp):Prop:=∀b o,H b=some o->H' b=some o
theorem a8.refl(H:Hp):a8 H H:=λ_ _ h=>h
theorem a8.trans(a:a8 H g)(b:a8 g j):a8 H j:=λc o h=>b c o (a c o h)
theorem a8.free(e:a8 H g)(h:g l=Option.none):H l=Option.none:=by
 cases q:H l with
 |none=>rfl
 |some o=>
  rw[e l o q]at h;cases h
theorem a8.seq{K:wa2}{H g:Hp}{a:Addr}{xs:List V}(e:a8 H g)(h:aM K H a xs):aM K g a xs:=by
 rcases h with(h |⟨o,h⟩) |h
 ·exact .inl (.inl (e _ _ h))
 ·exact .inl (.inr ⟨o,e _ _ h⟩)
 ·exact .inr h
section
variable{κ:Type}[DecidableEq κ]
theorem Hu{kvs:List (κ×V)}{k:κ}(h:bA kvs k=none):¬k∈kvs.map (·.1):=by
 intro m;obtain⟨p,a,e⟩:=wab.mp m;have q:(kvs.any λb=>decide (b.1=k))=true:=wch.mpr ⟨p,a,decide_eq_true e⟩;rw[iL,h]at q;exact absurd q (by simp)
theorem yZ{kvs:List (κ×V)}{k:κ}{v:V}(h:bA kvs k=some v):k∈kvs.map (·.1):=by
 have q:(kvs.any λa=>decide (a.1=k))=true:=by
  rw[iL,h]
  all_goals rfl
 obtain⟨p,b,e⟩:=wch.mp q;exact wab.mpr ⟨p,b,of_decide_eq_true e⟩
end
theorem a8.upd(h:H a=none):a8 H (upd H a o):=λb u e=>by rw[ae (af e h)];exact e
structure lY(J:It)(Ok:Hp->Prop)(xs:List V):Prop where
 go:∀i H,Ok H->i<xs.length->J.go i H
 u0:∀i H x H',Ok H->i<xs.length->J.u0 i H x H'->H'=H/\xs[i]?=some x
 stop:∀H,Ok H->J.stop xs.length H
theorem aP(K:wa2)(a:Addr)(xs:List V):lY (OX K a) (λH=>aM K H a xs) xs:=
 ⟨λi H q hi=>⟨xs,xs[i],q,by simp[hi]⟩,λi H x b q _ y=>⟨y.1,y.2 xs q⟩,λH q=>⟨xs,q,waa _⟩⟩
noncomputable def Si(n:Nat)(val:Nat->V):It:=⟨λi _=>i<n,λi H x H'=>H'=H/\x=val i,λi _=>n<=i⟩
theorem Ng{val:Nat->V}(hn:xs.length=n)(g:∀i x,xs[i]?=some x->val i=x):lY (Si n val) (λ_=>True) xs:=by
 subst hn;refine⟨λi H _ hi=>hi,λi H x a _ hi y=>⟨y.1,?_⟩,λH _=>waa _⟩;have e:xs[i]?=some xs[i]:=by simp[hi]
 rw[e,y.2,g i _ e]
theorem ot(lo:Int)(n:Nat):lY (Ma lo n) (λ_=>True) ((waH n).map λi=>V.int (lo+(i:Nat))):=by
 refine⟨λi H _ hi=>(show i<n by simpa using hi),λi H x b _ hi y=>⟨y.1,?_⟩,λH _=>?_⟩
 ·have a:i<n:=by simpa using hi
  rw[y.2];simp[a]
 ·show n<=_;simp
theorem m9{J:It}{Ok:Hp->Prop}{xs:List V}{g:TG}{I:TS}{D:Ends}{σ:St}{H:Hp}(t:lY J Ok xs)(Pv:Nat->St->Hp->Prop)(h0:Pv 0 σ H)(U:∀i σ H,i<=xs.length->Pv i σ H->Ok H)
 (hs:∀i x σ H,xs[i]?=some x->Pv i σ H->g x σ H λl C=>I {D with nx:=Pv (i+1),ct:=Pv (i+1),bk:=D.nx} l C) (hd:∀σ H,Pv xs.length σ H->D.nx σ H) :
 ∃W:Nat->Nat->St->Hp->Prop,(∃m,W 0 m σ H)/\∀i m σ H,W i m σ H ->
  (J.stop i H/\D.nx σ H)\/(J.go i H/\∃N:St->Hp->Prop,(∀r j,N r j->∃T,T<m/\W (i+1) T r j)/\∀x j,J.u0 i H x j->g x σ j λl C=>I {D with nx:=N,ct:=N,bk:=D.nx} l C):=by
 refine⟨λi m σ H=>m=xs.length-i/\i<=xs.length/\Pv i σ H,⟨xs.length,by simp,waB _,h0⟩,?_⟩;rintro i m σ H ⟨rfl,hi,p⟩;have q:=U i σ H hi p
 by_cases a:i<xs.length
 ·refine .inr ⟨t.go i H q a,Pv (i+1),λr j b=>⟨xs.length-(i+1),by omega,rfl,a,b⟩,λx j y=>?_⟩;obtain⟨e,c⟩:=t.u0 i H x j q a y;subst e;exact hs i x σ _ c p
 ·have e:i=xs.length:=by omega
  subst e;exact .inl ⟨t.stop H q,hd σ H p⟩
abbrev Mj(nm:String):Prop:=["enumerate","zip","dict_itemiterator","dict_reverseitemiterator","odict_iterator","itertools.zip_longest","itertools.pairwise"].contains nm=false
theorem Cm{P:wau}{w:World}{K:wa2}{U:Expr}{it:Addr}{n:Nat}{Pv:Nat->Value->Prop}{St:Nat->Heap->Prop}{val:Nat->V}
 (T:∀A:Around,A.handled=none->Walks P w A it [it] [it] n Pv St)
 (g:∀i h,St i h->∃(o:Obj) (nm:String) (vs:Array Value),h.get? it=some o/\o.cls=.type nm/\o.data=.fields vs/\Mj nm)
 (j:∀i h h',St i h->(∀o,h.get? it=some o->h'.get? it=some o)->St i h')
 (l:∀(A:Around) (i:Nat) (s:Shared) (Q:Value->Shared->Prop) (E:Value->Shared->Prop),St i s.heap->Q (.ref it) s->wpAny (model P w) A (pyIter (.ref it)) Q E s)
 (p:∀i u,Pv i u->RelV (val i) u):Turn P w K U (Si n val) [it] it (λi h=>St i h/\i<=n) where
 mem:=by simp
 obj:=λi h st b f=>by
  have e:b=it:=by simpa using f
  subst e;obtain⟨o,nm,vs,e,c,d,_⟩:=g i h st.1;exact⟨o,e,λv z=>by rw[d]at z;cases z⟩
 keep:=λi h h' st k=>⟨j i h h' st.1 λo e=>k it (by simp) o e,st.2⟩
 item:=by
  intro X t hw x hc i a s σ H E I q st r;subst t hw x;obtain⟨y,f1,f2,B,C,D⟩:=q it (by simp);refine(T X.A (I.ok.hd hc)).item i s _ _ r st.1 λv h' G L m J=>?_;have M:Inv X a σ H {s with heap:=h',toks:=G}:=I.turned (λb o f e=>J b o (by simpa using f) e) y f1 B C D;obtain⟨o,nm,vs,e,c,d,hn⟩:=g _ _ m;exact⟨_,rfl,xJ (s:={s with heap:=h',toks:=G}) e c d hn ⟨val i,H,M,p i v L,⟨rfl,rfl⟩,⟨m,r⟩,λb f=>(q b f).1⟩⟩
 done:=by
   intro X t hw x hc i a s σ H E I q st r;subst t hw x;obtain⟨y,f1,f2,B,C,D⟩:=q it (by simp)
   have e:i=n:=by
    have N:=st.2;have O:n<=i:=r;omega
   subst e;exact(T X.A (I.ok.hd hc)).done s _ _ st.1 λh' G J=>⟨rfl,I.turned (λb o f e=>J b o (by simpa using f) e) y f1 B C D⟩
 self:=λA i s Q E st h=>l A i s Q E st.1 h
noncomputable def si(z:Str)(i:Nat):V:=.str ⟨#[z.cps.getD i 0]⟩
noncomputable def eY(z:Str):List V:=z.cps.toList.map λc=>V.str ⟨#[c]⟩
theorem p9(z:Str):lY (Si z.cps.size (si z)) (λ_=>True) (eY z):=by simp_all [Ng,eY,wa4,wag,wcj,si,wcD]
def TB(tl:TE):TI:=λσ H R=>tl σ H λx H1=>∃z,x=.str z/\R (Si z.cps.size (si z)) H1
section
variable{X:Cx}{tg:Expr}
theorem z4{l:Expr}{C:TE}(hl:PE X l C):PI X tg l (TB C):=by
 intro f s σ H R I h;refine bO (hl f s σ H _ I h) λv a ⟨x,B,n,D,G⟩=>?_;obtain⟨z,e,q⟩:=G;subst e;obtain⟨t,rfl⟩:=D
 have fin:∀(j:String) (o:Obj),(∀m:Around,m.handled=none->Walks X.prog X.w m a.heap.objs.size [a.heap.objs.size] [a.heap.objs.size] z.cps.size (SignAt z) (λi h=>h.IsStrIter a.heap.objs.size j z t i)) ->
  (∀(A:Around) (i:Nat) (s:Shared) (Q:Value->Shared->Prop) (E:Value->Shared->Prop),s.heap.IsStrIter a.heap.objs.size j z t i->Q (.ref a.heap.objs.size) s->wpAny (model X.prog X.w) A (pyIter (.ref a.heap.objs.size)) Q E s) ->
  Mj j->(a.heap.push o).IsStrIter a.heap.objs.size j z t 0->OW X f σ tg R (.ref a.heap.objs.size) {a with heap:=a.heap.push o}:=by
  intro j o J g p r
  refine⟨a.heap.objs.size,[a.heap.objs.size],_,_,B,rfl,n.kept (t':=a.toks) λb o e=>wa8 _ e,
   Cm (val:=si z) J (λi h st=>?_) (λi h O st k=>?_) g (λi u L=>?_),⟨r,waB _⟩,λb M=>?_,q⟩
  ·obtain⟨o,e,c,d⟩:=st;exact⟨o,j,_,e,c,d,p⟩
  ·obtain⟨o,e,c,d⟩:=st;exact⟨o,k o e,c,d⟩
  ·obtain⟨c,N,hc,e⟩:=L;refine⟨N,?_⟩;rw[e,wcD,hc];rfl
  ·have e:b=a.heap.objs.size:=by simpa using M
   subst e;exact n.wK (waa _) (n.b4.fresh (waa _))
 cases ha:z.cps.all (· < 128)
 ·exact wpAny_pyIter_wide ha (fin "str_iterator" _ (λm y=>Walks.strWide y _ z t) (λA i s Q E st h=>wpAny_pyIter_striter_wide st h) (by decide) ⟨_,waq _ rfl,rfl,rfl⟩)
 ·exact wpAny_pyIter_ascii ha (fin "str_ascii_iterator" _ (λm y=>Walks.strAscii y _ z t) (λA i s Q E st h=>wpAny_pyIter_striter_ascii st h) (by decide) ⟨_,waq _ rfl,rfl,rfl⟩)
end
def Nh(scope:wd6)(env:Env):Prop:=∀y∈scope.names,y.2=.free->env.kindOf y.1=some .cell\/env.kindOf y.1=some .free
theorem ou:∀{names:List (Str×wee)} (g:List (Str×Addr)),(∀y∈names,y.2=.free->∃c,env.cells.lookup y.1=some c)->(∀y c,g.lookup y=some c->env.cells.lookup y=some c) ->
 ∃cl:List (Str×Addr),(forIn names g (λ(x:Str×wee) p=>(match x with |(name,kind)=>if kind == .free then do let c <-cellOf env name;pure (wdd ((name,c)::p)) else pure (wdd p):Sem (ForInStep (List (Str×Addr))))))=pure cl /\
  (∀y c,cl.lookup y=some c->env.cells.lookup y=some c)/\(∀y c,g.lookup y=some c->∃j,cl.lookup y=some j)/\∀y∈names,y.2=.free->∃c,cl.lookup y.1=some c
 |[],g,_,ha=>⟨g,rfl,ha,λy c e=>⟨c,e⟩,λ_ h=>nomatch h⟩
 |(n,k)::r,g,f,ha=>by
  rw[List.forIn_cons]
  by_cases hk:k=.free
  ·obtain⟨c,hc⟩:=f (n,k) waf hk;have i:(k==wcL)=true:=by rw[hk];rfl
   obtain⟨cl,l,m,d,o⟩:=ou (env:=env) (names:=r) ((n,c)::g) (λy a=>f y (wac _ a)) (λy j e=>by
    rw[wdu]at e
    cases q:y==n with
    |true=>
     rw[q]at e;have:c=j:=wag e;subst this;have:y=n:=eq_of_beq q;subst this;exact hc
    |false=>
     rw[q]at e
     exact ha y j e)
   refine⟨cl,?_,m,λy j e=>?_,λy a b=>?_⟩
   ·rw[<-l];simp only[i,if_true];have s:cellOf env n=pure c:=by unfold cellOf;rw[hc]
    rw[s];rfl
   ·by_cases q:y=n
    ·subst q;exact d y c (by simp[wdu])
    ·refine d y j ?_;have:(y==n)=false:=beq_eq_false_iff_ne.mpr q;rw[wdu,this];exact e
   ·rcases waC.mp a with rfl |a
    ·exact d n c (by simp[wdu])
    ·exact o y a b
  ·have i:(k==wcL)=false:=by simpa using hk
   obtain⟨cl,l,m,d,o⟩:=ou (env:=env) (names:=r) g (λy a=>f y (wac _ a)) ha;refine⟨cl,?_,m,d,λy a b=>?_⟩
   ·rw[<-l];simp only[i,wbW,if_false];rfl
   ·rcases waC.mp a with rfl |a
    ·exact absurd b hk
    ·exact o y a b
theorem nM(g:∀y∈scope.names,y.2=.free->∃c,env.cells.lookup y.1=some c) :
 ∃cl,closureFor scope env=pure cl/\(∀y c,cl.lookup y=some c->env.cells.lookup y=some c)/\∀y∈scope.names,y.2=.free->∃c,cl.lookup y.1=some c:=by
 obtain⟨cl,b,d,_,f⟩:=ou (env:=env) (names:=scope.names) [] g (λy c e=>by simp at e);refine⟨cl,?_,d,f⟩;simp only[closureFor]
 first
  |(rw[b];rfl)
  |(have a:=b;simp only at a ⊢;rw[a];rfl)
  |(refine wdL (congrArg (λm=>m >>= λh=>pure h) ?_) ?_;exact pure cl;exact b;rfl)
theorem z5(g:∀y∈scope.names,y.2≠.cell)(h:(relabel scope env).names.lookup x=some .cell\/(relabel scope env).names.lookup x=some .free):∃k,(x,k)∈scope.names/\k=wcL:=by
 unfold relabel at h;dsimp only at h
 have key:∀(names:List (Str×wee)),(∀y∈names,y.2≠.cell) ->
  ((names.map λ(n,k)=>if (k==wcL&&env.scope.kind == .function&&env.kindOf n==some .cell) then(n,wf3) else(n,k)).lookup x=some .cell \/
   (names.map λ(n,k)=>if (k==wcL&&env.scope.kind == .function&&env.kindOf n==some .cell) then(n,wf3) else(n,k)).lookup x=some .free)->∃k,(x,k)∈names/\k=wcL:=by
  intro names
  induction names with
  |nil=>grind
  |cons y r a=>
   grind
 exact key scope.names g h
noncomputable def bD(X:Cx)(scope:wd6)(N:List Str)(cl:List (Str×Addr))(L:Addr)(s:Shared)(H:Hp)(ex:List Addr)(pn:List (Addr×Obj)):Cx where
 prog:=X.prog
 w:=X.w
 K:=X.K
 mg:=X.mg
 base:=X.base
 A:=X.A
 N:=N
 s₀:=s
 H₀:=H
 env:=compEnvC scope cl L X.env
 outer:=X.stack
 stack:=X.stack
 ex:=ex
 fn:=λ_=>false
 calm:=X.calm
 pn:=pn
 xe:=λ_ _=>False
def JX(X:Cx)(ifs:List Expr)(t:TT):Prop:=
 ∀(pins:List (Addr×Obj)) (s:Shared) (σ:St) (H:Hp) (Q:Bool->Hp->Prop),Inv X pins σ H s->t σ H Q ->
  wpAny (model X.prog X.w) X.A (forIn ifs true λc r=>if r=true then do let ok <-isTrue c X.env (eval c X.env);pure (wdd ok) else pure (wdd r)) (TP X pins σ Q) X.xe s
def wO:TT:=λ_ H Q=>Q true H
theorem bq{X:Cx}:JX X [] wO:=λ_ _ _ H _ I h=>wpAny_tests_nil ⟨H,I,h⟩
theorem gN{X:Cx}(h:PT X c t):JX X [c] t:=λa s σ H Q I hw=>wpAny_tests_one (h a s σ H Q I hw)
section
variable{prog:wau}{w:World}{A:Around}{E:Value->Shared->Prop}{R:wd8->Shared->Prop}{s:Shared}
theorem F8(I:Nat->Shared->Prop)
 (J:∀n s,I n s->wpAny (model prog w) A (pyNext it) (λr g=>match r with
   |none=>R (.ok .next) g
   |some v=>wpAny (model prog w) A (weq target it v) (λ_ j=>wpAny (model prog w) A (assign target env v) (λ_ p=>
     wpAny (model prog w) A (forIn T true λc r=>if r=true then do let ok <-isTrue c env (eval c env);pure (wdd ok) else pure (wdd r)) (λok l=>
      if ok=true then wpAny (model prog w) A (eval U env) (λx t=>
       wpAny (model prog w) A (call (.builtin "list.append") [acc,x]) (λ_ C=>∃m,m<n/\I m C) (notedBy (model prog w) A env λe s'=>R (.error e) s') t) (notedBy (model prog w) A env λe s'=>R (.error e) s') l
      else ∃m,m<n/\I m l) (notedBy (model prog w) A env λe s'=>R (.error e) s') p) (notedBy (model prog w) A env λe s'=>R (.error e) s') j) (notedBy (model prog w) A env λe s'=>R (.error e) s') g) (notedBy (model prog w) A env λe s'=>R (.error e) s') s)
 (n:Nat) (h:I n s) :
 codeAny (model prog w) A (.compLoop (.ListComp U [⟨target,iter,T,0⟩] scope pos) 0 it acc env) R s:=by
 refine codeAny_loop rfl I (λn s q=>?_) n h;show wpAny _ A ((compTurn (.ListComp U [⟨target,iter,T,0⟩] scope pos) 0 it acc env).onRaise (λx=>do noteFrame x env;theTreesLotGoes x)) _ _ s;refine wpAny_noted ?_;rw[compTurn_list];refine wa7 (wdz (wa7 (wb8 (J n s q) (λr g b=>?_) λ_ _ a=>a)))
 cases r with
 |none=>exact wax b
 |some v=>
  refine wa7 (wb8 b (λ_ j f=>?_) λ_ _ a=>a);refine wa7 (wb8 f (λ_ p i=>wa7 (wb8 i (λok l d=>?_) λ_ _ a=>a)) λ_ _ a=>a)
  cases ok with
  |false=>exact wax ⟨rfl,d⟩
  |true=>
   exact wa7 (wa7 (wb8 d (λx t k=>wa7 (wb8 k (λ_ C o=>wax (wax ⟨rfl,o⟩)) λ_ _ a=>a)) λ_ _ a=>a))
end
def nN(J:It)(l:Addr)(σf:St)(tt:TT)(te:TE)(H:Hp)(Q:Hp->Prop):Prop:=
 ∃W:Nat->Nat->List V->Hp->Prop,(∃m,W 0 m [] (upd H l (.lst [])))/\∀i m ys H2,W i m ys H2->H2 l=some (.lst ys) /\
  ((J.stop i H2/\Q H2)\/(J.go i H2/\ys.length<sizeLine/\∀x H3,J.u0 i H2 x H3->tt (some x::σf) H3 λb H4=>
    if b=true then te (some x::σf) H4 λy H5=>H5 l=some (.lst ys)/\∃m',m'<m/\W (i+1) m' (ys++[y]) (upd H5 l (.lst (ys++[y])))
    else ∃m',m'<m/\W (i+1) m' ys H4))
def xV(g:TG)(n:Nat)(J:It)(l:Addr)(σf:St)(tt:TT)(te:TE)(H:Hp)(Q:Hp->Prop):Prop:=
 ∃W:Nat->Nat->List V->Hp->Prop,(∃m,W 0 m [] (upd H l (.lst [])))/\∀i m ys H2,W i m ys H2->H2 l=some (.lst ys) /\
  ((J.stop i H2/\Q H2)\/(J.go i H2/\ys.length<sizeLine/\∀x H3 vs,vs.length=n->J.u0 i H2 x H3->g x (vs++σf) H3 λσ' H'=>(∃Qc,Qc.length=n/\σ'=Qc++σf)/\tt σ' H' λb H4=>
    if b=true then te σ' H4 λy H5=>H5 l=some (.lst ys)/\∃m',m'<m/\W (i+1) m' (ys++[y]) (upd H5 l (.lst (ys++[y])))
    else ∃m',m'<m/\W (i+1) m' ys H4))
def Qe{α:Type}:Nat->(List α->Prop)->Prop
 |0,P=>P []
 |n+1,P=>∀a,Qe n λus=>P (a::us)
theorem j5{α:Type}:∀n P,Qe n P->∀us:List α,us.length=n->P us
 |0,_,h,[],_=>h
 |n+1,_,h,a::us,e=>j5 n _ (h a) us (wh7 e)
theorem E3(h:nN J l g j r H Q):xV (dD 0) 1 J l g j r H Q:=
 let ⟨W,a,t⟩:=h
 ⟨W,a,λi m d e w=>let ⟨p,q⟩:=t i m d e w;⟨p,q.imp id λ⟨a,b,c⟩=>⟨a,b,λx f k n y=>by revert k;refine j5 1 _ ?_;exact λ_=>⟨⟨[some x],rfl,rfl⟩,c x f y⟩⟩⟩⟩
noncomputable def pick(σ:St)(ix:List Nat):St:=ix.map λi=>(σ[i]?).join
def Qf(wi:TI)(ix:List Nat)(tt:TT)(te:TE):TE:=λσ H Q=>wi σ H λJ H1=>∀l,H1 l=none->nN J l (pick σ ix) tt te H1 (λH2=>Q (.ref l) H2)
def Ni(wi:TI)(ix:List Nat)(tt:TT)(te:TE)(i:Nat):TS:=λD σ H=>wi σ H λJ H1=>∀l,H1 l=none->nN J l (pick σ ix) tt te H1 (λH2=>D.nx (σ.set i (some (.ref l))) H2)
structure bV(X:Cx)(scope:wd6)(x:Str)(ys:List Str)(ix:List Nat):Prop where
 kind:scope.kind=.function
 Hv:∀y∈scope.names,y.2≠.cell
 names:∀y∈scope.names,y.2=.local->scope.names.lookup y.1=some .local
 var:scope.names.lookup x=some .local
 free:Nh scope X.env
 nd:(x::ys).Nodup
 len:ix.length=ys.length
 slots:∀(j:Nat) (y:Str),ys[j]?=some y->∃i:Nat,ix[j]?=some i/\X.N[i]?=some y/\(X.env.scope.names.lookup y=some .cell\/X.env.scope.names.lookup y=some .free)/\scope.names.lookup y=some .free
theorem uE(h:scope.names.lookup x=some .free):(relabel scope env).names.lookup x=some .cell\/(relabel scope env).names.lookup x=some .free:=by
 unfold relabel;dsimp only
 have key:∀(names:List (Str×wee)),names.lookup x=some .free ->
  ((names.map λ(n,k)=>if (k==wcL&&env.scope.kind == .function&&env.kindOf n==some .cell) then(n,wf3) else(n,k)).lookup x=some .cell \/
   (names.map λ(n,k)=>if (k==wcL&&env.scope.kind == .function&&env.kindOf n==some .cell) then(n,wf3) else(n,k)).lookup x=some .free):=by
  intro names
  induction names with
  |nil=>grind
  |cons y r a=>
   grind
 exact key scope.names h
section
variable{X:Cx}{pins:List (Addr×Obj)}{σ:St}{H:Hp}{s₂:Shared}{scope:wd6}{x:Str}{xs ys:List Str}{ix:List Nat}{cl:List (Str×Addr)}{fp:List Addr}{L:Addr}
theorem Kq(B:bV X scope x ys ix)(I:Inv X pins σ H s₂)(j:∀b∈fp,wJ X pins H b)(l:∀b∈fp,b<s₂.heap.objs.size)(r:s₂.heap.objs.size<=L)
 (g:∀y c,cl.lookup y=some c->X.env.cells.lookup y=some c) (p:∀y∈scope.names,y.2=.free->∃c,cl.lookup y.1=some c):(bD X scope N cl L s₂ H fp (X.pn++pins)).Ok where
 mod:=I.ok.mod
 kind:=B.kind
 glob:=I.ok.glob
 blt:=I.ok.blt
 above:=r
 inj:=λa b c i m=>I.ok.inj a b c (g a c i) (g b c m)
 has:=λa ha=>by
  obtain⟨k,f,hk⟩:=z5 (env:=X.env) B.Hv (x:=a) ha;exact p (a,k) f hk
 MV:=λ_ _ h=>nomatch h
 hd:=I.ok.hd
 frames:=I.ok.frames
 OV:=.inl rfl
 S0:=λb d=>⟨war (waw (l b d) r),λy c h=>(j b d).2.2.2.2.1 y c (g y c h)⟩
 bs:=I.bs
 GJ:=waj I.ok.GJ I.sz
 C0:=λb o e d=>by
  rcases(j b d).2.2.2.1 with z |z
  ·exact I.ok.C0 b o e z
  ·exact absurd (waw (waw (wae e) I.ok.GJ) z) (wbh _)
 EL:=λb d f=>by
  rcases waC.mp (I.uo b f) with z |z
  ·exact(j b d).2.1 z
  ·exact(j b d).2.2.1 z
 oZ:=I.stack
 K7:=I.tY
theorem Hw{m₁:Str->Option Value}(B:bV X scope x ys ix)(I:Inv X pins σ H s₂)(hf:∀b∈fp,wJ X pins H b)(J:∀b∈fp,b<s₂.heap.objs.size)(T:s₂.heap.objs.size<=L)
 (g:∀y c,cl.lookup y=some c->X.env.cells.lookup y=some c) (C:∀y∈scope.names,y.2=.free->∃c,cl.lookup y.1=some c)
 (kp:∀b o,s₂.heap.get? b=some o->t.get? b=some o) (U:t.Ns L m₁) (hl:l=s₂.heap.objs.size) (TC:l≠L) (ho:t.get? l=some {cls:=.type "list",data:=.seq ([]:List Value).toArray n₀}) :
 Inv (bD X scope (xs++ys) cl L s₂ H fp (X.pn++pins)) [] (wam xs.length none++pick σ ix) (upd H l (.lst [])) {s₂ with heap:=t,toks:=tk}:=by
 subst hl;have Q:=I.b4.fresh (waa s₂.heap.objs.size);refine⟨Kq B I hf J T g C,rfl,I.bare,Un.laid kp (waa _) Q,⟨m₁,U,λi y v D E Z=>?_⟩,λy c e=>?_,?_,λy c e=>?_,λp O=>?_,I.b4.laid kp (waa _) ⟨waB _,[],n₀,.nil,ho⟩,?_⟩
 ·obtain⟨j,rfl⟩:∃j,i=xs.length+j:=by
   by_cases z:i<xs.length
   ·rw[waF (by simpa using z)]at E;simp[z]at E
   ·exact⟨i-xs.length,by omega⟩
  have G:ys[j]?=some y:=by
   have D:(xs++ys)[xs.length+j]?=some y:=D;rwa[waD (Nat.le_add_right _ _),wcw]at D
  obtain⟨i,hi,R,hk,a⟩:=B.slots j y G
  have f:(σ[i]?).join=some v:=by
   have:(pick σ ix)[j]?=some (some v):=by rwa[waD (by simp),waP,wcw]at E
   unfold pick at this;rw[wa4,hi]at this;exact wag this
  have s:σ[i]?=some (some v):=by
   cases q:σ[i]? with
   |none=>rw[q]at f;cases f
   |some z=>rw[q]at f;rw[show z=some v from f]
  obtain⟨m,hn,M⟩:=I.loc;have N:Pu X.env.scope y:=.inr (hk.imp id id);obtain⟨u,r,l⟩:=M i y v R s N;refine⟨u,r,.inr ⟨uE a,?_⟩⟩;rcases l with⟨k,_⟩ |⟨_,c,hc,h⟩
  ·have A:X.env.scope.names.lookup y=some .local:=k;rcases hk with z |z
   ·rw[z]at A;cases A
   ·rw[z]at A;cases A
  ·obtain⟨S,w⟩:=C (y,.free) (wcy a) rfl;have:=g y S w;rw[hc]at this;cases this;obtain⟨o,q,d⟩:=h;exact⟨c,w,o,kp c o q,d⟩
 ·obtain⟨v,o,q,d⟩:=I.cell y c (g y c e);exact⟨v,o,kp c o q,d⟩
 ·show upd H s₂.heap.objs.size (.lst []) L=none;rw[ae (wb9 TC)];exact I.b4.fresh T
 ·obtain⟨v,o,q,d⟩:=I.cell y c (g y c e);rw[ae (war (wae q))];exact I.ju y c (g y c e)
 ·rw[waY]at O;obtain⟨q,n,ne,V,d⟩:=I.pin p O;have lt:=wae q;refine⟨kp _ _ q,by rw[ae (war lt)];exact n,war (waw lt T),λY=>?_,d⟩;rcases waC.mp (I.uo p.1 Y) with z |z
  ·exact ne z
  ·exact V z
 ·simp[pick,B.len,bD]
theorem xW{tn:Nat->Heap->Prop}{Qd:Addr->Hp->Prop}{RR:Value->Addr->wd8->Shared->Prop}{E:Value->Shared->Prop}
 (hc:X.calm=true) (B:bV X scope x ys ix) (I:Inv X pins σ H s₂) (T:Turn X.prog X.w X.K tg J fp it tn) (VS:tn 0 s₂.heap) (U:∀b∈fp,wJ X pins H b)
 (A5:∀y c,cl.lookup y=some c->X.env.cells.lookup y=some c) (Yy:∀y∈scope.names,y.2=.free->∃c,cl.lookup y.1=some c)
 (ht:∀L s H ex pn,JX (bD X scope (xs++ys) cl L s H ex pn) ifs tt) (he:∀L s H ex pn,PE (bD X scope (xs++ys) cl L s H ex pn) elt te)
 (hg:∀L s H ex pn,PG (bD X scope (xs++ys) cl L s H ex pn) tg g) (hw:∀l,H l=none->xV g xs.length J l (pick σ ix) tt te H (Qd l))
 (Yz:∀D L H' s' m,Inv X pins σ H' s'->s'.heap.Ns L m->H' L=none->L≠X.env.locals->X.s₀.heap.objs.size<=L->(∀y c,X.env.cells.lookup y=some c->c≠L)->(∀p∈X.pn++pins,p.1≠L)->Qd D H'->RR (.ref D) L (.ok .next) s') :
 wpAny (model X.prog X.w) X.A (newList []) (λacc t=>wpAny (model X.prog X.w) X.A (newFunctionEnv scope X.env.globals cl [] X.env.qual none .none (some X.env)) (λQg s₄=>
  codeAny (model X.prog X.w) X.A (.compStart (.ListComp elt [⟨tg,iter,ifs,0⟩] scope pos) 0 (.ref it) acc {Qg with scope:=relabel scope X.env}) (RR acc Qg.locals) s₄) E t) E s₂:=by
 refine wfb (wpAny_newFunctionEnv B.Hv (by intro y hy;simp at hy) (λk j a=>?_) B.kind);dsimp only at j a ⊢;generalize O:s₂.heap.push {cls:=.type "list",dict:=none,data:=.seq ([]:List Value).toArray}=C at j a ⊢;have hC:C.objs.size=s₂.heap.objs.size+1:=by rw[<-O,wbL]
 have VU:s₂.heap.objs.size≠C.objs.size:=by rw[hC];exact war (wbI _)
 have f:s₂.heap.objs.size<=C.objs.size:=by rw[hC];exact wc1 _
 have old:∀b o,s₂.heap.get? b=some o->k.get? b=some o:=λb o e=>a.extBut b o (war (waw (wae e) f)) (wa8 _ (O ▸ wa8 _ e));have TF:k.get? s₂.heap.objs.size=some {cls:=.type "list",data:=.seq ([]:List Value).toArray}:=a.extBut _ _ VU (wa8 _ (O ▸ waq _ rfl));have Q:∀b∈fp,b<s₂.heap.objs.size:=λb h=>let ⟨o,e,_⟩:=T.obj 0 _ VS b h;wae e
 have YB:∀b∈fp,∀o,s₂.heap.get? b=some o->k.get? b=some o:=λb _ o e=>old b o e;have VW:tn 0 k:=T.keep 0 _ _ VS YB;obtain⟨W,⟨m0,w0⟩,turn⟩:=hw s₂.heap.objs.size (I.b4.fresh (waa _))
 have N:∀t:Shared,t={s₂ with heap:=k,toks:=s₂.toks+([]:List (Str×Value)).length} ->
  codeAny (model X.prog X.w) X.A (.compLoop (.ListComp elt [⟨tg,iter,ifs,0⟩] scope pos) 0 (.ref it) (.ref s₂.heap.objs.size) (compEnvC scope cl C.objs.size X.env))
   (RR (.ref s₂.heap.objs.size) C.objs.size) t:=by
  rintro t rfl;have I0:=Hw (xs:=xs) (tk:=s₂.toks+([]:List (Str×Value)).length) (n₀:=0) (m₁:=_) (L:=C.objs.size) B I U Q f A5 Yy old j rfl VU TF
  refine F8 (env:=compEnvC scope cl C.objs.size X.env)
   (λn s'=>∃i G vs H',vs.length=xs.length/\Inv (bD X scope (xs++ys) cl C.objs.size s₂ H fp (X.pn++pins)) [] (vs++pick σ ix) H' s'/\tn i s'.heap/\(∀b∈fp,H' b=none)/\W i n G H') ?_ m0
   ⟨0,[],_,_,waP,I0,VW,λb h=>by rw[ae (war (Q b h))];exact(U b h).1,w0⟩
  rintro n s3 ⟨i,G,vs,H3,hv,I3,VX,VY,w3⟩;obtain⟨Kr,alt⟩:=turn i n G H3 w3
  have M:∀{H':Hp},(∀b∈fp,H' b=none)->∀b∈fp,wJ (bD X scope (xs++ys) cl C.objs.size s₂ H fp (X.pn++pins)) [] H' b:=λhn b h=>
   ⟨hn b h,war (waw (Q b h) f),λhm=>by
     rcases waC.mp (I.uo b hm) with z |z
     ·exact(U b h).2.1 z
     ·exact(U b h).2.2.1 z,.inl h,λy c e=>(U b h).2.2.2.2.1 y c (A5 y c e),λp hp=>(U b h).2.2.2.2.2 p (by simpa [bD] using hp)⟩
  rcases alt with⟨stop,qd⟩ |⟨go,hsz,step⟩
  ·refine bO (T.done (bD X scope (xs++ys) cl C.objs.size s₂ H fp (X.pn++pins)) rfl rfl rfl hc i [] s3 _ H3 _ I3 (M VY) VX stop) λr s4 ⟨hr,Y⟩=>?_;subst hr;obtain⟨m,hn,_⟩:=Y.loc;refine Yz s₂.heap.objs.size C.objs.size H3 s4 m ?_ hn Y.free (wbU (waw I.lt f)) (waj I.sz f) (λy c e=>?_) (λp hp=>?_) qd
   ·exact I.xI Y.os Y.base Y.b4 Y.bare λb h=>⟨(U b h).2.2.2.1,(U b h).2.1,(U b h).2.2.2.2.1,(U b h).2.2.2.2.2⟩
   ·obtain⟨v,o,q,d⟩:=I.cell y c e;exact war (waw (wae q) f)
   ·exact war (waw (wae (I.pin p hp).1) f)
  ·refine bO (T.item (bD X scope (xs++ys) cl C.objs.size s₂ H fp (X.pn++pins)) rfl rfl rfl hc i [] s3 _ H3 _ I3 (M VY) VX go) λr s4 ⟨u,hr,h4⟩=>?_;subst hr;refine bO h4 λ_ s5 ⟨xv,H5,I5,r5,y5,R,YC⟩=>?_;have YD:=I5.pinned (M YC) (T.obj _ _ R);refine wb8 (hg _ _ _ _ _ _ s5 _ H5 xv u _ YD r5 (step xv _ vs hv y5)) (λ_ s6 ⟨σ6,H6,I6,⟨Qc,VZ,e6⟩,q6⟩=>?_) λ_ _ z=>wb1 z;subst e6;refine wb8 (ht _ _ _ _ _ _ s6 _ _ _ I6 q6) (λb s7 ⟨H7,I7,q7⟩=>?_) λ_ _ z=>wb1 z
   have again:∀{S:St} {V:Hp} {Z:Shared},Inv (bD X scope (xs++ys) cl C.objs.size s₂ H fp (X.pn++pins)) ([]++uv fp s5.heap) S V Z ->
    Inv (bD X scope (xs++ys) cl C.objs.size s₂ H fp (X.pn++pins)) [] S V Z/\tn (i+1) Z.heap/\∀b∈fp,V b=none:=λ{S V Z} I8=>by
    refine⟨I8.p5,T.keep _ _ _ R λb h o e=>(I8.pin (b,o) (waJ _ (waJ _ (k6 h e)))).1,λb h=>?_⟩;obtain⟨o,e,d⟩:=T.obj _ _ R b h;exact(I8.pin (b,o) (waJ _ (waJ _ (k6 h e)))).2.1
   cases b with
   |false=>
    rw[if_neg wap]at q7 ⊢;obtain⟨m',hm,w7⟩:=q7;obtain⟨a1,a2,a3⟩:=again I7;exact⟨m',hm,i+1,G,Qc,H7,VZ,a1,a2,a3,w7⟩
   |true=>
    rw[if_pos rfl]at q7 ⊢;refine wb8 (he _ _ _ _ _ _ s7 _ _ _ I7 q7) (λuy Z ⟨y,V,I8,r8,Sj,m',hm,w8⟩=>?_) λ_ _ z=>wb1 z
    refine wb8 (cV (X:=bD X scope (xs++ys) cl C.objs.size s₂ H fp (X.pn++pins)) _ Z _ V (.ref s₂.heap.objs.size) [y] (.ref s₂.heap.objs.size) [uy] (λ_ H9=>H9=upd V s₂.heap.objs.size (.lst (G++[y]))) I8 rfl (.cons r8 .nil) ⟨_,G,y,rfl,rfl,Sj,hsz,rfl⟩)
     (λ_ s9 ⟨v9,H9,I9,_,e9⟩=>?_) λ_ _ z=>wb1 z
    subst e9;obtain⟨a1,a2,a3⟩:=again I9;exact⟨m',hm,i+1,G++[y],Qc,_,VZ,a1,a2,a3,w8⟩
 exact codeAny_compStart_list (N _ rfl) (T.self X.A 0 _ _ _ VW (N _ rfl))
theorem uF{C:It->Addr->St->Hp->(Hp->Prop)->Prop}(hc:X.calm=true)(B:bV X scope x ys ix)(hg:∀cl L s H ex pn,PG (bD X scope (xs++ys) cl L s H ex pn) U g)(hC:∀J l j H Q,C J l j H Q->xV g xs.length J l j tt te H Q)(hi:PI X U iter wi)
 (ht:∀cl L s H ex pn,JX (bD X scope (xs++ys) cl L s H ex pn) p tt) (he:∀cl L s H ex pn,PE (bD X scope (xs++ys) cl L s H ex pn) r te)
 (hs:∀v,wc4 iter X.env v=pure v:=by intro _;rfl):PE X (.ListComp r [⟨U,iter,p,0⟩] scope pos) (λσ H Q=>wi σ H λJ H1=>∀l,H1 l=none->C J l (pick σ ix) H1 (λH2=>Q (.ref l) H2)):=by
 intro pins s σ H Q I h;obtain⟨cl,a,d,f⟩:=nM (scope:=scope) (env:=X.env) (λy G i=>I.ok.has y.1 (B.free y G i));rw[eval_ListComp];refine wfu (use:=none) rfl hs a B.kind B.names (bO (hi pins s σ H _ I h) λZ s1 k=>bO k λM s2 n=>?_);obtain⟨it,fp,tn,J,H2,e,N,T,t,f2,hw⟩:=n;subst e;refine xW (RR:=λu C=>compPost (model X.prog X.w) X.A X.xe none (EP X pins σ Q) u C) (Qd:=λl z=>Q (.ref l) z) hc B N T t f2 d f (ht cl) (he cl) (hg cl) (λl h=>hC _ _ _ _ _ (hw l h)) ?_;intro D L z O m R hn c k n S V q;exact⟨m,hn,λh' E=>⟨.ref D,z,R.turned (it:=L) (t':=O.toks) (λb o Y e=>(E.2 b Y).trans e) c k (.inr n) S V,rfl,q⟩⟩
theorem E4(B:bV X scope x ys ix)(cl L s H ex pn):PG (bD X scope ([x]++ys) cl L s H ex pn) (.Name x g) (dD 0):=
 have a:(relabel scope X.env).names.lookup x=some .local:=wcr B.var
 jZ B.nd rfl (.inl a) (.inr a)
theorem cD(hc:X.calm=true)(B:bV X scope x ys ix)(hi:PI X (.Name x t) iter I)
 (T:∀cl L s H ex pn,JX (bD X scope (x::ys) cl L s H ex pn) g p) (U:∀cl L s H ex pn,PE (bD X scope (x::ys) cl L s H ex pn) j r)
 (hs:∀v,wc4 iter X.env v=pure v:=by intro _;rfl):PE X (.ListComp j [⟨.Name x t,iter,g,0⟩] scope pos) (Qf I ix p r):=
 uF (C:=λJ l a H Q=>nN J l a p r H Q) (xs:=[x]) hc B (E4 B) (λ_ _ _ _ _=>E3) hi T U hs
end
section
variable{X:Cx}{scope:wd6}{x:Str}{xs ys:List Str}{ix:List Nat}
theorem sj{C:It->Addr->St->Hp->(Hp->Prop)->Prop}(hc:X.calm=true)(B:bV X scope x ys ix)(hN:X.N.Nodup)(hy:X.N[i]?=some y)(r:X.env.scope.names.lookup y=some .local)(hg:∀cl L s H ex pn,PG (bD X scope (xs++ys) cl L s H ex pn) tg g)(hC:∀J l t H Q,C J l t H Q->xV g xs.length J l t tt te H Q)(hi:PI X tg iter wi)
 (ht:∀cl L s H ex pn,JX (bD X scope (xs++ys) cl L s H ex pn) j tt) (he:∀cl L s H ex pn,PE (bD X scope (xs++ys) cl L s H ex pn) p te)
 (TH:wc6 (.ListComp p [⟨tg,iter,j,0⟩] scope pos) (some (.Name y py)) U.line X.env=pure true:=by rfl)
 (hs:∀v,wc4 iter X.env v=pure v:=by intro _;rfl):PS X (.Assign [.Name y py] (.ListComp p [⟨tg,iter,j,0⟩] scope pos) U) (λD σ H=>wi σ H λJ H1=>∀l,H1 l=none->C J l (pick σ ix) H1 (λH2=>D.nx (σ.set i (some (.ref l))) H2)):=by
 intro c s σ H D I h;obtain⟨cl,d,u,E⟩:=nM (scope:=scope) (env:=X.env) (λy hy G=>I.ok.has y.1 (B.free y hy G));rw[exec_Assign_Name_used _ _ _ _ TH];refine wa7 (wdz (wa7 ?_));show wpAny _ X.A (do let _ <-comprehension (.ListComp p [⟨tg,iter,j,0⟩] scope pos) scope X.env _ (newList []) false (eval iter X.env) (some (assign (.Name y py) X.env))) _ _ s
 refine wa7 (wb8 (wfu (use:=some (assign (.Name y py) X.env)) (Q:=λ_ k=>SP X c D .next k) rfl hs d B.kind B.names
  (bO (hi c s σ H _ I h) λxv s1 n=>bO n λTe s2 M=>?_)) (λ_ k hq=>wax (wax hq)) λ_ _ e=>e)
 obtain⟨it,fp,tn,J,H2,e,I2,T,O,f2,hw⟩:=M;subst e;refine xW (RR:=λR C=>compPost (model X.prog X.w) X.A X.xe (some (assign (.Name y py) X.env)) (λ_ k=>SP X c D .next k) R C) (Qd:=λl S=>D.nx (σ.set i (some (.ref l))) S) hc B I2 T O f2 u E (ht cl) (he cl) (hg cl) (λl h=>hC _ _ _ _ _ (hw l h)) ?_;intro D' L S k m I' hn f n M h3 h4 q;show wpAny _ X.A (assign (.Name y py) X.env (.ref D')) _ _ _;refine wpAny_assign_Name (xH I' hN hy (.inl r) (v:=.ref D') rfl (λV Y sb=>?_) (.inr r));obtain⟨a,Z,ha⟩:=sb
 have hL:L≠a:=by
  rcases ha with z |z
  ·rw[z];exact n
  ·exact(h3 y a z).symm
 refine⟨m,hn.sameBut Z hL,λh' Hx=>⟨_,S,Y.turned (it:=L) (t':=V.toks) (λb o hb e=>(Hx.2 b hb).trans e) f n (.inr M) h3 h4,q⟩⟩
theorem fj(hc:X.calm=true)(B:bV X scope x ys ix)(hN:X.N.Nodup)(hy:X.N[i]?=some y)(r:X.env.scope.names.lookup y=some .local)(hi:PI X (.Name x I) iter wi)
 (ht:∀cl L s H ex pn,JX (bD X scope (x::ys) cl L s H ex pn) g T) (he:∀cl L s H ex pn,PE (bD X scope (x::ys) cl L s H ex pn) j U)
 (t:wc6 (.ListComp j [⟨.Name x I,iter,g,0⟩] scope pos) (some (.Name y py)) p.line X.env=pure true:=by rfl)
 (hs:∀v,wc4 iter X.env v=pure v:=by intro _;rfl):PS X (.Assign [.Name y py] (.ListComp j [⟨.Name x I,iter,g,0⟩] scope pos) p) (Ni wi ix T U i):=
 sj (C:=λJ l a H Q=>nN J l a T U H Q) (xs:=[x]) hc B hN hy r (E4 B) (λ_ _ _ _ _=>E3) hi ht he t hs
end
theorem dU{Ok:Hp->Prop}{Q:Hp->Prop}(p:V->Bool)(g:V->V)(T:lY J Ok xs)(hl:H l=none)(hz:xs.length<=sizeLine)(t:∀j,a8 H j->Ok j)
 (U:∀x r C,x∈xs->a8 H r->(∀j,a8 r j->C (p x) j)->tt (some x::I) r C)
 (he:∀x r C,x∈xs->p x=true->a8 H r->(∀j,a8 r j->C (g x) j)->te (some x::I) r C)
 (hd:∀j,a8 H j->j l=some (.lst ((xs.filter p).map g))->Q j):nN J l I tt te H Q:=by
 refine⟨λi m n d=>m=xs.length-i/\i<=xs.length/\a8 H d/\d l=some (.lst n)/\n=((xs.take i).filter p).map g,⟨xs.length,by simp,waB _,a8.upd hl,a6,by simp⟩,?_⟩;rintro i m n d ⟨rfl,hi,c,h,k⟩;refine⟨h,?_⟩
 by_cases a:i<xs.length
 ·refine .inr ⟨T.go i d (t _ c) a,?_,λx r y=>?_⟩
  ·rw[k,wa0];refine wbe (wb4 _ _) ?_;rw[wak];omega
  ·obtain⟨e,s⟩:=T.u0 i d x r (t _ c) a y;subst e;have mem:x∈xs:=wa9 s;have u:xs.take (i+1)=xs.take i++[x]:=by rw[waN,s];rfl
   refine U x _ _ mem c λw f=>?_
   cases q:p x with
   |false=>
    rw[if_neg wap];refine⟨xs.length-(i+1),by omega,rfl,a,c.trans f,f _ _ h,?_⟩;rw[u,wbw,k];simp[q]
   |true=>
    rw[if_pos rfl];refine he x _ _ mem q (c.trans f) λz v=>?_;refine⟨v _ _ (f _ _ h),xs.length-(i+1),by omega,rfl,a,?_,a6,?_⟩
    ·intro b o e;rw[ae (af e hl)];exact v _ _ (f _ _ (c _ _ e))
    ·rw[u,wbw,k];simp[q]
 ·have e:i=xs.length:=by omega
  subst e;refine .inl ⟨T.stop d (t _ c),hd d c ?_⟩;rw[h,k,waI]
theorem sq:∀{us:List Value},Vals (bs.map V.bl) us->LSm.BoolsAre us bs:=by
 induction bs with
 |nil=>intro us r;rw[wdQ]at r;cases r;exact .nil
 |cons n ns a=>
  intro us r;rw[waz]at r
  cases r with
  |cons b c=>
   cases b;exact .cons n (a c)
theorem Cp:∀{us:List Value},Vals (ns.map V.str) us->StrsAre us ns:=by
 induction ns with
 |nil=>intro us r;rw[wdQ]at r;cases r;exact .nil
 |cons n ns a=>
  intro us r;rw[waz]at r
  cases r with
  |cons b c=>
   obtain⟨t,e⟩:=b;subst e;exact .cons n t (a c)
theorem xX:∀{vs:List Value} {ns:List Str},StrsAre vs ns->Vals (ns.map V.str) vs
 |_,_,.nil=>.nil
 |_,_,.cons n t h=>.cons ⟨t,rfl⟩ (xX h)
section
variable{X:Cx}
theorem An(hc:X.calm=true):eF X (.builtin "any") (λxs H Q=>∃p bs,xs=[.ref p]/\aM X.K H p (wdl V.bl bs)/\Q (.bl (bs.any id)) H):=by
 intro d s σ H xs o Q I r h;obtain⟨p,bs,rfl,j,q⟩:=h;obtain⟨u,rfl,k⟩:=vals1 r;cases k;obtain⟨a,l,pl,t⟩:=I.list j;have f:=sq l;have hl:=pl.isList;have m:=I.ok.hd hc;have c:p<s.heap.objs.size:=by obtain⟨_,e,_⟩:=hl;exact wae e
 refine call_any_walk (wcM hl ?_)
 refine⟨s.heap.objs.size,[s.heap.objs.size,p],[s.heap.objs.size],a.toArray.size,_,_,λi=>(bs[i]?).getD false,rfl,wfi (A:=X.A.in1) m _ p (war c) a.toArray,
  ⟨⟨_,waq _ rfl,rfl,rfl⟩,hl.push _⟩,λi v w x y n g=>?_,λz B hk=>?_⟩
 ·obtain⟨b,e,rfl⟩:=f.get i v (by simpa using n);simp only[e,wfv]at g;exact wbO g
 ·have e:((waH a.toArray.size).any λi=>(bs[i]?).getD false)=bs.any id:=by
   rw[waE,f.length];exact LSm.range_any bs
  rw[e];exact⟨.bl _,H,I.kept (LSm.kept_iter hk),rfl,q⟩
theorem Ao(hc:X.calm=true):eF X (.builtin "all") (λxs H Q=>∃p bs,xs=[.ref p]/\aM X.K H p (wdl V.bl bs)/\Q (.bl (bs.all id)) H):=by
 intro d s σ H xs o Q I r h;obtain⟨p,bs,rfl,j,q⟩:=h;obtain⟨u,rfl,k⟩:=vals1 r;cases k;obtain⟨a,l,pl,t⟩:=I.list j;have f:=sq l;have hl:=pl.isList;have m:=I.ok.hd hc;have c:p<s.heap.objs.size:=by obtain⟨_,e,_⟩:=hl;exact wae e
 refine call_all_walk (wcM hl ?_)
 refine⟨s.heap.objs.size,[s.heap.objs.size,p],[s.heap.objs.size],a.toArray.size,_,_,λi=>(bs[i]?).getD true,rfl,wfi (A:=X.A.in1) m _ p (war c) a.toArray,
  ⟨⟨_,waq _ rfl,rfl,rfl⟩,hl.push _⟩,λi v w x y n g=>?_,λz B hk=>?_⟩
 ·obtain⟨b,e,rfl⟩:=f.get i v (by simpa using n);simp only[e,wfv]at g;exact wbO g
 ·have e:((waH a.toArray.size).all λi=>(bs[i]?).getD true)=bs.all id:=by
   rw[waE,f.length];exact LSm.range_all bs
  rw[e];exact⟨.bl _,H,I.kept (LSm.kept_iter hk),rfl,q⟩
theorem Hy(hk:kvs.map (·.1)=g.map (wai:Str->Key))(rel:KV kvs vs)(hl:us.length=vs.length)
 (l:∀(j:Nat) (u:Value),us[j]?=some u->∃k x,vs[j]?=some (k,x)/\(bc P w).is k u=true):StrsAre us g:=by
 have e:vs.map (·.1)=g.map (wai:Str->Key):=rel.keys ▸ hk;clear hk rel
 induction g generalizing us vs with
 |nil=>
  have:vs=[]:=by cases vs with |nil=>rfl |cons a b=>simp at e
  subst this;have:us=[]:=wfK.mp hl;subst this;exact .nil
 |cons k g i=>
  cases vs with
  |nil=>simp at e
  |cons v vs=>
   cases us with
   |nil=>simp at hl
   |cons u us=>
    rw[waz,waz]at e;injection e with m n
    obtain⟨f,x,o,p⟩:=l 0 u rfl;have c:v=(f,x):=by simpa using o
    subst c;have d:f=(wai k:Key):=m;subst d;obtain⟨t,rfl⟩:=wgQ (x:=k) (v:=u) p;exact .cons k t (i (by simpa using hl) (λj q h=>l (j+1) q (by simpa using h)) n)
theorem z6(hc:X.calm=true):eF X (.builtin "sorted") (λxs H Q=>∃d kvs g,xs=[.ref d]/\H d=some (.dK kvs)/\kvs.map (·.1)=wdl (wai:Str->Key) g/\g.length<64 /\
 ∀l ss,H l=none->ss.Perm g->wfI ss=true->Q (.ref l) (upd H l (.lst (ss.map V.str)))):=by
 intro k s σ H xs U Q I r h;obtain⟨d,kvs,g,rfl,hd,hk,v,q⟩:=h;obtain⟨u,rfl,N⟩:=vals1 r;cases N;obtain⟨D,lo,x,rel,O⟩:=p8 I.b4 hd;obtain⟨ep,y⟩:=O.dictAt;have R:=I.ok.hd hc;have n:kvs.length=g.length:=by have:=congrArg wdE hk;simpa using this
 have hn:x.length<=sizeLine:=by rw[<-rel.length];exact D
 refine Calls.call_function_entry kind_sorted plain_sorted entry_sorted (args_sorted1 _) ?_;unfold weh.«sorted»;refine wa7 (m:=checkCount "sorted" 1 1 _) (wax ?_);refine wa7 (PySem.W.kdu_collect (A:=X.A.in1) (whB (knd:=bc X.prog X.w) (kvs:=x) (ep:=ep) lo) R y hn λi E a z c=>?_);have hl:a.toList.length=x.length:=by rw[wcx];exact c.1
 refine wa7 (wpAny_newList ?_ (by rw[hl];exact hn));have B:StrsAre a.toList g:=Hy (P:=X.prog) (w:=X.w) hk rel hl λj u e=>c.2 j u (by rw[<-wcj];exact e);have f:(i.push (seqObj "list" a.toList.toArray 0)).get? i.objs.size=some (seqObj "list" a.toList.toArray 0):=waq _ rfl;have p:a.toList.length<64:=by rw[hl,<-rel.length,n];exact v
 refine wa7 (wbm (wpAny_call_entry slot_list_sort ⟨_,f,rfl⟩ entry_list_sort (list_sort_treeK strKind_oneLt f B.keysOf (λG J rest e=>keyKind_strs (by rw[<-e];exact B)) p λC a1 a2=>⟨_,rfl,?_⟩) (args_list_sort _)));obtain⟨t,b1,L,S⟩:=sorted_out_str B a1 a2;have M:Inv X k σ H {s with heap:=i,toks:=E}:=I.kept z;obtain⟨e,T⟩:=sortedHeap_at (out:=(arrOf C).map (·.2)) f;refine wax ⟨_,rfl,⟨.ref i.objs.size,upd H i.objs.size (.lst (t.map V.str)),M.laid (t':=E) (λb o q=>?_) (waa _) ⟨?_,_,e,xX b1,?_⟩,rfl,q _ t (M.b4.fresh (waa _)) L S⟩⟩
 ·have lt:b<i.objs.size:=wae q;rw[sortedHeap_old (war lt) (by rw[size_push'];exact we5 lt)];exact wa8 _ q
 ·rw[wa0,L.length_eq,<-n];exact D
 ·rw[wdv];exact T
theorem xY:∀{kvs:List (Key×V)} {vs:List (Key×Value)} {us:List Value},KV kvs vs->us.length=vs.length ->
 (∀(j:Nat) (u:Value),us[j]?=some u->∃k x,vs[j]?=some (k,x)/\(bc P w).is k u=true)->Vals (kvs.map λg=>kV g.1) us
 |_,_,us,.nil,hl,_=>by
  have:us=[]:=wfK.mp hl;subst this;exact .nil
 |_,_,us,.cons (a:=p) (b:=q) r t,hl,d=>by
  cases us with
  |nil=>simp at hl
  |cons u us=>
   obtain⟨f,x,l,m⟩:=d 0 u rfl;have c:q=(f,x):=by simpa using l
   subst c;refine .cons ?_ (xY t (by simpa using hl) λj n h=>d (j+1) n (by simpa using h));have e:p.1=f:=r.1;show RelV (kV p.1) u;rw[e];rcases bS m with⟨i,t,rfl,rfl⟩ |⟨y,t,rfl,rfl⟩
   ·exact⟨t,rfl⟩
   ·exact⟨t,rfl⟩
theorem kh(hc:X.calm=true):eF X (.type "list") (λxs H Q=>∃d kvs,xs=[.ref d]/\H d=some (.dK kvs)/\∀l,H l=none->Q (.ref l) (upd H l (.lst (kvs.map λg=>kV g.1)))):=by
 intro k s σ H xs y Q I r h;obtain⟨d,kvs,rfl,hd,q⟩:=h;obtain⟨u,rfl,n⟩:=vals1 r;cases n;obtain⟨m,lo,f,rel,o⟩:=p8 I.b4 hd;obtain⟨ep,i⟩:=o.dictAt;have p:=I.ok.hd hc;have hn:f.length<=sizeLine:=by rw[<-rel.length];exact m
 refine whC (whB (knd:=bc X.prog X.w) (kvs:=f) (ep:=ep) lo) p i hn λt v b c kp x a=>?_;have hl:b.toList.length=f.length:=by rw[wcx];exact a.1
 refine⟨.ref s.heap.objs.size,_,I.laid (t':=v) kp (waa _) (show cb X.prog X.w _ t _ (.lst (kvs.map λg=>kV g.1)) from ⟨?_,b.toList,c,xY (P:=X.prog) (w:=X.w) rel hl λj u e=>a.2 j u (by rw[<-wcj];exact e),?_⟩),rfl,q _ (I.b4.fresh (waa _))⟩
 ·rw[wa0];exact m
 ·rw[wdv];exact x
noncomputable def mc(v d:Addr):HO:=.ext λh=>h.IsValuesView v d
theorem xZ:Kj X "dict.values" (λx xs H Q=>∃d kvs,x=.ref d/\xs=[]/\H d=some (.dK kvs)/\∀v,H v=none->Q (.ref v) (upd H v (mc v d))):=by
 intro a s σ H x xs v j Q I f g h;obtain⟨d,kvs,rfl,rfl,hd,q⟩:=h;cases f;have:=g.zero;subst this;obtain⟨l,lo,i,rel,c⟩:=p8 I.b4 hd;refine wex wdS c.typeIs PySem.F.entry_dict_values (PySem.F.args_dict_values_1 _) (meets_dict_values (bc X.prog X.w) d lo) ⟨⟨i,c⟩,?_⟩;refine⟨.ref s.heap.objs.size,_,I.laid (t':=s.toks) (o:=mc s.heap.objs.size d) (λb o e=>wa8 _ e) (waa _) ⟨⟨_,waq _ rfl,rfl,rfl⟩,⟨_,waq _ rfl⟩,λm n ⟨o,e,r⟩ k=>⟨o,k o e,r⟩⟩,rfl,q _ (I.b4.fresh (waa _))⟩
theorem Cq(hc:X.calm=true):eF X (.type "list") (λxs H Q=>∃v d kvs,xs=[.ref v]/\H v=some (mc v d)/\H d=some (.dK kvs)/\∀l,H l=none->Q (.ref l) (upd H l (.lst (kvs.map (·.2))))):=by
 intro k s σ H xs D Q I r h;obtain⟨v,d,kvs,rfl,n,hd,q⟩:=h;obtain⟨u,rfl,o⟩:=vals1 r;cases o;obtain⟨m,lo,b,rel,p⟩:=p8 I.b4 hd;obtain⟨ep,i⟩:=p.dictAt;obtain⟨g,_⟩:=(show cb X.prog X.w H s.heap v (mc v d) from I.b4 v _ n);have x:=I.ok.hd hc;have hn:b.length<=sizeLine:=by rw[<-rel.length];exact m
 refine whC (wh8 (knd:=bc X.prog X.w) (kvs:=b) (ep:=ep)) x ⟨g,i⟩ hn λy z a c kp A f=>?_;have hl:a.toList.length=b.length:=by rw[wcx];exact f.1
 have e:a.toList=b.map (·.2):=PySem.W.kdl_vals_eq a.toList hl λj u e=>f.2 j u (by rw[<-wcj];exact e)
 have B:∀{kvs:List (Key×V)} {b:List (Key×Value)},KV kvs b->Vals (kvs.map (·.2)) (b.map (·.2)):=λ{kvs b} r=>by
  induction r with
  |nil=>exact .nil
  |cons r t C=>exact .cons r.2 C
 refine⟨.ref s.heap.objs.size,_,I.laid (t':=z) kp (waa _) (show cb X.prog X.w _ y _ (.lst (kvs.map (·.2))) from ⟨?_,a.toList,c,by rw[e];exact B rel,?_⟩),rfl,q _ (I.b4.fresh (waa _))⟩
 ·rw[wa0];exact m
 ·rw[wdv];exact A
noncomputable def uG:List V->List V->Bool
 |[],[]=>true
 |x::xs,y::ys=>se x y&&uG xs ys
 |_,_=>false
theorem HA(h:xs.length≠ys.length):uG xs ys=false:=by
 induction xs generalizing ys with
 |nil=>cases ys with
  |nil=>exact absurd rfl h
  |cons _ _=>rfl
 |cons x xs a=>cases ys with
  |nil=>rfl
  |cons y ys=>
   show (se x y&&uG xs ys)=false;rw[a (by simpa using h),we1]
theorem uH:∀{xs ys:List V},xs.length=ys.length->uG xs ys=(waH xs.length).all λj=>se (xs.getD j .non) (ys.getD j .non)
 |[],[],_=>rfl
 |[],_::_,h=>by simp at h
 |_::_,[],h=>by simp at h
 |x::xs,y::ys,h=>by
  show (se x y&&uG xs ys)=_;rw[waK,List.range_succ_eq_map,wf2,wfw,uH (by simpa using h)];rfl
inductive TK(K:wa2)(x y:V)(H:Hp)(Q:VK):Prop
 |mk (a b xs ys) (_:x=.ref a) (_:y=.ref b) (_:aM K H a xs) (_:aM K H b ys) (_:xs.all eh=true) (_:ys.all eh=true) (_:Q (.bl (uG xs ys)) H)
theorem HB(l:X.A.units<wcI):nA X (wbk .Eq) (TK X.K):=by
 intro m s σ H x y v u Q I C D h;obtain⟨a,b,f,g,rfl,rfl,ha,E,G,J,q⟩:=h;cases C;cases D;obtain⟨d,n,o,_⟩:=I.list ha;obtain⟨c,p,r,_⟩:=I.list E;have L:=n.length;have U:=p.length
 by_cases hl:f.length=g.length
 ·refine SeqAt.eq_listAt (e:=λj=>se (f.getD j .non) (g.getD j .non)) o.isList r.isList (by simp only[waE];omega) l (λj M N=>?_) ?_
  ·have i:j<d.length:=by simpa using M
   have k:j<c.length:=by simpa using N
   have t:f[j]?=some (f.getD j .non):=by rw[wa3];simp[show j<f.length by omega]
   have w:g[j]?=some (g.getD j .non):=by rw[wa3];simp[show j<g.length by omega]
   obtain⟨O,z,R⟩:=n.get t;obtain⟨S,B,T⟩:=p.get w
   have g1:d.toArray[j]=O:=by
    have:d[j]?=some d[j]:=by simp[i]
    rw[this]at z;simpa using wag z
   have g2:c.toArray[j]=S:=by
    have:c[j]?=some c[j]:=by simp[k]
    rw[this]at B;simpa using wag B
   rw[g1,g2];exact Cg R T (waW.mp G _ (wa9 t)) (waW.mp J _ (wa9 w))
  ·rw[uH hl]at q;refine⟨.bl _,H,I,rfl,?_⟩;rw[waE,<-L];exact q
 ·refine SeqAt.eq_list_lengthsAt o.isList r.isList (by simp only[waE,bne_iff_ne];omega) l ⟨.bl false,H,I,rfl,?_⟩;rw[HA hl]at q;exact q
theorem cZ:eF X (.builtin "isinstance") (λxs H Q=>∃x T t b,xs=[x,.ty T]/\j4 X.K H x t/\whW X.K t (.type T)=some b/\Q (.bl b) H):=by
 intro a s σ H xs g Q I r h;obtain⟨x,T,t,b,rfl,ty,e,q⟩:=h;obtain⟨u,i,rfl,c,d⟩:=vals2 r;cases d;exact EZ I c ty e λf=>⟨.bl b,H,I.tok f,rfl,q⟩
theorem ki:Tn X (λx lo hi H Q=>∃z,x=.str z/\z.length<=sizeLine/\Q (.str (wb0 z lo hi)) H):=by
 intro a s σ H x v p r lo hi sl Q I m n pl f h;obtain⟨z,rfl,b,q⟩:=h;obtain⟨t,rfl⟩:=m;refine⟨"str",_,slot_str_getitem.lookup,typeIs_str s z t,?_⟩;have fin:∀d k,EP X a σ Q (.str (wb0 z lo hi) d) {s with toks:=k}:=λd k=>⟨.str _,H,I.tok k,⟨d,rfl⟩,q⟩;obtain⟨o,c,hc,hd⟩:=n
 cases pl with
 |none=>cases f with
  |none=>exact wd0 (l:=none) (u:=none) (st:=none) ⟨o,c,hc,hd⟩ rfl (wey ⟨waj (wez z _ _) b,fin⟩)
  |int j e=>exact wd0 (l:=none) (u:=some (j,e)) (st:=none) ⟨o,c,hc,hd⟩ rfl (wey ⟨waj (wez z _ _) b,fin⟩)
 |int i g=>cases f with
  |none=>exact wd0 (l:=some (i,g)) (u:=none) (st:=none) ⟨o,c,hc,hd⟩ rfl (wey ⟨waj (wez z _ _) b,fin⟩)
  |int j e=>exact wd0 (l:=some (i,g)) (u:=some (j,e)) (st:=none) ⟨o,c,hc,hd⟩ rfl (wey ⟨waj (wez z _ _) b,fin⟩)
theorem E5:Kj X "str.join" (λx xs H Q=>∃z p ts,x=.str z/\xs=[.ref p]/\aM X.K H p (wdl V.str ts)/\(ts.map (·.length)).sum+ts.length*z.length<=16777216/\Q (.str (wdw z ts)) H):=by
 intro a s σ H x xs v l Q I b c h;obtain⟨z,p,ts,rfl,rfl,d,e,q⟩:=h;obtain⟨t,rfl⟩:=b;obtain⟨u,rfl,f⟩:=c.one;cases f;obtain⟨g,i,pl,_⟩:=I.list d;exact join_list pl.isList (by simpa using Cp i) e λj k=>⟨.str _,H,I.tok k,⟨j,rfl⟩,q⟩
end
noncomputable def OZ(K:wa2)(a:Addr):It:=
 ⟨λi H=>∃xs x,aM K H a xs/\xs[i]?=some x,λi H x H'=>∃T xv,H T=none/\x=.ref T/\H'=upd H T (.tup [.int (i:Nat),xv])/\∀xs,aM K H a xs->xs[i]?=some xv,λi H=>∃xs,aM K H a xs/\xs.length<=i⟩
theorem F9{P:wau}{w:World}{K:wa2}{C:List Expr}{k:Nat}{pos:Pos}(a e it:Addr)(J:e≠it):Turn P w K (.Tuple C k pos) (OZ K a) [e,it] e (λi h=>(∃old,IsEnum h e it (i:Nat) old)/\h.IsListIter it a i) where
 mem:=by simp
 obj:=λi h st b d=>by
  obtain⟨⟨old,f⟩,o,N,hc,hd⟩:=st;rcases waC.mp d with rfl |d
  ·exact⟨_,f,λv z=>by
    have z':wdC _=weU v:=z
    cases z'⟩
  ·have A:b=it:=by simpa using d
   subst A;exact⟨o,N,λv z=>by rw[hd]at z;cases z⟩
 keep:=λi h h' st k=>⟨st.1.imp λold f=>k e (by simp) _ f,st.2.at λo q=>k it (by simp) o q⟩
 item:=by
  intro X O hw Q hc i l s σ H E I B st R;subst O hw Q;obtain⟨xs,x,M,S⟩:=R;obtain⟨T,U,p,hz⟩:=I.list M;obtain⟨u,hu,ru⟩:=U.get S;obtain⟨⟨old,f⟩,hit⟩:=st;obtain⟨f0,f1,f2,f3,f4,f5⟩:=B e (by simp);obtain⟨V,g1,g2,g3,Y,Z⟩:=B it (by simp);refine wpAny_pyNext_enum_item f hit p.isList (x:=u) (by simpa using hu) J λh' N D hT hsz hk=>?_;refine⟨_,rfl,wdA N λg P0 t=>?_⟩;have kp:∀b o,b≠e->b≠it->s.heap.get? b=some o->g.get? b=some o:=λb o h1 h2 q=>(t.2 b h1).trans (hk b o h1 h2 q);have G:e<s.heap.objs.size:=wae f;have Ks:s.heap.objs.size≠e:=wbU G;have Kt:g.get? s.heap.objs.size=some {cls:=.type "tuple",data:=.seq #[.int i s.toks,u]}:=(t.2 _ Ks).trans hT;have y:=I.b4.fresh (waa s.heap.objs.size);have j:∀b o,H b=some o->b≠e/\b≠it:=λb o q=>⟨(λz=>by rw[z,f0]at q;cases q),(λz=>by rw[z,V]at q;cases q)⟩
  have L:jt X.prog X.w (upd H s.heap.objs.size (.tup [.int (i:Nat),x])) g:=by
   intro b o q
   by_cases d:b=s.heap.objs.size
   ·subst d;rw[a6]at q;cases q;exact⟨by show 2<=sizeLine;decide,[.int i s.toks,u],.cons ⟨_,rfl⟩ (.cons ru .nil),⟨_,Kt,rfl,_,rfl⟩⟩
   ·rw[ae d]at q;refine(I.b4 b o q).qN (λc v hc r=>?_) (λc r=>by rw[ae (af r y)];exact r) λc ys r=>by rw[ae (af r y)];exact r
    rcases hc with z |z
    ·rw[z]at r ⊢;exact kp b v (j b o q).1 (j b o q).2 r
    ·exact kp c v (j c _ z).1 (j c _ z).2 r
  have I1:Inv X l σ (upd H s.heap.objs.size (.tup [.int (i:Nat),x])) {s with heap:=g,gens:=s.gens,drawn:=s.drawn,toks:=s.toks+1}:=by
   refine I.step (ch:=[e,it]) (λb d=>?_) (λb o _ _ hc q _=>kp b o (λz=>hc (by simp[z])) (λz=>hc (by simp[z])) q) (λb o _ _ hc q _=>⟨o.slots,kp b o (λz=>hc (by simp[z])) (λz=>hc (by simp[z])) q⟩)
    (λb o _ q n=>by rw[ae (war (wae q))];exact n) (λb o hc q=>⟨o,kp b o (λz=>hc (by simp[z])) (λz=>hc (by simp[z])) q⟩)
    (λb ys r=>by rw[ae (af r y)];exact r) (λb o u r=>by rw[ae (af r y)];exact r) (λb ps r=>⟨#[],by rw[ae (af r y),r];simp⟩)
    (λm ⟨o,es,ep,Nj,r⟩=>⟨o,es,ep,kp _ o (wb9 f1) (wb9 g1) Nj,r⟩) L I.bare
   rcases waC.mp d with rfl |d
   ·exact⟨f3,f1,f4,f5⟩
   ·have A:b=it:=by simpa using d
    subst A;exact⟨g3,g1,Y,Z⟩
  refine⟨.ref s.heap.objs.size,_,I1,rfl,⟨s.heap.objs.size,x,y,rfl,rfl,λys hy=>by rw[I.p0 hy M];exact S⟩,⟨⟨u,by simpa using P0⟩,?_⟩,λb d=>?_⟩
  ·exact D.at λo q=>(t.2 it (wb9 J)).trans q
  ·have:b<s.heap.objs.size:=by
    rcases waC.mp d with rfl |d
    ·exact G
    ·have A:b=it:=by simpa using d
     subst A;obtain⟨o,q,_⟩:=hit;exact wae q
   rw[ae (war this)];exact(B b d).1
 done:=by
   intro X O hw Q hc i l s σ H E I B st R;subst O hw Q;obtain⟨xs,M,S⟩:=R;obtain⟨T,U,p,hz⟩:=I.list M;have hl:=U.length;obtain⟨⟨old,f⟩,hit⟩:=st;obtain⟨V,g1,g2,g3,Y,Z⟩:=B it (by simp);exact wpAny_pyNext_enum_end (I.ok.hd hc) f hit p.isList (wga (by simp;omega)) λh' eb=>⟨rfl,I.turned (t':=s.toks) (λb o d e=>eb b o d e) V g1 g3 Y Z⟩
 self:=λ_ _ _ _ _ st h=>let ⟨⟨_,f⟩,_⟩:=st;wcN f h
theorem hZ:waV "enumerate"=some (.type "enumerate"):=by decide+kernel
section
variable{X:Cx}
def Qh(K:wa2)(ta:TA):TI:=λσ H R=>ta σ H λvs H1=>∃a xs,vs=[.ref a]/\aM K H1 a xs/\R (OZ K a) H1
theorem kj{g:List Expr}{k:Nat}{j:Pos}{l:Expr}{r:TA}{p pos:Pos}(t:Gl X "enumerate")(C:X.mg "enumerate"=none)(ha:PA X [l] r)(hs:starEach [l] X.env=[(false,eval l X.env)]:=by rfl) :
 PI X (.Tuple g k j) (.Call (.Name "enumerate" p) [l] [] pos) (Qh X.K r):=by
 intro c s σ H R I h;refine Call_ (gv I t C hZ (wbr (bO (ha pos c s σ H _ I h) λD d ⟨E,m,i,o,v⟩=>?_) hs rfl));obtain⟨a,G,e,w,q⟩:=v;subst e;obtain⟨u,rfl,x⟩:=vals1 o;cases x;obtain⟨y,J,pl,L⟩:=i.list w;refine call_enumerate_list pl.isList λz n hit A kp=>wcN n ?_;have B:Inv X c σ m {d with heap:=z}:=i.kept (t':=d.toks) kp;refine⟨d.heap.objs.size+1,[d.heap.objs.size+1,d.heap.objs.size],_,_,m,rfl,B,F9 a _ _ (wbU (wbI _)),⟨⟨_,n⟩,hit⟩,λb M=>?_,q⟩
 have f:d.heap.objs.size<=b:=by
  grind
 exact i.wK f (i.b4.fresh f)
end
theorem md{K:wa2}{a:Addr}{xs:List V}{g:TG}{C:TS}{D:Ends}{σ:St}{H:Hp}(Pv:Nat->St->Hp->Prop)(h0:Pv 0 σ H)(hl:∀i σ H,i<=xs.length->Pv i σ H->aM K H a xs)
 (hs:∀i x σ H T,xs[i]?=some x->Pv i σ H->H T=none->g (.ref T) σ (upd H T (.tup [.int (i:Nat),x])) λj t=>C {D with nx:=Pv (i+1),ct:=Pv (i+1),bk:=D.nx} j t) (hd:∀σ H,Pv xs.length σ H->D.nx σ H) :
 ∃W:Nat->Nat->St->Hp->Prop,(∃m,W 0 m σ H)/\∀i m σ H,W i m σ H ->
  ((OZ K a).stop i H/\D.nx σ H)\/((OZ K a).go i H/\∃N:St->Hp->Prop,(∀l r,N l r->∃I,I<m/\W (i+1) I l r)/\∀x r,(OZ K a).u0 i H x r->g x σ r λj t=>C {D with nx:=N,ct:=N,bk:=D.nx} j t):=by
 refine⟨λi m σ H=>m=xs.length-i/\i<=xs.length/\Pv i σ H,⟨xs.length,by simp,waB _,h0⟩,?_⟩;rintro i m σ H ⟨rfl,hi,p⟩;have q:=hl i σ H hi p
 by_cases b:i<xs.length
 ·refine .inr ⟨⟨xs,xs[i],q,by simp[b]⟩,Pv (i+1),λl r c=>⟨xs.length-(i+1),by omega,rfl,b,c⟩,λx r y=>?_⟩;obtain⟨T,d,f,h,k,y⟩:=y;subst h k;exact hs i d σ _ T (y xs q) p f
 ·have e:i=xs.length:=by omega
  subst e;exact .inl ⟨⟨xs,q,waa _⟩,hd σ H p⟩
noncomputable def sr(σ:List Str)(v:Str):List Str:=if σ.any (· == v)=true then σ else σ++[v]
noncomputable def d5(val:Nat->Str)(i:Nat):List Str:=((waH i).map val).foldl sr []
theorem j9(val:Nat->Str)(i:Nat):d5 val (i+1)=sr (d5 val i) (val i):=by
 unfold d5;rw[wde,wao,wfc];rfl
theorem y2(val:Nat->Str):∀i,(d5 val i).length<=i
 |0=>waa _
 |i+1=>by
  rw[j9];unfold sr;have a:=y2 val i;split
  ·omega
  ·grind
theorem Fa(σ:List Str)(v k:Str):(sr σ v).any (· == k)=(σ.any (· == k) ||decide (k=v)):=by
 unfold sr
 by_cases h:σ.any (· == v)=true
 ·rw[if_pos h]
  by_cases e:k=v
  ·subst e;rw[h];simp
  ·simp[e]
 ·rw[if_neg h,List.any_append]
  by_cases e:k=v
  ·subst e;simp
  ·have a:(v==k)=false:=by simpa [beq_iff_eq] using(λb:v=k=>e b.symm)
   simp[a,e]
theorem z7(σ:List Str)(v:Str):(sr σ v).length=if σ.any (· == v) then σ.length else σ.length+1:=by
 unfold sr;split<;>simp
theorem sub_str_set:isSubtype (.type "str") (.type "set")=pure false:=by rw[isSubtype_type];kernel_rfl
theorem sub_str_frozenset:isSubtype (.type "str") (.type "frozenset")=pure false:=by rw[isSubtype_type];kernel_rfl
theorem Ml(P:wau)(w:World)(x:Str)(t:Tok):(wbK P w).is x (.str x t)=true:=by simp[wbK,wgM]
section
variable{prog:wau}{w:World}{A:Around}{R:wd8->Shared->Prop}{I:Addr}{fp wr:List Addr}{G:Array wdr->Array wdr->Prop}{n:Nat}{P:Nat->Value->Prop}{St:Nat->Shared->Prop}
theorem Ap(l:WalksS prog w A.in1 I fp wr G n P St)(S:Addr)(p:S∉fp)
 (val:Nat->Str) (r:∀i v,P i v->∃t,v=.str (val i) t) (j:n+1<wdT) :
 ∀(k i:Nat) (s:Shared),n-i=k->i<=n->St i s ->
  s.heap.SetOf (wbK prog w) S (λg=>(d5 val i).any (· == g)) (d5 val i).length ->
  (∀s',Moved (S::wr) G s s'->s'.heap.SetOf (wbK prog w) S (λg=>(d5 val n).any (· == g)) (d5 val n).length->R (.ok (.ret .none)) s') ->
  codeAny (model prog w) A (.builtin "set.update.loop" ⟨[.ref S,.ref I],[]⟩) R s:=by
 have f:S∉wr:=λh=>p (l.sub _ h);have a:∀b∈wr,b∈S::wr:=λb j=>wac _ j;intro k
 induction k with
 |zero=>
  intro i s hk hi c B C;have D:i=n:=by omega
  subst D;refine wbG wdU ?_;rw[wbx wcE _];show wpAny _ A.in1 (pyNext (.ref I) >>= _) _ _ s;refine wa7 (l.done s _ _ c λs' m=>?_);show wpAny _ A.in1 (ret wbA) _ _ s'
  exact wax (C s' (m.mono a) (by
   obtain⟨o,E,H,t,J,rest⟩:=B
   exact⟨o,E,H,t,m.heap S _ f J,rest⟩))
 |succ k Q=>
  intro i s hk hi c B C;have q:i<n:=by omega
  refine wbG wdU ?_;rw[wbx wcE _];show wpAny _ A.in1 (pyNext (.ref I) >>= _) _ _ s;refine wa7 (l.item i s _ _ q c λv s' T u m=>?_);obtain⟨t,rfl⟩:=r i v T
  have L:s'.heap.SetOf (wbK prog w) S (λg=>(d5 val i).any (· == g)) (d5 val i).length:=by
   obtain⟨o,E,H,U,J,rest⟩:=B;exact⟨o,E,H,U,m.heap S _ f J,rest⟩
  show wpAny _ A.in1 (holding [wfR (val i) t] (setAdd S (.str (val i) t)) >>= _) _ _ s';refine wa7 (wbm ?_);unfold setAdd;refine wbm ?_;refine wa7 ((wbK prog w).pyHash (k:=val i) (Ml _ _ _ _) ?_);have d:(d5 val i).length+1<wdT:=by have:=y2 val i;omega
  refine wpAny_setAddHashed_of (knd:=wbK prog w) (s:={s' with toks:=s'.toks+1}) (Ml _ _ _ _) rfl L d λV x M=>?_
  have N:V.SetOf (wbK prog w) S (λg=>(d5 val (i+1)).any (· == g)) (d5 val (i+1)).length:=
   SetOf_congr M (λg=>by rw[j9,Fa]) (by rw[j9,z7])
  refine wax ⟨wce wcE _,Q (i+1) _ (by omega) q (l.frame _ s' _ _ u (wc1 _) λb j o e=>?_) N λO y z=>?_⟩
  ·rw[x.2 b (λh:b=S=>p (by rw[<-h];exact j))];exact e
  ·refine C O (Moved.trans l.gtrans ((m.mono a).then_heap (wc1 _) λb o j e=>?_) y) z;rw[x.2 b (λh:b=S=>j (by rw[h];exact waf))];exact e
end
section
variable{prog:wau}{w:World}{A:Around}{E:Value->Shared->Prop}{s:Shared}
noncomputable def fk(x:Str)(i:Nat):Str:=⟨#[x.cps.getD i 0]⟩
set_option maxRecDepth 100000 in
set_option maxHeartbeats 3200000 in
theorem z8{Q:Value->Shared->Prop}
 (hh:A.handled=none) (p:x.cps.size+1<wdT)
 (h:∀(h':Heap) (tk:Nat),h'.SetOf (wbK prog w) s.heap.objs.size (λC=>(d5 (fk x) x.cps.size).any (· == C)) (d5 (fk x) x.cps.size).length ->
   (∀b o,b<s.heap.objs.size->s.heap.get? b=some o->h'.get? b=some o)->Q (.ref s.heap.objs.size) {s with heap:=h',toks:=tk}) :
 wpAny (model prog w) A (call (.type "set") [.str x I]) Q E s:=by
 obtain⟨c,tl,T⟩:=wbX.mro;have y:=wbX.made;have U:=wbX.sub;refine wda (wfY ?_);show wpAny _ _ (callAny (.type "set") _) _ _ _;refine wax ⟨wdV _ (by decide+kernel),wbG wgF ?_⟩;rw[wh9 (wgo "set" [.str x I] []) rfl];have h1:=wbX.notType;have h2:=wbX.canCreate;have Z:=PySem.F.typeCall_set_1 (.str x I)
 repeat (any_goals (first |assumption |wp_step))
 refine wcc (code_set_new_1 (.str x I) (E:=E) (Q₁:=λobj f=>∃a:Bool,obj=.ref s.heap.objs.size/\f={s with heap:=s.heap.push {cls:=.type "set",dict:=none,data:=.set #[] 0 (.fresh 0 0 a)}}) λa=>⟨a,rfl,rfl⟩) λr f z=>?_
 cases r with
 |error e=>exact z
 |ok fl=>
  cases fl with
  |ret obj=>
   obtain⟨a,rfl,rfl⟩:=z;have V:(s.heap.push {cls:=.type "set",dict:=none,data:=.set #[] 0 (.fresh 0 0 a)}).get? s.heap.objs.size=some {cls:=.type "set",dict:=none,data:=.set #[] 0 (.fresh 0 0 a)}:=waq _ rfl;have hT:whZ {s with heap:=s.heap.push {cls:=.type "set",dict:=none,data:=.set #[] 0 (.fresh 0 0 a)}} (.ref s.heap.objs.size) "set":=⟨_,V,rfl⟩;have hli:=wbX.init.lookup;have hbi:=wbX.init.bind (.ref s.heap.objs.size)
   repeat (any_goals (first |assumption |wp_step))
   refine wcc (wcR (R:=wants (λr g=>r=.none/\∃h' tk,g={s with heap:=h',toks:=tk} /\
    h'.SetOf (wbK prog w) s.heap.objs.size (λC=>(d5 (fk x) x.cps.size).any (· == C)) (d5 (fk x) x.cps.size).length /\
    (∀b o,b<s.heap.objs.size->s.heap.get? b=some o->h'.get? b=some o)) E) wbX.init.plain PySem.F.entry_set_init (check_set_init_1 hT ?_)) λl g d=>?_
   ·have X:=sub_str_set;have Y:=sub_str_frozenset;have Aq:(wep "str" == wep "dict")=false:=by decide
    unfold weh.«set.__init__» noKeywords whX;generalize B:pyIter=PI
    wp_walk
    subst B;refine wpAny_pyIter_str λo St hW D=>?_;refine wa7 (wpAny_runValue ?_);have G:A.in1.in1.in1.handled=none:=by simp[hh]
    have H:s.heap.objs.size∉[(s.heap.push {cls:=.type "set",dict:=none,data:=.set #[] 0 (.fresh 0 0 a)}).objs.size]:=by
     rw[wbL];simp only[waC,wat,wbJ,or_false,not_or];exact war (wbI _)
    have m:∀(i:Nat) (v:Value),SignAt x i v->∃t,v=.str (fk x i) t:=λi v hv=>by
     obtain⟨c,u,hc,e⟩:=hv;refine⟨u,?_⟩;rw[e];unfold fk;rw[wcD,hc];rfl
    refine Ap ((hW _ G).toS) s.heap.objs.size H (fk x) m p (x.cps.size-0) 0 _ (by omega) (waB _) D ?J ?hR
    case J=>
     have n:((s.heap.push {cls:=.type "set",dict:=none,data:=.set #[] 0 (.fresh 0 0 a)}).push o).get? s.heap.objs.size
      =some {cls:=.type "set",dict:=none,data:=.set #[] 0 (.fresh 0 0 a)}:=wa8 _ V
     exact SetOf_congr ((setObjOf_fresh (knd:=wbK prog w) a).setOf n (by unfold wdT;omega)) (λ_=>rfl) rfl
    case hR=>
     intro s' q j;obtain⟨h',g',d',L,M⟩:=s';have eg:g'=s.gens:=q.gens;have ed:d'=s.drawn:=q.drawn;have eo:M=s.os:=q.os;subst eg;subst ed;subst eo;show wpAny _ _ _ _ _ _;refine wax ?_;show wpAny _ _ (ret wbA) _ _ _;refine wax ⟨rfl,h',L,rfl,j,λb o' p e=>?_⟩;have N:b≠s.heap.objs.size:=war p
     have O:b≠(s.heap.push {cls:=.type "set",dict:=none,data:=.set #[] 0 (.fresh 0 0 a)}).objs.size:=by
      rw[wbL];exact war (we5 p)
     exact q.heap b o' (by simp only[waC,wat,wbJ,or_false,not_or];exact⟨N,O⟩) (wa8 _ (wa8 _ e))
   ·cases l with
    |error e=>exact d
    |ok k=>
     cases k with
     |ret r=>
      obtain⟨rfl,h',tk,rfl,j,S⟩:=d
      repeat (any_goals (first |assumption |wp_step))
      exact h _ _ j S
     |_=>exact d.elim
  |_=>exact z.elim
end
section
variable{X:Cx}
noncomputable def Ku(P:wau)(w:World)(a:Addr)(n:Nat):HO:=.ext λh=>∃S,h.SetOf (wbK P w) a S n
theorem Ar(hc:X.calm=true):eF X (.type "set") (λxs H Q=>∃z,xs=[.str z]/\z.cps.size+1<wdT/\∀p,H p=none->Q (.ref p) (upd H p (Ku X.prog X.w p (d5 (fk z) z.cps.size).length))):=by
 intro c s σ H xs n Q I r h;obtain⟨z,rfl,f,q⟩:=h;obtain⟨u,rfl,t,rfl⟩:=vals1 r;refine z8 (I.ok.hd hc) f λg i d kp=>?_;have a:∀b o,s.heap.get? b=some o->g.get? b=some o:=λb o e=>kp b o (wae e) e;refine⟨.ref s.heap.objs.size,_,I.laid (t':=i) (o:=Ku X.prog X.w s.heap.objs.size (d5 (fk z) z.cps.size).length) a (waa _) ⟨⟨_,d⟩,?_,?_⟩,rfl,q _ (I.b4.fresh (waa _))⟩
 ·obtain⟨o,_,_,_,e,_⟩:=d;exact⟨o,e⟩
 ·rintro v x ⟨S,o,j,l,m,e,rest⟩ k;exact⟨S,o,j,l,m,k o e,rest⟩
theorem As:eF X (.builtin "len") (λxs H Q=>∃p n,xs=[.ref p]/\H p=some (Ku X.prog X.w p n)/\Q (.int n) H):=by
 intro b s σ H xs g Q I r h;obtain⟨p,n,rfl,c,q⟩:=h;obtain⟨u,rfl,d⟩:=vals1 r;cases d;obtain⟨⟨S,o,i,j,k,e,hex,hd,_,_,f,a,hn⟩,_⟩:=(show cb X.prog X.w H s.heap p (Ku X.prog X.w p n) from I.b4 p _ c);refine call_len_set e hex hd a (by grind [wdT]) ⟨.int n,H,I.tok _,⟨s.toks+1,?_⟩,q⟩;rw[hn]
end
section
variable{X:Cx}{pins:List (Addr×Obj)}{σ:St}{H:Hp}{s:Shared}
end
section
variable{X:Cx}{st:Stmt}{rest:List Stmt}{t u:TS}{pos:Pos}
end
end L2
namespace Bs
open PySem PySem.Spec PyProof.Rows
noncomputable abbrev ch(x:Str):List Nat:=x.cps.toList
theorem aV(x:Str):(ch x).length=x.length:=by simp[ch,wdt]
theorem cI(h:ch x=ch y):x=y:=by
 obtain⟨a⟩:=x;obtain⟨b⟩:=y;have:a=b:=wfx.mp h;rw[this]
theorem aY(a b:Str):ch (a++b)=ch a++ch b:=by grind [Str.cps_append,Array.toList_append]
theorem HC(c:Nat):ch ⟨#[c]⟩=[c]:=rfl
theorem uI(h:z.length=0):ch z=[]:=by grind [aV]
theorem me(x:Str)(l u:Option Int):wb0 x l u=StrLaws.sliceText x l u:=rfl
theorem Au(x:Str)(j:Nat):ch (wb0 x none (some (j:Int)))=(ch x).take j:=by
 by_cases h:j<=x.length
 ·grind [me,wgG,wdt]
 ·have hn:wbH none (some (j:Int)) 1 x.length=wbH none (some ((x.length:Nat):Int)) 1 x.length:=by
   grind [wbH]
  have e:wb0 x none (some (j:Int))=wb0 x none (some ((x.length:Nat):Int)):=by
   grind [wb0]
  rw[e,me,wgG ⟨by omega,by simp[wdt]⟩];have a:(ch x).length<=j:=by rw[aV];omega
  rw[wbd a];have b:x.cps.toList.take x.cps.size=x.cps.toList:=wbd (by simp);simp[wdt,b]
theorem ow(x:Str)(i:Nat):ch (wb0 x (some (i:Int)) none)=(ch x).drop i:=by
 by_cases h:i<=x.length
 ·rw[me,wgb ⟨by omega,by simp[wdt]at h ⊢;omega⟩];show ((x.cps.toList.drop (i:Int).toNat).take ((x.cps.toList.length:Int)-(i:Int)).toNat).toArray.toList=(ch x).drop i;rw[weI,waG,wbd];rw[wbp];omega
 ·have hn:wbH (some (i:Int)) none 1 x.length=wbH (some ((x.length:Nat):Int)) none 1 x.length:=by
   have a:¬((i:Int)<0):=by omega
   have b:¬(((x.length:Nat):Int)<0):=by omega
   have c:max (0:Int) (min (i:Int) (x.length:Int))=max 0 (min ((x.length:Nat):Int) (x.length:Int)):=by omega
   simp[wbH,a,b,c]
  have e:wb0 x (some (i:Int)) none=wb0 x (some ((x.length:Nat):Int)) none:=by
   unfold wb0;rw[hn]
  rw[e,me,wgb ⟨by omega,by simp[wdt]⟩];have d:(ch x).length<=i:=by rw[aV];omega
  rw[we7 d];simp[wdt]
theorem qS(g:z.length=0):∀ts:List Str,ch (wdw z ts)=(ts.map ch).flatten:=by
 intro ts;unfold wdw Builtin.Str.glued
 have b:z.cps=#[]:=by
  have:=uI g;exact wfx.mp this
 have key:∀(l:List Str) (a:Array Nat),(l.foldl (λa p=>a++z.cps++p.cps) a).toList=a.toList++(l.map ch).flatten:=by
  intro l
  induction l with
  |nil=>grind
  |cons p l c=>
   grind
 cases ts with
 |nil=>rfl
 |cons p l=>
  show ((List.drop 1 (p::l)).foldl (λa q=>a++z.cps++q.cps) p.cps).toList=_;rw[List.drop_one,List.tail_cons,key];rfl
noncomputable def fK:Str:="abcdefghijklmnopqrstuvwxyz0123456789"
structure Av(x:Str):Prop where
 lo:2<=x.length
 hi:x.length<=4
 nd:(ch x).Nodup
 sub:∀c∈ch x,c∈ch fK
structure Drawn(i:Nat)(Kv found:Str):Prop where
 pl:Kv.length+i=36
 fl:found.length=i
 pn:(ch Kv).Nodup
 fn:(ch found).Nodup
 ps:∀c∈ch Kv,c∈ch fK
 fs:∀c∈ch found,c∈ch fK
 ap:∀c∈ch found,c∉ch Kv
theorem Aw:fK.length=36:=by decide+kernel
structure z9(sg w:Str):Prop where
 lo:1<=w.length
 hi:w.length<=5
 sub:∀c∈ch w,c∈ch sg
theorem Fb(j:z.length=0)(p:1<=ts.length)(r:ts.length<=5)(h:∀t∈ts,∃c,t=⟨#[c]⟩/\c∈ch g):z9 g (wdw z ts):=by
 have e:=qS j ts
 have hl:∀(l:List Str),(∀t∈l,∃c,t=⟨#[c]⟩/\c∈ch g)->((l.map ch).flatten).length=l.length/\∀c∈(l.map ch).flatten,c∈ch g:=by
  intro l
  induction l with
  |nil=>intro _;exact⟨rfl,λc h=>by cases h⟩
  |cons t l b=>
   intro a;obtain⟨c,rfl,hc⟩:=a t (waf ..);obtain⟨d,f⟩:=b λt h=>a t (wac _ h);refine⟨by rw[waz,wc5,wa5,d,waK];exact wh6 1 _,λk hk=>?_⟩;rw[waz,wc5]at hk;rcases waA.mp hk with h |h
   ·have:k=c:=by simpa [ch] using h
    subst this;exact hc
   ·exact f k h
 obtain⟨l1,i⟩:=hl ts h;have m:(wdw z ts).length=ts.length:=by rw[<-aV,e,l1]
 exact⟨by omega,by omega,λc hc=>i c (e ▸ hc)⟩
noncomputable def Nk(y x:Str):Bool:=!(wcZ x y 0 x.length 1).isEmpty
theorem E6(x:Str)(c:Nat):Nk ⟨#[c]⟩ x=decide (c∈ch x):=StrLaws.found_one x c
noncomputable def bears(ws:List Str)(r:Str):Bool:=ws.any λw=>Nk w r
noncomputable def di(w:Str)(n:Nat):Str:=wb0 w none (some (n:Int))
theorem Fc(w:Str)(n:Nat):(di w n).length<=w.length:=wez _ _ _
noncomputable def za(ks:List Str)(b:Str):List Str:=if b∈ks then ks else ks++[b]
noncomputable def qT(ws:List Str)(ks:List Str)(b:Str):List Str:=if bears ws b=true then ks else za ks b
theorem HD(ws g:List Str)(b:Str):(qT ws g b).length<=g.length+1:=by
 unfold qT za;split
 ·omega
 ·split
  ·omega
  ·simp
noncomputable def upTo(ws:List Str)(w:Str)(ks:List Str)(n:Nat):List Str:=((waH n).map λi=>di w (1+i)).foldl (qT ws) ks
theorem gy(ws:List Str)(w:Str)(g:List Str)(n:Nat):upTo ws w g (n+1)=qT ws (upTo ws w g n) (di w (1+n)):=by
 unfold upTo;rw[wde,wao,wfc];rfl
theorem uJ(ws:List Str)(w:Str)(g:List Str):∀n,(upTo ws w g n).length<=g.length+n
 |0=>waa _
 |n+1=>by
  rw[gy];have:=uJ ws w g n;have:=HD ws (upTo ws w g n) (di w (1+n));omega
noncomputable def addW(ws:List Str)(ks:List Str)(w:Str):List Str:=upTo ws w ks (w.length-1)
noncomputable def bQ(ws:List Str)(e:Str)(us:List Str):List Str:=us.foldl (addW ws) [e]
theorem Cr(ws:List Str)(e:Str)(us:List Str)(w:Str):bQ ws e (us++[w])=addW ws (bQ ws e us) w:=by
 unfold bQ;rw[wfc];rfl
theorem nC(h:∀w∈us,w.length<=5):(bQ ws e us).length<=1+4*us.length:=by
 have key:∀(us a:List Str),(∀w∈us,w.length<=5)->(us.foldl (addW ws) a).length<=a.length+4*us.length:=by
  intro us
  induction us with
  |nil=>grind
  |cons w us b=>
   grind [addW,wac,uJ]
 exact key us [e] h
theorem Ct(h:g.Nodup):(za g b).Nodup:=by
 unfold za;split
 ·exact h
 ·rename_i d;refine wfd.mpr ⟨h,by simp,λa ha c hc=>?_⟩;have:c=b:=by simpa using hc
  subst this;rintro rfl;exact d ha
theorem Cu(h:g.Nodup):(qT ws g b).Nodup:=by
 unfold qT;split
 ·exact h
 ·exact Ct h
theorem uK(h:g.Nodup):∀n,(upTo ws w g n).Nodup
 |0=>h
 |n+1=>by rw[gy];exact Cu (uK h n)
theorem su(us:List Str):(bQ ws e us).Nodup:=by
 have key:∀(us a:List Str),a.Nodup->(us.foldl (addW ws) a).Nodup:=by
  intro us
  induction us with
  |nil=>intro a h;exact h
  |cons w us b=>intro a h;exact b _ (uK h _)
 exact key us [e] (by simp)
theorem HE(h:k∈g):k∈qT ws g b:=by grind [qT,za,waU]
theorem mem_upTo(h:k∈g):∀n,k∈upTo ws w g n
 |0=>h
 |n+1=>by rw[gy];exact HE (mem_upTo h n)
theorem cn(us:List Str):e∈bQ ws e us:=by
 have key:∀(us a:List Str),e∈a->e∈us.foldl (addW ws) a:=by
  intro us
  induction us with
  |nil=>intro a h;exact h
  |cons w us b=>intro a h;exact b _ (mem_upTo h _)
 exact key us [e] (by simp)
end Bs
namespace L2
open PySem PySem.Spec PyProof.Rows
noncomputable def oy(sc scope:wd6)(N:List Str)(x:Str)(ys:List Str)(ix:List Nat):Bool:=
 (match scope.kind with |.function=>true |_=>false) &&
 (scope.names.all λy=>!decide (y.2=.cell))&&(scope.names.all λy=>!decide (y.2=.local) ||decide (scope.names.lookup y.1=some .local)) &&
 (scope.names.all λy=>!decide (y.2=.free) ||decide (sc.names.lookup y.1=some .cell) ||decide (sc.names.lookup y.1=some .free)) &&
 decide (scope.names.lookup x=some .local)&&decide ((x::ys).Nodup)&&decide (ix.length=ys.length) &&
 ((waH ys.length).all λj=>match ys[j]?,ix[j]? with
   |some y,some i=>decide (N[i]?=some y)&&(decide (sc.names.lookup y=some .cell) ||decide (sc.names.lookup y=some .free))&&decide (scope.names.lookup y=some .free)
   |_,_=>false)
theorem Cv{X:Cx}(g:X.env.scope=l)(r:X.N=N)(h:oy l scope N x ys p=true):bV X scope x ys p:=by
 unfold oy at h;simp only[wbV]at h;obtain⟨⟨⟨⟨⟨⟨⟨b,d⟩,f⟩,k⟩,m⟩,n⟩,o⟩,s⟩:=h;refine⟨?_,λy a=>?_,λy a e=>?_,of_decide_eq_true m,λy a e=>?_,of_decide_eq_true n,of_decide_eq_true o,λj y c=>?_⟩
 ·cases e:scope.kind<;>rw[e]at b<;>first |rfl |cases b
 ·have:=waW.mp d y a;simpa using this
 ·have:=waW.mp f y a;simpa [e] using this
 ·have:=waW.mp k y a;have q:l.names.lookup y.1=some .cell\/l.names.lookup y.1=some .free:=by simpa [e] using this
  show X.env.scope.names.lookup y.1=some .cell\/X.env.scope.names.lookup y.1=some .free;rw[g];exact q
 ·have hl:j<ys.length:=(wa6.mp c).1;have:=waW.mp s j (wb5.mpr hl);rw[c]at this
  cases e:p[j]? with
  |none=>rw[e]at this;cases this
  |some i=>
   rw[e]at this;simp only[wbV,whN,decide_eq_true_eq]at this;exact⟨i,rfl,by rw[r];exact this.1.1,by rw[g];exact this.1.2,this.2⟩
theorem comp_map{Ok:Hp->Prop}{Q:Hp->Prop}(g:V->V)(I:lY J Ok xs)(hl:H l=none)(T:xs.length<=sizeLine)(t:∀j,a8 H j->Ok j)
 (U:∀x p r,x∈xs->a8 H p->(∀j,a8 p j->r (g x) j)->te (some x::C) p r)
 (hd:∀j,a8 H j->j l=some (.lst (xs.map g))->Q j):nN J l C wO te H Q:=
 dU (λ_=>true) g I hl T t (λx p r _ _ q=>q p (a8.refl _)) (λx p r a _ s q=>U x p r a s q) (λj s h=>hd j s (by rw[h,wb6.mpr (λ_ _=>rfl)]))
structure FnAt(K:wa2)(mg:Str->Option Value)(nm:Str)(st:Stmt)(ps:List Str)(f:Addr)(fd:wad):Prop where
 F:Al K nm nm st f fd
 b:Binds K fd ps []
 g:mg nm=some (.ref f)
theorem iM{X:Cx}{K:wa2}(g:X.K=K):nA X (wbk .In) (Sg K false):=by
 subst g;exact qQ
theorem wQ{X:Cx}{K:wa2}(g:X.K=K):nA X (wbk .NotIn) (Sg K true):=by
 subst g;exact kd
theorem gY{X:Cx}{K:wa2}(g:X.K=K):OY X (Q2 K):=by
 subst g;exact bF
theorem wR{X:Cx}{K:wa2}(g:X.K=K):eF X (.builtin "len") (λxs H Q=>∃p ys,xs=[.ref p]/\(aM K H p ys\/gL K H p ys)/\Q (.int ys.length) H):=by
 subst g;exact bx
theorem E7{X:Cx}{K:wa2}{o:Expr}{t:TE}{name:Str}{apos g:Pos}{T id:String}{r:V->List V->Hp->VK->Prop}(C:X.K=K)(I:wgE T)(slot:Slot T name id)(p:typeOf (.builtin id)=pure (.type "method_descriptor"))(J:Kj X id r)(U:PE X o t)
 (j:wct o name X.env (eval o X.env)=eval o X.env:=by rfl) (l:(apos.endLine==g.line)=true:=by rfl):PE X (.Call (.Attribute o name apos) [] [] g) (Q6 K T r t):=by
 subst C;exact Ci I slot p J U j l
theorem nD{X:Cx}{K:wa2}{e:Expr}{f:Str}{pos:Pos}{g:TE}(j:X.K=K)(l:PE X e g)(p:wct e f X.env (eval e X.env)=eval e X.env):PE X (.Attribute e f pos) (PX K g f):=by
 subst j;exact aD l p
theorem HF{c A B:Prop}[Decidable c](h:¬c)(b:B):if c then A else B:=by
 grind
theorem TL{c A B:Prop}[Decidable c](h:c)(a:A):if c then A else B:=by
 grind
theorem av(h:n<=1000000):n<=sizeLine:=waj h (by rw[wcb];decide)
theorem jz(y:Str)(ps:List Str):p7 (.str y) (ps.map V.str)=decide (y∈ps):=by
 unfold p7;rw[wfy]
 induction ps with
 |nil=>rfl
 |cons p ps a=>
  rw[wd3,a];show ((p==y) ||decide (y∈ps))=decide (y∈p::ps)
  by_cases e:p=y
  ·subst e;simp
  ·grind
theorem fv(ps:List Str):(ps.map V.str).all eh=true:=by
 rw[wfw];exact waW.mpr λ_ _=>rfl
noncomputable def Sl(r:Str):V->V:=λv=>match v with
 |.str y=>.bl (Bs.Nk y r)
 |_=>.non
theorem HG(r:Str)(ws:List Str):(ws.map V.str).map (Sl r)=(ws.map λw=>Bs.Nk w r).map V.bl:=by
 rw[wah,wah];rfl
theorem Fd(a b:Str):(eY a).map (Sl b)=((Bs.ch a).map λc=>decide (c∈Bs.ch b)).map V.bl:=by
 unfold eY;rw[wah,wah];refine wb7 λc _=>?_;show V.bl (Bs.Nk ⟨#[c]⟩ b)=V.bl (decide (c∈Bs.ch b));rw[Bs.E6]
noncomputable def lE(ks:List Str):List (Key×V):=ks.map λk=>((wai k:Key),V.bl true)
theorem Cw(g:List Str):(lE g).map (·.1)=g.map (wai:Str->Key):=by
 unfold lE;rw[wah];rfl
theorem Fe(g:List Str)(b:Str):putK (lE g) (wai b:Key) (.bl true)=lE (Bs.za g b):=by
 unfold putK Bs.za
 by_cases h:b∈g
 ·have a:((lE g).any λc=>decide (c.1=(wai b:Key)))=true:=by
   refine wch.mpr ⟨(wai b,.bl true),?_,decide_eq_true rfl⟩;exact wab.mpr ⟨b,h,rfl⟩
  rw[if_pos a,if_pos h];unfold lE;rw[wah];refine wb7 λk _=>?_;show (if (wai k:Key)=wai b then((wai k:Key),V.bl true) else((wai k:Key),V.bl true))=_;split<;>rfl
 ·have a:¬((lE g).any λc=>decide (c.1=(wai b:Key)))=true:=by
   intro z;obtain⟨p,d,e⟩:=wch.mp z;obtain⟨k,hk,rfl⟩:=wab.mp d;have:(wai k:Key)=wai b:=of_decide_eq_true e;have:k=b:=wca this;subst this;exact h hk
  rw[if_neg a,if_neg h];unfold lE;rw[wao];rfl
theorem Ff(g:List Str):(lE g).length=g.length:=by unfold lE;rw[wa0]
theorem pd(h:(Bs.ch x).Nodup):∀i,i<=x.cps.size->d5 (fk x) i=(waH i).map (fk x)
 |0,_=>rfl
 |i+1,hi=>by
  have c:=pd h i (by omega);rw[j9,c,wde,wao];unfold sr;rw[if_neg]
  ·rfl
  ·intro z;obtain⟨y,d,e⟩:=wch.mp z;obtain⟨j,f,rfl⟩:=wab.mp d;have l:j<i:=wb5.mp f;have a:fk x j=fk x i:=eq_of_beq e;unfold fk at a
   have b:x.cps.getD j 0=x.cps.getD i 0:=by
    injection a with m
    have:=congrArg Array.toList m;simpa using this
   have g:∀k,(hk:k<x.cps.size)->x.cps.getD k 0=(Bs.ch x)[k]'(by simpa using hk):=λk hk=>by
    simp[Array.getD,hk]
   rw[g j (by omega),g i (by omega)]at b;have:=(wcg h).mp b;omega
theorem Ax(h:(Bs.ch x).Nodup):(d5 (fk x) x.cps.size).length=x.length:=by
 rw[pd h _ (waa _),wa0,waO];rfl
section
variable{X:Cx}
end
theorem HH{κ:Type}(f:κ->V)(g:κ->Str)(j:∀a b,g a=g b->f a=f b):∀{l:List κ} {c:κ},c∈l->bA (l.map λc=>((wai (g c):Key),f c)) (wai (g c):Key)=some (f c):=by intro a;induction a<;>grind [cj,ck,wca]
end L2
namespace L2
open PySem
structure cP(K:wa2)(C:Addr)(nm qual:Str)(st:Stmt)(ps:List Str)(f:Addr)(fd:wad):Prop where
 F:Al K nm qual st f fd
 b:Binds K fd ps []
 m:Kd K C nm f
end L2
namespace Sx
open PySem L2 Bs
theorem Qi:waV "all"=some (.builtin "all"):=by decide+kernel
theorem Qj:waV "any"=some (.builtin "any"):=by decide+kernel
theorem Kw:waV "sorted"=some (.builtin "sorted"):=by decide+kernel
theorem zb:waV "isinstance"=some (.builtin "isinstance"):=by decide+kernel
theorem Kx:waV "str"=some (.type "str"):=by decide+kernel
theorem iN:waV "list"=some (.type "list"):=by decide+kernel
theorem TN:waV "set"=some (.type "set"):=by decide+kernel
section
variable{P:wau}{w:World}{K:wa2}{mg:Str->Option Value}{base:Heap}{f:Addr}{fd:wad}
inductive Ky(vs:List V)(H:Hp)(Q:VK)(eE:XK):Prop
 |mk (a b) (_:vs=[.str a,.str b]) (_:a.length<=1000) (_:∀H',a8 H H'->Q (.bl ((ch a).all λc=>decide (c∈ch b))) H')
inductive Kz(K:wa2)(vs:List V)(H:Hp)(Q:VK)(eE:XK):Prop
 |mk (r a ws) (_:vs=[.str r,.ref a]) (_:aM K H a (ws.map V.str)) (_:ws.length<=1000) (_:∀H',a8 H H'->Q (.bl (bears ws r)) H')
end
section
variable{P:wau}{w:World}{K:wa2}{mg:Str->Option Value}{base:Heap}{f:Addr}{fd:wad}
inductive Qk(vs:List V)(H:Hp)(Q:VK)(eE:XK):Prop
 |mk (x) (_:vs=[.str x]) (_:Av x) (_:∀H',a8 H H'->Q (.bl true) H')
inductive Ql(vs:List V)(H:Hp)(Q:VK)(eE:XK):Prop
 |mk (t g) (_:vs=[.str t,.str g]) (_:z9 g t) (_:∀H',a8 H H'->Q (.bl true) H')
inductive KA(K:wa2)(vs:List V)(H:Hp)(Q:VK)(eE:XK):Prop
 |mk (a:Addr) (g:Str) (ws:List Str) (_:vs=[.ref a,.str g]) (_:aM K H a (ws.map V.str)) (_:ws.length<=6) (_:(∀w∈ws,z9 g w)) (_:∀H',a8 H H'->Q .non H')
end
end Sx
namespace Bs
open PySem
noncomputable def d9(r:Str)(n:Nat):Str:=wb0 r (some (n:Int)) none
theorem qU(r:Str):d9 r r.length="":=by
 refine cI ?_;show ch (wb0 r (some (r.length:Int)) none)=[];rw[ow];exact we7 (wdN (aV r))
noncomputable def HI(ps:List Str)(r:Str):Nat:=((waH (r.length+1)).find? λn=>decide (d9 r n∈ps)).getD 0
noncomputable def lend(ps:List Str)(r:Str):Str:=d9 r (HI ps r)
theorem uL(g:d9 r n∈ps)(j:∀m,m<n->d9 r m∉ps)(l:n<=r.length):HI ps r=n:=by
 unfold HI
 have e:(waH (r.length+1)).find? (λn=>decide (d9 r n∈ps))=some n:=by
  grind [List.find?_range_eq_some]
 rw[e];rfl
end Bs
namespace L2
open PySem Bs
noncomputable def ub(ws ps:List Str)(p:Str)(c:Nat):V:=if bears ws (p++⟨#[c]⟩)=true then .non else .str (lend ps (p++⟨#[c]⟩))
noncomputable def rowOf(g:Str)(ws ps:List Str)(p:Str):List (Key×V):=(ch g).map λc=>((wai (⟨#[c]⟩:Str):Key),ub ws ps p c)
theorem Fg(g:Str)(ws ps:List Str)(p:Str):(rowOf g ws ps p).length=g.length:=by unfold rowOf;rw[wa0,aV]
theorem Cy(g:Str)(ws ps:List Str)(p:Str):((rowOf g ws ps p).map (·.2)).all eh=true:=by
 unfold rowOf;rw[wah];refine waW.mpr λv a=>?_;obtain⟨c,_,rfl⟩:=wab.mp a;show eh (ub ws ps p c)=true;unfold ub;split<;>rfl
end L2
namespace Sx
open PySem L2 Bs
section
variable{P:wau}{w:World}{K:wa2}{mg:Str->Option Value}{base:Heap}{f:Addr}{fd:wad}
inductive HJ(K:wa2)(vs:List V)(H:Hp)(Q:VK)(eE:XK):Prop
 |mk (a ws) (_:vs=[.ref a]) (_:aM K H a (ws.map V.str)) (_:ws.length<=6) (_:(∀w∈ws,w.length<=5)) (_:∀(l:Addr) (ss:List Str) (H':Hp),a8 H H'->H l=none->H' l=some (.lst (ss.map V.str))->ss.Perm (bQ ws "" ws)->wfI ss=true->Q (.ref l) H')
inductive Nm(K:wa2)(vs:List V)(H:Hp)(Q:VK)(eE:XK):Prop
 |mk (r a ps) (_:vs=[.str r,.ref a]) (_:aM K H a (ps.map V.str)) (_:("":Str)∈ps) (_:r.length<=1000) (_:∀H',a8 H H'->Q (.str (lend ps r)) H')
inductive KB(K:wa2)(vs:List V)(H:Hp)(Q:VK)(eE:XK):Prop
 |mk (p g a b ws ps) (_:vs=[.str p,.str g,.ref a,.ref b]) (_:aM K H a (ws.map V.str)) (_:aM K H b (ps.map V.str)) (_:("":Str)∈ps) (_:p.length<=100) (_:g.length<=10) (_:(ch g).Nodup) (_:ws.length<=1000) (_:∀(d:Addr) (H':Hp),a8 H H'->H d=none->H' d=some (.dK (rowOf g ws ps p))->Q (.ref d) H')
end
end Sx
namespace L2
open PySem Bs
noncomputable def mh(es:List (Key×V))(Nn:List Str):Bool:=(es.map (·.2)).any λe=>p7 e (Nn.map V.str)
theorem HK{e:V}{a b:List Str}(h:∀k∈a,k∈b)(q:p7 e (a.map V.str)=true):p7 e (b.map V.str)=true:=by grind [p7]
theorem Cz{g:List (Key×V)}{a b:List Str}(h:∀k∈a,k∈b)(q:mh g a=true):mh g b=true:=by
 unfold mh at q ⊢;obtain⟨y,c,d⟩:=wch.mp q;exact wch.mpr ⟨y,c,HK h d⟩
structure Qm(ks:List Str)(es:Str->List (Key×V))(ls:List Str):Prop where
 sub:ls.Sublist ks
 Fh:∀k∈ls,mh (es k) ls=true
 most:∀Nn:List Str,(∀k∈Nn,k∈ks/\mh (es k) Nn=true)->∀k∈Nn,k∈ls
theorem y3:∀(a b:List Str),uG (a.map V.str) (b.map V.str)=decide (a=b)
 |[],[]=>rfl
 |[],_::_=>rfl
 |_::_,[]=>rfl
 |x::c,y::d=>by
  show ((x==y)&&uG (c.map V.str) (d.map V.str))=_;rw[y3 c d]
  by_cases e:x=y
  ·grind
  ·grind
noncomputable def cu(mv:List (Str×Addr)):List (Key×V):=mv.map λm=>((wai m.1:Key),V.ref m.2)
theorem iO(mv:List (Str×Addr)):((cu mv).map λg=>kV g.1)=(mv.map (·.1)).map V.str:=by
 unfold cu;rw[wah,wah];rfl
theorem iG(h:k∈mv.map (·.1)):∃a,(k,a)∈mv/\bA (cu mv) (wai k:Key)=some (.ref a):=by
 induction mv with
 |nil=>simp at h
 |cons m mv b=>
  grind [cj,cu,ck]
theorem oz(h:k∉mv.map (·.1)):bA (cu mv) (wai k:Key)=none:=by
 cases q:bA (cu mv) (wai k:Key) with
 |none=>rfl
 |some v=>
  have:=yZ q;unfold cu at this;rw[wah]at this;obtain⟨m,a,e⟩:=wab.mp this;have b:m.1=k:=wca e;exact absurd (wab.mpr ⟨m,a,b⟩) h
end L2
namespace Sx
open PySem L2 Bs
section
variable{P:wau}{w:World}{K:wa2}{mg:Str->Option Value}{base:Heap}{f:Addr}{fd:wad}
noncomputable def Qn(ls:List V):V->V:=λv=>.bl (p7 v ls)
inductive KC(K:wa2)(vs:List V)(H:Hp)(Q:VK)(eE:XK):Prop
 |mk (a b es ls) (_:vs=[.ref a,.ref b]) (_:aM K H a es) (_:aM K H b ls) (_:es.all eh=true) (_:ls.all eh=true) (_:es.length<=1000) (_:∀H',a8 H H'->Q (.bl (es.any λe=>p7 e ls)) H')
inductive Np(K:wa2)(vs:List V)(H:Hp)(Q:VK)(eE:XK):Prop
 |mk (d mv es) (_:vs=[.ref d]) (_:H d=some (.dK (cu mv))) (_:mv.length<=1000) (_:(∀m∈mv,H m.2=some (.dK (es m.1)))) (_:(∀k,((es k).map (·.2)).all eh=true)) (_:(∀k,(es k).length<=1000)) (_:∀(l:Addr) (ls:List Str) (H':Hp),a8 H H'->H l=none->H' l=some (.lst (ls.map V.str))->Qm (mv.map (·.1)) es ls->Q (.ref l) H')
end
noncomputable def CA(g:Str)(b d q:Addr):List (Str×V):=[("signs",.str g),("barred",.ref b),("moves",.ref d),("lasting",.ref q)]
noncomputable def Sn(g:Str):List (Str×V):=[("signs",.str g)]
noncomputable def P4(g:Str)(b:Addr):List (Str×V):=[("signs",.str g),("barred",.ref b)]
noncomputable def Nq(g:Str)(b d:Addr):List (Str×V):=[("signs",.str g),("barred",.ref b),("moves",.ref d)]
theorem Nr(g:Str):cH "signs" (.str g) []=Sn g:=rfl
theorem put2(g:Str)(b:Addr):cH "barred" (.ref b) (Sn g)=P4 g b:=by
 show (if ("signs":Str)="barred" then(("signs":Str),V.ref b)::[] else(("signs":Str),V.str g)::cH "barred" (.ref b) [])=_;rw[if_neg (by decide+kernel)];rfl
theorem put3(g:Str)(b d:Addr):cH "moves" (.ref d) (P4 g b)=Nq g b d:=by
 show (if ("signs":Str)="moves" then(("signs":Str),V.ref d)::[(("barred":Str),V.ref b)] else(("signs":Str),V.str g)::(if ("barred":Str)="moves" then(("barred":Str),V.ref d)::[] else(("barred":Str),V.ref b)::cH "moves" (.ref d) []))=_;rw[if_neg (by decide+kernel),if_neg (by decide+kernel)];rfl
theorem Fi(g:Str)(b d q:Addr):cH "lasting" (.ref q) (Nq g b d)=CA g b d q:=by
 show (if ("signs":Str)="lasting" then(("signs":Str),V.ref q)::[(("barred":Str),V.ref b),(("moves":Str),V.ref d)] else(("signs":Str),V.str g)::(if ("barred":Str)="lasting" then(("barred":Str),V.ref q)::[(("moves":Str),V.ref d)] else(("barred":Str),V.ref b)::(if ("moves":Str)="lasting" then(("moves":Str),V.ref q)::[] else(("moves":Str),V.ref d)::cH "lasting" (.ref q) [])))=_;rw[if_neg (by decide+kernel),if_neg (by decide+kernel),if_neg (by decide+kernel)];rfl
theorem mj(g:Str)(b d:Addr):(Nq g b d).lookup ("moves":Str)=some (.ref d):=by
 rw[<-put3,aE,if_pos rfl]
theorem km(g:Str)(b d q:Addr):(CA g b d q).lookup ("moves":Str)=some (.ref d):=by
 rw[<-Fi,aE,if_neg (by decide+kernel)];exact mj g b d
structure aX(C:Addr)(H:Hp)(x:Addr)(g:Str)(ws ss ls:List Str):Prop where
 ex:∃(dx b d q:Addr) (mv:List (Str×Addr)),H x=some (.ins C dx (CA g b d q))/\H b=some (.lst (ws.map V.str))/\H d=some (.dK (cu mv))/\mv.map (·.1)=ss/\(∀m∈mv,H m.2=some (.dK (rowOf g ws ss m.1)))/\H q=some (.lst (ls.map V.str))
 pm:ss.Perm (bQ ws "" ws)
 so:wfI ss=true
 lv:Qm ss (rowOf g ws ss) ls
theorem aX.same(B:aX C H x g ws ss ls)(s:a8 H j):aX C j x g ws ss ls:=by
 obtain⟨⟨a,b,d,q,c,e,f,h,i,k,n⟩,p,o,l⟩:=B;exact⟨⟨a,b,d,q,c,s _ _ e,s _ _ f,s _ _ h,i,λm r=>s _ _ (k m r),s _ _ n⟩,p,o,l⟩
section
variable{P:wau}{w:World}{K:wa2}{mg:Str->Option Value}{base:Heap}{f:Addr}{fd:wad}
inductive Nt(K:wa2)(C:Addr)(vs:List V)(H:Hp)(Q:VK)(eE:XK):Prop
 |mk (x dx g a ws) (_:vs=[.ref x,.str g,.ref a]) (_:H x=some (.ins C dx [])) (_:aM K H a (ws.map V.str)) (_:Av g) (_:ws.length<=6) (_:(∀w∈ws,z9 g w)) (_:∀(ss ls:List Str) (H':Hp),aX C H' x g ws ss ls->(∀b o,H b=some o->b≠x->H' b=some o)->Q .non H')
theorem Fj(hw:∀w∈ws,w.length<=5):∀k∈bQ ws "" ws,k.length<=5:=by
 have h1:∀(w:Str),w.length<=5->∀(n:Nat) (ks:List Str),(∀k∈ks,k.length<=5)->∀k∈upTo ws w ks n,k.length<=5:=by
  intro w Ay n
  induction n with
  |zero=>intro ks h;exact h
  |succ n ih=>
   intro ks h k hk;rw[gy]at hk;unfold qT za at hk;split at hk
   ·exact ih ks h k hk
   ·split at hk
    ·exact ih ks h k hk
    ·rcases waA.mp hk with z |z
     ·exact ih ks h k z
     ·have:k=di w (1+n):=by simpa using z
      rw[this];exact waj (Fc _ _) Ay
 have h2:∀(us ks:List Str),(∀w∈us,w.length<=5)->(∀k∈ks,k.length<=5)->∀k∈us.foldl (addW ws) ks,k.length<=5:=by
  intro us
  induction us with
  |nil=>intro ks _ h;exact h
  |cons w us ih=>intro ks hu h;exact ih _ (λv hv=>hu v (wac _ hv)) (h1 w (hu w (waf ..)) _ ks h)
 exact h2 ws [""] hw (λk hk=>by have:k="":=by simpa using hk
                                subst this
                                decide+kernel)
inductive HL(C:Addr)(vs:List V)(H:Hp)(Q:VK)(eE:XK):Prop
 |mk (x g ws ss ls) (_:vs=[.ref x]) (_:aX C H x g ws ss ls) (_:∀(l:Addr) (H':Hp),a8 H H'->H l=none->H' l=some (.lst (ss.map V.str))->Q (.ref l) H')
end
section
variable{P:wau}{w:World}{K:wa2}{mg:Str->Option Value}{base:Heap}{f:Addr}{fd:wad}
end
end Sx
namespace L2
open PySem PySem.Spec PyProof.Rows
theorem HM{Ok:Hp->Prop}{Q:Hp->Prop}(R:V->Prop)(r:lY J Ok xs)(hl:H l=none)(C:xs.length<=sizeLine)(j:∀g,a8 H g->Ok g)
 (T:∀x p I,x∈xs->a8 H p->(∀y g,R y->a8 p g->I y g)->U (some x::t) p I)
 (hd:∀ys g,a8 H g->ys.length=xs.length->(∀y∈ys,R y)->g l=some (.lst ys)->Q g):nN J l t wO U H Q:=by
 refine⟨λi m ys a=>m=xs.length-i/\i<=xs.length/\a8 H a/\a l=some (.lst ys)/\ys.length=i/\∀y∈ys,R y,⟨xs.length,by simp,waB _,a8.upd hl,a6,rfl,λy f=>(nomatch f)⟩,?_⟩;rintro i m ys a ⟨rfl,hi,d,h,k,n⟩;refine⟨h,?_⟩
 by_cases c:i<xs.length
 ·refine .inr ⟨r.go i a (j _ d) c,by omega,λx p y=>?_⟩;obtain⟨e,u⟩:=r.u0 i a x p (j _ d) c y;subst e;unfold wO;dsimp only;rw[if_pos rfl];refine T x _ _ (wa9 u) d λz v C s=>?_;refine⟨s _ _ h,xs.length-(i+1),by omega,rfl,c,?_,a6,by simp[k],λy f=>?_⟩
  ·intro b o e;rw[ae (af e hl)];exact s _ _ (d _ _ e)
  ·rcases waA.mp f with q |q
   ·exact n y q
   ·have:y=z:=by simpa using q
    subst this;exact C
 ·have e:i=xs.length:=by omega
  subst e;exact .inl ⟨r.stop a (j _ d),hd ys a d k n h⟩
theorem E8{R:Str->Prop}:∀{ys:List V},(∀y∈ys,∃t,y=.str t/\R t)->∃ts:List Str,ys=ts.map V.str/\∀t∈ts,R t
 |[],_=>⟨[],rfl,λ_ h=>nomatch h⟩
 |y::ys,h=>by
  obtain⟨t,rfl,c⟩:=h y (waf ..);obtain⟨ts,rfl,a⟩:=E8 (R:=R) (ys:=ys) λy d=>h y (wac _ d);refine⟨t::ts,rfl,λu b=>?_⟩;rcases waC.mp b with rfl |b
  ·exact c
  ·exact a u b
end L2
namespace Sx
open PySem L2 Bs
section
variable{P:wau}{w:World}{K:wa2}{mg:Str->Option Value}{base:Heap}{f:Addr}{fd:wad}
end
end Sx
namespace L2
open PySem Bs
noncomputable def roundF(ss:List Str)(es:Str->List (Key×V))(Nn:List Str):List Str:=ss.filter λp=>mh (es p) Nn
noncomputable def rounds(ss:List Str)(es:Str->List (Key×V)):Nat->List Str
 |0=>ss
 |n+1=>roundF ss es (rounds ss es n)
theorem E9(h:c∈ch g):bA (rowOf g ws ps p) (wai (⟨#[c]⟩:Str):Key)=some (ub ws ps p c):=
 HH (ub ws ps p) (λc=>(⟨#[c]⟩:Str)) (λa b e=>by
  grind) h
end L2
namespace Sx
open PySem L2 Bs
theorem y4(g:Str)(b d q:Addr):(CA g b d q).lookup ("lasting":Str)=some (.ref q):=by
 rw[<-Fi,aE,if_pos rfl]
theorem CC(g:Str)(b d q:Addr){m:Str}(j:¬m="signs")(l:¬m="barred")(p:¬m="moves")(r:¬m="lasting"):(CA g b d q).lookup m=none:=by
 rw[<-Fi,aE,if_neg r,<-put3,aE,if_neg p,<-put2,aE,if_neg l,<-Nr,aE,if_neg j];rfl
theorem aX.nd(B:aX C H x g ws ss ls):ss.Nodup:=B.pm.nodup_iff.mpr (su ws)
section
variable{P:wau}{w:World}{K:wa2}{mg:Str->Option Value}{base:Heap}{f:Addr}{fd:wad}
inductive KD(C:Addr)(vs:List V)(H:Hp)(Q:VK)(eE:XK):Prop
 |mk (x g ws ss ls) (_:vs=[.ref x]) (_:aX C H x g ws ss ls) (_:∀(l:Addr) (H':Hp),a8 H H'->H l=none->H' l=some (.lst (ls.map V.str))->Q (.ref l) H')
inductive TQ(C:Addr)(vs:List V)(H:Hp)(Q:VK)(eE:XK):Prop
 |mk (x p g ws ss ls) (_:vs=[.ref x,.str p]) (_:aX C H x g ws ss ls) (_:p∈ss) (_:Q .non H)
inductive Qo(C:Addr)(vs:List V)(H:Hp)(Q:VK)(eE:XK):Prop
 |mk (x p c g ws ss ls) (_:vs=[.ref x,.str p,.str ⟨#[c]⟩]) (_:aX C H x g ws ss ls) (_:p∈ss) (_:c∈ch g) (_:Q (ub ws ss p c) H)
end
structure Raw(K:wa2)(nm qual:Str)(st:Stmt)(f:Addr):Prop where
 ex:∃(oc:Value) (od:Option Addr) (kV doc pm:Value) (an:Option Addr) (hX ct:Value) (Hs:Array (Option Value)),
  K.lookup f=some ⟨oc,od,.func (wcp nm qual (dJ st) (cf st) (aI st) .none kV doc pm an hX ct),Hs⟩/\we0 K hX qual=true
 kp:wcT K (.ref f)=true
theorem CD{K:wa2}{nm g:Str}{st:Stmt}{f:Addr}{t:Value}{C I:Option Addr}{p:Array (Option Value)}{kV r pm j ct:Value}(l:K.lookup f=some ⟨t,C,.func (wcp nm g (dJ st) (cf st) (aI st) .none kV r pm I j ct),p⟩)
 (c:we0 K j g=true) (k:wcT K (.ref f)=true):Raw K nm g st f:=⟨⟨t,C,kV,r,pm,I,j,ct,p,l,c⟩,k⟩
theorem Raw.fn(R:Raw K nm g st f)
 (h:∀(kV j pm:Value) (r:Option Addr) (p ct:Value) (us:List Value),us.length=ps.length->bindArgs (wcp nm g (dJ st) (cf st) (aI st) .none kV j pm r p ct) ⟨us,[]⟩=pure (ps.zip us)) :
 ∃fd,Al K nm g st f fd/\Binds K fd ps []:=by
 obtain⟨⟨b,d,kV,j,pm,r,p,ct,a,l,c⟩,k⟩:=R;have F:=Ht (st:=st) l c k;exact⟨_,F,F.binds h⟩
theorem Raw.at_{mg:Str->Option Value}(X:K.In l)(G:l.Ns waQ mg)(a:PySem.W.nsIn K waQ nm=some (some (.ref f)))(R:Raw K nm nm st f)
 (h:∀(kV g pm:Value) (p:Option Addr) (j ct:Value) (us:List Value),us.length=ps.length->bindArgs (wcp nm nm (dJ st) (cf st) (aI st) .none kV g pm p j ct) ⟨us,[]⟩=pure (ps.zip us)) :
 ∃fd,FnAt K mg nm st ps f fd:=by
 obtain⟨fd,F,b⟩:=R.fn h;exact⟨fd,F,b,PySem.W.mg_of X G a⟩
theorem gZ{ss:List Str}{i:Nat}{y:V}(h:(ss.map V.str)[i]?=some y):∃p,ss[i]?=some p/\y=.str p/\i<ss.length/\p∈ss/\ss.take (i+1)=ss.take i++[p]:=by
 rw[wa4]at h
 cases e:ss[i]? with
 |none=>rw[e]at h;cases h
 |some z=>
  rw[e]at h;exact⟨z,rfl,(wag h).symm,(wa6.mp e).1,wa9 e,by rw[waN,e];rfl⟩
theorem Fl(h:(eY g)[i]?=some y):∃c,(ch g)[i]?=some c/\y=.str ⟨#[c]⟩/\i<(ch g).length/\c∈ch g/\(ch g).take (i+1)=(ch g).take i++[c]:=by
 unfold eY at h;rw[wa4]at h
 cases e:(ch g)[i]? with
 |none=>rw[show g.cps.toList[i]?=none from e]at h;cases h
 |some z=>
  rw[show g.cps.toList[i]?=some z from e]at h;exact⟨z,rfl,(wag h).symm,(wa6.mp e).1,wa9 e,by rw[waN,e];rfl⟩
theorem CF(g:Str):(eY g).length=g.length:=by grind [eY,aV]
inductive Ea(K:wa2)(vs:List V)(H:Hp)(Q:VK)(eE:XK):Prop
 |mk (a:Addr) (ns:List Int) (_:vs=[.ref a]) (_:aM K H a (ns.map V.int)) (_:ns.length<=63) (_:∀H',Q (.bl true) H')
end Sx
namespace L2
open PySem PySem.Spec PyProof.Rows
section
variable{X:Cx}{st:Stmt}{rest:List Stmt}{t u:TS}
inductive TR(t u:TS)(D:Ends)(σ:St)(H:Hp):Prop
 |mk (Z) (_:t {D with nx:=Z} σ H) (_:∀σ' H',Z σ' H'->u D σ' H')
theorem KG(g:PS X st t)(j:wI X rest u):wI X (st::rest) (TR t u):=by
 intro a s σ H D I h;obtain⟨Z,d,e⟩:=h;refine wcV (bO (g a s σ H {D with nx:=Z} I d) λf i q=>?_)
 cases f with
 |next=>
  obtain⟨b,c,k,q⟩:=q;exact j a i b c D k (e b c q)
 |ret v=>exact q
 |brk=>exact q
 |cont=>exact q
end
theorem Eb(xs:List V)(n:Nat):m6 xs none (some (n:Int))=xs.take n:=by simp_all [m6,HT.Af,weO,Nat.sub_zero,if_neg,wdI,Nat.min_eq_right,waI,wbd]
end L2
namespace Sx
open PySem L2 Bs
noncomputable def one(c:Nat):Str:=⟨#[c]⟩
theorem fz(nx:g x=none)(j:g l=none):a8 g (upd (upd g l p) x o2):=λb o e=>by rw[ae (af e nx),ae (af e j)];exact e
theorem aX.few(B:aX C H x g ws ss ls)(hl:ws.length<=6)(hw:∀w∈ws,z9 g w):ss.length<=25:=by
 have:=nC (ws:=ws) (e:="") (us:=ws) λw a=>(hw w a).hi;rw[B.pm.length_eq];omega
end Sx
namespace L2
open PySem PySem.Spec PyProof.Rows PySem.W
section
variable{prog:wau}{w:World}{A:Around}{R:wd8->Shared->Prop}{h:Heap}{g:Array wdr}{d:Drawn}{t:Nat}{os:wbS}
variable{nm q:Str}{C N:Addr}{bs bm bmB:List Value}{hdct:Bool}{sn:List Str}{sub:List Value}{ab:Bool}{col:Option Bool}{dd:Option Addr}{k0 k1 k2 k3 k5:Option Value}{B newId TU:String}
noncomputable abbrev fm(C t:Addr):Obj:={cls:=.ref C,data:=.fields #[.ref t,.none,.none,.none,.bool false,.none]}
noncomputable abbrev qV(vs:List Value):Obj:={cls:=.type "tuple",data:=.seq vs.toArray}
end
end L2
namespace L2
open PySem PySem.Spec PyProof.Rows PySem.W
open Builtin Builtin.ObjectAttr
noncomputable abbrev Sq:List Value:=[.type "ValueError",.type "Exception",.type "BaseException",.type "object"]
noncomputable abbrev oA(CB:Addr):List Value:=.ref CB::Sq
section
variable{prog:wau}{w:World}{A:Around}{E:Value->Shared->Prop}{s:Shared}{K:wa2}{x dx C CB f:Addr}{mA:Str->Option Value}{name:Str}{v:Value}{R:wd8->Shared->Prop}
theorem y6(X:K.In s.heap)(I:InstAt s.heap x ox C od)(hc:clsIn K C=some cd)(hm:cd.mro=.ref C::oA CB)(ha:findIn K (.ref C) name=some none)
 (h:wpAny (model prog w) A.in1 (storeInOwnDict (.ref x) (.ref C) (.str name tk) name v false)
   (λfin s'=>match fin with |.done f=>R (.ok f) s' |.again c'=>c'.quiet=true/\codeAny (model prog w) A c' R s') (λe s'=>R (.error e) s') s) :
 codeAny (model prog w) A (.call (.builtin "object.__setattr__") ⟨[.ref x,.str name tk,v],[]⟩) R s:=by
 have SF:=PySem.F.store_object;have sub:Looks (model prog w) s.heap (isInstance (.ref x) (.type "object")) true:=I.type.andThen (looks_mroIn X (by unfold mroIn;rw[hc,Option.bind_some,hm];rfl));refine wcR SF.slot.plain SF.entry (@check_slot (model prog w) _ _ s "object.__setattr__" "object" "__setattr__" (.ref x) [.str name tk,v] [] _ SF.kind SF.split sub (SF.args (.ref x) (.str name tk) v) ?_);have TV:Looks (model prog w) s.heap (mroOf (.ref C)) cd.mro:=(we4 X hc).andThen .now;have L3:Looks (model prog w) s.heap (storeTaker? none) none:=.now;rw[osa_eq,refuse_eq];refine wa7 (wa7 (I.type.here (wa7 (TV.here ?_))));rw[hm,refuseLoop_ref,refuseLoop_ref,PySem.F.store_ValueError.passes];refine wax (wa7 (I.type.here (wa7 ((weN X ha).here (wa7 (L3.here ?_))))));exact h
theorem HN{Q:Unit->Shared->Prop}(X:K.In s.heap)(hx:s.heap.get? x=some (fm C t))(hc:clsIn K C=some cd)(hm:cd.mro=.ref C::oA CB)(hh:cd.hasDict=true)(ha:findIn K (.ref C) name=some none)
 (hs:findIn K (.ref C) "__setattr__"=some (some (.builtin "object.__setattr__")))
 (h:∀h' d tk,s.heap.objs.size<=d->(∀b o,b≠x->s.heap.get? b=some o->h'.get? b=some o)->h'.get? x=some {cls:=.ref C,dict:=some d,data:=.fields #[.ref t,.none,.none,.none,.bool false,.none]}->h'.Ns1 d (λy=>if y=name then some v else none)->Q () {s with heap:=h',toks:=tk}) :
 wpAny (model prog w) A (setAttr (.ref x) name v) Q E s:=by
 have J:InstAt s.heap x (fm C t) C none:=⟨hx,rfl,rfl,trivial⟩;refine wf7 X J hs (y6 (s:={s with toks:=s.toks+1}) X J hc hm ha ?_);unfold storeInOwnDict;refine wa7 (wax ?_);rw[if_neg (by simp)];unfold ownDictForStores instanceDict;refine wa7 (wa7 (wgl hx ?_));dsimp only;refine wa7 (weV (s:={s with toks:=s.toks+1}) (we4 X hc) ?_);rw[hh];have W2:(s.heap.push {cls:=.type "dict",data:=.dict #[]}).get? x=some (fm C t):=wa8 _ hx;have W3:x≠s.heap.objs.size:=war (wae hx);simp only[wgO,wbW,if_false,Bool.not_false,Bool.false_or];rw[if_neg (by simp[typeHasDict])];refine wa7 (wpAny_alloc ?_);refine wa7 (wpAny_update W2 ?_);refine wax ?_
 have Sr:((s.heap.push {cls:=.type "dict",data:=.dict #[]}).update x λo=>{cls:=o.cls,dict:=some s.heap.objs.size,data:=o.data,slots:=o.slots}).get? s.heap.objs.size
  =some {cls:=.type "dict",data:=.dict #[]}:=(wgS _ _ _ _ W3.symm).trans (Heap.get?_push_at rfl rfl)
 have TX:((s.heap.push {cls:=.type "dict",data:=.dict #[]}).update x λo=>{cls:=o.cls,dict:=some s.heap.objs.size,data:=o.data,slots:=o.slots}).Ns s.heap.objs.size (λ_=>none):=
  ⟨_,#[],_,Sr,rfl,λe he=>absurd he (by simp),λ_=>rfl⟩
 show wpAny _ _ (storeInDict s.heap.objs.size (.str name s.toks) name v) _ _ _;unfold storeInDict newKeyGuard;refine wa7 (wax (wa7 (wh1 (whf TX) λh' BW Hx=>?_)));obtain⟨oD,YF,YG,TY,W5,W6⟩:=BW.count (wfU name v Within.nil);refine wa7 (wfq TY (by rw[W5];exact wfr (waj W6 (by grind))) ?_)
 wp_walk
 refine h h' s.heap.objs.size _ (waa _) (λb ob YH hb=>?_) ?_ BW
 ·exact(Hx.2 b (war (wae hb))).trans ((wgS _ _ _ _ YH).trans (wa8 _ hb))
 ·exact(Hx.2 x W3).trans (wbB _ W2 rfl)
end
section
variable{prog:wau}{w:World}{A:Around}{E:Value->Shared->Prop}{s:Shared}{K:wa2}{x dx C CB f:Addr}{mA:Str->Option Value}{name:Str}{v:Value}{R:wd8->Shared->Prop}
end
section
variable{prog:wau}{w:World}{A:Around}{E:Value->Shared->Prop}{s:Shared}{K:wa2}{x dx C CB f:Addr}{mA:Str->Option Value}{name:Str}{v:Value}{R:wd8->Shared->Prop}{nm q:Str}{N:Addr}{bs:List Value}{sn:List Str}{sub:List Value}{ab:Bool}{col:Option Bool}{dd:Option Addr}{k0 k1 k2 k3 k5:Option Value}
theorem uM(X:K.In s.heap)(j:s.heap.get? x=some (fm C t))(hk:K.lookup C=some (wbs nm q C N bs (oA CB) true sn sub ab col dd k0 k1 k2 k3 k5 "ValueError.__new__"))
 (h:∀h' t',(∀b o,b≠x->s.heap.get? b=some o->h'.get? b=some o)->h'.get? x=some (fm C t')->R (.ok (.ret .none)) {s with heap:=h'}) :
 codeAny (model prog w) A (.call (.builtin "ValueError.__init__") ⟨[.ref x,u],[]⟩) R s:=by
 have F:=wcf;have f:=X _ _ hk;have J:InstAt s.heap x (fm C t) C none:=⟨j,rfl,rfl,trivial⟩;have sub:Looks (model prog w) s.heap (isInstance (.ref x) (.type "ValueError")) true:=J.type.andThen (looks_mroIn X (by unfold mroIn clsIn;rw[hk];rfl));refine wcR F.init.plain F.initEntry ?_;simp only[wef,F.initKind,F.initSplit,F.initRow];refine wa7 (sub.here ?_);simp only[wgO,wbW,if_false];have a:=F.noStar;obtain⟨c,g,d,l,os⟩:=s
 repeat (first |with_reducible refine wbb f ?_ |wp_step)
 have i:x≠c.objs.size:=war (wae j);refine h _ c.objs.size (λb o k e=>?_) ?_
 ·rw[waR _ _ (wb9 k)];exact wa8 _ e
 ·exact wbB _ (wa8 _ j) rfl
theorem CG{Q:Value->Shared->Prop}(X:K.In s.heap)(g:s.heap.get? x=some (fm C t))(hk:K.lookup C=some (wbs nm q C N bs (oA CB) true sn sub ab col dd k0 k1 k2 k3 k5 "ValueError.__new__"))
 (h:∀h' t',(∀b o,b≠x->s.heap.get? b=some o->h'.get? b=some o)->h'.get? x=some (fm C t')->Q .none {s with heap:=h'}) :
 wpAny (model prog w) A (call (.builtin "ValueError.__init__") [.ref x,u]) Q E s:=wda (uM X g hk h)
end
end L2
namespace L2
open PySem PySem.Spec PyProof.Rows
structure JY(lo:Nat)(H:Hp)(h:Heap)(e C:Addr)(od:Option Addr):Prop where
 ge:lo<=e
 nt:H e=none
 ob:∃vs sl,h.get? e=some ⟨.ref C,od,.fields vs,sl⟩/\1<vs.size /\
  (vs[1]?=some .none\/∃T oT ts,vs[1]?=some (.ref T)/\lo<=T/\H T=none/\T≠e/\h.get? T=some oT/\oT.data=.fields ts/\ts[3]?=some .none)
theorem JY.low{lo j:Nat}{H:Hp}{h:Heap}{e C:Addr}{l:Option Addr}(F:JY lo H h e C l)(hl:j<=lo):JY j H h e C l:=by
 obtain⟨g,n,i,sl,k,m,f⟩:=F;refine⟨waj hl g,n,i,sl,k,m,?_⟩;rcases f with f |⟨T,o,p,a,b,c,d⟩
 ·exact .inl f
 ·exact .inr ⟨T,o,p,a,waj hl b,c,d⟩
section
variable{M:Model}{A:Around}{E:Value->Shared->Prop}{s:Shared}{base:Heap}{env:Env}{outer:List Env}{L e C:Addr}{od:Option Addr}{lo:Nat}{H:Hp}
structure Fm(lo:Nat)(H:Hp)(fs:List Addr)(h h':Heap):Prop where
 keep:∀b o,h.get? b=some o->(b<lo\/H b≠none)->b∉fs->h'.get? b=some o
 slot:∀b o,h.get? b=some o->b∈fs->∃sl,h'.get? b=some {o with slots:=sl}
theorem y7{Q:Unit->Shared->Prop}
 (Qp:A.frames=some (env::outer)) (hl:s.heap.FunFrames base (env::outer)) (hf:env.frame=some L) (Qq:lo<=s.heap.objs.size) (Qr:∀b,s.heap.objs.size<=b->H b=none) (Qs:lo<=e) (W8:H e=none)
 (he:s.heap.get? e=some oe) (A5:oe.cls=.ref C) (Wa:oe.dict=od) (hd:oe.data=.fields vs) (hsz:1<vs.size)
 (h:∀h',JY lo H h' e C od->Fm lo H ((env::outer).filterMap (·.frame)) s.heap h'->Q () {s with heap:=h'}) :
 wpAny M A (do let a <-frameOf env;let pl <-entryPlaceOf L Ss;let b <-wgT head a .none (rawInt L) .none pl;setField (.ref e) 1 b) (λ_ s'=>wpAny M A (wfZ (.ref e) none) Q E s') E s:=by
 have Qt:e∉(env::outer).filterMap (·.frame):=λhm=>by
  obtain⟨_,o,ho,TZ⟩:=hl.mem hm;rw[he]at ho;injection ho with ho;subst ho;exact TZ vs hd
 refine wa7 (wpAny_frameOf_fun Qp hl hf λh₁ Qu=>?_);refine wa7 (wpAny_entryPlaceOf λpl KH=>?_);unfold wgT newFields;refine wa7 (wfb ?_ (KH.sizeOk5 _ _ _ _ _));have Wb:h₁.get? e=some oe:=(Qu.2.1 e Qt).trans he;have Wc:=wa8 (h:=h₁) {cls:=.type "traceback",dict:=none,data:=.fields ([head,.ref L,.none,rawInt L,.none]++(if pl.isEmpty then wam 6 wbA else pl)).toArray} Wb;refine weP Wc hd hsz ?_;have Ks:h₁.objs.size≠e:=wbU (wae Wb);have Wd:=wdf hd (·.setIfInBounds 1 (wan h₁.objs.size));have We:=wbB (wd4 (·.setIfInBounds 1 (wan h₁.objs.size))) Wc (wel Wd)
 have Wf:=(waR (h₁.push {cls:=.type "traceback",dict:=none,data:=.fields ([head,.ref L,.none,rawInt L,.none]++(if pl.isEmpty then wam 6 wbA else pl)).toArray})
  (wd4 (·.setIfInBounds 1 (wan h₁.objs.size))) (wb9 Ks)).trans (waq h₁ rfl)
 unfold wfZ;refine wa7 (we8 We Wd (x:=.ref h₁.objs.size) (by simp[hsz]) ?_);rw[if_pos (show (wan h₁.objs.size != wbA)=true from by simp)];refine weP Wf rfl (by simp only[waE,wa5,waK,wfX]<;>omega) (h _ ?_ ?_)
 ·refine⟨Qs,W8,vs.setIfInBounds 1 (.ref h₁.objs.size),oe.slots,?_,by simpa using hsz,.inr ⟨h₁.objs.size,_,_,by simp[hsz],by rw[Qu.1];exact Qq,Qr _ (by rw[Qu.1];exact waa _),Ks,
   wbB _ Wf (wel (wdf rfl _)),wdf rfl _,by first |(simp;done) |(rcases KH with rfl |⟨_,_,_,_,_,_,_,rfl⟩<;>simp)⟩⟩
  rw[waR _ _ Ks,We];obtain⟨c,d,dt,sl⟩:=oe;dsimp only at A5 Wa hd;subst A5 Wa hd;rfl
 ·have keep:∀b o,b≠e->h₁.get? b=some o ->
   (((h₁.push {cls:=.type "traceback",dict:=none,data:=.fields ([head,.ref L,.none,rawInt L,.none]++(if pl.isEmpty then wam 6 wbA else pl)).toArray}).update e (wd4 (·.setIfInBounds 1 (wan h₁.objs.size)))).update h₁.objs.size
     (wd4 (·.setIfInBounds 3 ((none:Option Addr).elim wbA λf=>rawInt f)))).get? b=some o:=λb o YJ hb=>by
   have YK:h₁.objs.size≠b:=wbU (wae hb);rw[waR _ _ YK,waR _ _ (wb9 YJ)];exact wa8 _ hb
  refine⟨λb o hb hx TZ=>keep b o ?_ ((Qu.2.1 b TZ).trans hb),λb o hb hm=>?_⟩
  ·rintro rfl;rcases hx with hx |hx
   ·exact absurd (waw hx Qs) (wbh _)
   ·exact hx W8
  ·obtain⟨sl,hs⟩:=Qu.2.2 b o hb;exact⟨sl,keep b _ (λz=>Qt (z ▸ hm)) hs⟩
theorem Az{Q:Unit->Shared->Prop}(p:A.frames=some (env::outer))(hl:s.heap.FunFrames base (env::outer))(I:env.frame=some L)(r:lo<=s.heap.objs.size)(g:∀b,s.heap.objs.size<=b->H b=none)
 (F:JY lo H s.heap e C od) (h:∀h',JY lo H h' e C od->Fm lo H ((env::outer).filterMap (·.frame)) s.heap h'->Q () {s with heap:=h'}) :
 wpAny M A (noteFrame (.ref e) env) (λ_ s'=>wpAny M A (wfZ (.ref e) none) Q E s') E s:=by
 obtain⟨m,n,z,sl,v,t,k⟩:=F;unfold noteFrame;simp only[I];rcases k with k |⟨T,N,B,G,u,x,y,w,i,k⟩
 ·refine wa7 (we8 v rfl k ?_);rw[if_neg (by decide)];exact y7 p hl I r g m n v rfl rfl rfl t h
 ·refine wa7 (we8 v rfl G ?_);rw[if_pos (show (wan T != wbA)=true from by simp)];refine wa7 (we8 w i k ?_);rw[if_neg (show ¬((wbA==rawInt L)=true) from by simp[rawInt])];refine wa7 (weP w i (wf4.mp k).1 ?_);have other:∀b,b≠T->(s.heap.update T (wd4 (·.setIfInBounds 3 wbA))).get? b=s.heap.get? b:=λb a=>waR _ _ (wb9 a)
  have c:∀b o,s.heap.get? b=some o->(∀z,o.data≠.fields z)->b≠T:=λb o a d q=>by
   rw[q,w]at a;injection a with a;subst a;exact d B i
  have f:(s.heap.update T (wd4 (·.setIfInBounds 3 wbA))).objs.size=s.heap.objs.size:=Heap.size_after_update ..;refine y7 (s:={s with heap:=s.heap.update T (wd4 (·.setIfInBounds 3 wbA))}) p (hl.of_keeps λb o a d=>⟨o,(other b (c b o a d)).trans a,rfl⟩) I (by show lo<=_;rw[f];exact r) (λb a=>g b (by rw[<-f];exact a)) m n ((other e (wb9 y)).trans v) rfl rfl rfl t λh' J P=>h h' J ⟨λb o a l hn=>P.keep b o ((other b ?_).trans a) l hn,λb o a D=>P.slot b o ((other b ?_).trans a) D⟩
  ·rintro rfl;rcases l with l |l
   ·exact absurd (waw l u) (wbh _)
   ·exact l x
  ·rintro rfl;obtain⟨_,O,j,d⟩:=hl.mem D;rw[w]at j;injection j with j;subst j
   exact d B i
end
noncomputable def BX(P:wau)(w:World):Gz:=λouter H s E ev s'=>∃e C od H',ev=.ref e/\s'.os=s.os/\AllBare s'.gens/\Un (rX outer) [] H H' s.heap s'.heap/\jt P w H' s'.heap/\JY s.heap.objs.size H' s'.heap e C od/\E (.ref C) od H'
def Ec(X:Cx)(E:XK):Prop:=∀(pins:List (Addr×Obj)) (σ:St) (H:Hp) (s:Shared) (e C:Addr) (od:Option Addr),Inv X pins σ H s->JY X.s₀.heap.objs.size H s.heap e C od->E (.ref C) od H->X.xe (.ref e) s
theorem y8{X:Cx}(g:Ec X E):Passes (BX X.prog X.w) X E:=λa σ H s k d I h=>by
 obtain⟨e,C,f,i,rfl,c,bare,un,b4,F,j⟩:=h;exact g a σ i d e C f (I.xI c un b4 bare λb z=>absurd z (by simp)) (F.low I.sz) j
section
variable{P:wau}{w:World}{K:wa2}{mg:Str->Option Value}{base:Heap}{N:List Str}{qual:Str}{scope:wd6}{f:Addr}{cd:Value}{A:Around}{outer:List Env}{s:Shared}{H:Hp}{E:XK}
theorem jt.past{lo:Nat}{H:Hp}{fs:List Addr}{h h':Heap}(x:jt P w H h)(p:Fm lo H fs h h')(g:∀b∈fs,H b=none):jt P w H h':=λa o e=>
 (x a o e).qN (λb u c q=>p.keep b u q (.inr (by grind)) λd=>by
   grind) (λ_ q=>q) λ_ _ q=>q
theorem d1:Ec (uz (BX P w) P w K mg base N qual scope f cd A outer s H E) E:=by
 intro v σ l x e C y I F B;show wpAny (model P w) _ («leaving» _ (.ref e)) (λ_ d=>BX P w outer H s E (.ref e) d) (λD d=>BX P w outer H s E D d) x;unfold «leaving»;have g:∀b,x.heap.objs.size<=b->l b=none:=λb a=>I.b4.fresh a;refine wa7 (Az (lo:=s.heap.objs.size) (H:=l) (base:=base) (outer:=outer) I.ok.frames I.stack rfl I.sz g F λJ G p=>?_);have m:=I.tY
 have h:∀b o,s.heap.get? b=some o->b∉rX outer->b∉(envOfC qual scope s.heap.objs.size f cd::outer).filterMap (·.frame):=λb o a hn j=>by
  rcases waC.mp (show b∈s.heap.objs.size::rX outer from j) with z |z
  ·exact absurd (wae a) (by rw[z];exact wbh _)
  ·exact hn z
 refine⟨e,C,y,l,rfl,I.os,I.bare,?_,I.b4.past p m,G,B⟩;have u:=I.base;refine⟨λb o a n c i=>?_,λb o a n c i=>?_,λb o a n i=>u.free b o a n i,λb o a i=>?_,u.uk,u.tJ,u.um⟩
 ·exact p.keep b o (u.keep b o a n c i) (.inl (wae a)) (h b o a c)
 ·obtain⟨sl,k⟩:=u.slot b o a n c i;obtain⟨q,r⟩:=p.slot b _ k (show b∈s.heap.objs.size::rX outer from wac _ c);exact⟨q,r⟩
 ·obtain⟨t,k⟩:=u.there b o a i
  by_cases j:b∈(envOfC qual scope s.heap.objs.size f cd::outer).filterMap (·.frame)
  ·obtain⟨sl,r⟩:=p.slot b t k j;exact⟨_,r⟩
  ·exact⟨t,p.keep b t k (.inl (wae a)) j⟩
theorem Al.YL{x qual:Str}{st:Stmt}{f:Addr}{fd:wad}{N ps:List Str}{k:Nat}{sp:Sp}(F:Al K x qual st f fd)(S:u9 N ps (aI st))(len:∀vs H Q E,sp vs H Q E->vs.length=ps.length)
 (j:∀(g:Value) (A:Around) (outer:List Env) (s:Shared) (H:Hp) (vs:List V) (Q:VK) (E:XK),eM k (A.deeper (envOfC qual (aI st) s.heap.objs.size f g))->sp vs H Q E ->
   ∃t,wI (uz (BX P w) P w K mg base N qual (aI st) f g A outer s H E) (cf st) t/\t {nx:=λ_ l=>Q .non l,rt:=Q} (start N vs) H):aS P w K mg base (BX P w) (k+1) f fd ps sp:=by
 obtain⟨h,i,kV,c,pm,m,g,ct,d,rfl,lk,a⟩:=F.ex;exact Mg lk a S len λA outer s H vs Q E e b=>j g A outer s H vs Q E e b
end
open PySem.W (Looks looks_findIn looks_typeIn InitBack bind_fn findIn clsIn specialIn readsIn findCls keepIn isFn typeIn InstAt)
section
variable{prog:wau}{w:World}{A:Around}{R:wd8->Shared->Prop}{h:Heap}{g:Array wdr}{d:Drawn}{t:Nat}{os:wbS}
variable{nm q:Str}{C CB N:Addr}{bs:List Value}{hdct:Bool}{sn:List Str}{sub:List Value}{ab:Bool}{col:Option Bool}{dd:Option Addr}{k0 k1 k2 k3 k5:Option Value}
theorem KI{M:Model}{E:Value->Shared->Prop}{rest:List Value}{Q:Unit->Shared->Prop}(j:h.get? C=some (wbs nm q C N bs (oA CB) hdct sn sub ab col dd k0 k1 k2 k3 k5 "ValueError.__new__"))
 (l:Q () ⟨h,g,d,t,os⟩):wpAny M A (wef "ValueError.__new__" ⟨.ref C::rest,[]⟩) Q E ⟨h,g,d,t,os⟩:=by
 have F:=wcf;have a:(wan C::oA CB).contains (.type "ValueError")=true:=rfl;have b:=F.noStar;simp only[wef,F.newKind,F.newSplit,F.newRow]
 repeat (first |refine wbb j ?_ |(refine wbQ j ?_;rw[a]) |refine wpAny_staticBase_exc j ?_ |refine wpAny_madeBy_exc j ?_ |simp only[bne_self_eq_false,wbW,if_false] |wp_step)
 exact l
theorem KJ{rest:List Value}(j:h.get? C=some (wbs nm q C N bs (oA CB) hdct sn sub ab col dd k0 k1 k2 k3 k5 "ValueError.__new__"))
 (r:R (.ok (.ret (.ref (h.objs.size+1)))) ⟨(h.push {cls:=.type "tuple",data:=.seq rest.toArray}).push
   {cls:=.ref C,data:=.fields #[.ref h.objs.size,.none,.none,.none,.bool false,.none]},g,d,t,os⟩) (l:rest.length<=sizeLine:=by size_fits) :
 codeAny (model prog w) A (.builtin "ValueError.__new__" ⟨.ref C::rest,[]⟩) R ⟨h,g,d,t,os⟩:=by
 have F:=wcf;have a:=F.ends;have b:(wan C::oA CB).contains (.type "ValueError")=true:=rfl;have c:(wan C::oA CB).contains (.type "AttributeError")=false:=rfl;have e:(wan C::oA CB).contains (.type "NameError")=false:=rfl;refine codeAny_builtinAt F.entry ?_;unfold weh.«BaseException.__new__»;refine whO ?_;show PySem.wpAt _ _ _ (PySem.stack >>= _) _ _ _;refine whO (PySem.wpAt_stack λp f=>wgU ?_)
 wp_walk
 refine wgU ?_;rw[F.owner]
 repeat (first |with_reducible refine wpAny_madeHere_exc F.canon j ?_ |with_reducible refine wbb j ?_ |(with_reducible refine wbQ j ?_;first |rw[b] |rw[c] |rw[e]) |wp_step)
 show R _ _;rw[wbL];exact r
theorem HP{rest:List Value}{init:Value}{p:Around}(l:h.get? C=some (wbs nm q C N bs (oA CB) hdct sn sub ab col dd k0 k1 k2 k3 k5 "ValueError.__new__"))
 (hi:Looks (model prog w) h (wfh (.ref C) "__init__") (some init)) (J:∀self,Looks (model prog w) h (bindSpecial init self) (init,[self])) (j:rest.length<=sizeLine)
 (T:codeAny (model prog w) p (.call init ⟨.ref (h.objs.size+1)::rest,[]⟩) (InitBack (h.objs.size+1) R) ⟨(h.push (qV rest)).push (fm C h.objs.size),g,d,t,os⟩) :
 wpAny (model prog w) p (weh.«type.__call__» ⟨.ref C::rest,[]⟩) (λfin s'=>match fin with |.done f=>R (.ok f) s' |.again I=>I.quiet=true/\codeAny (model prog w) A I R s') (λe s'=>R (.error e) s') ⟨h,g,d,t,os⟩:=by
 have F:=wcf
 repeat (first |with_reducible refine wbb l ?_ |with_reducible refine wpAny_madeBy_exc l ?_ |wp_step)
 refine codeAny_call_builtin_code (wdV _ F.quiet) (KI l ?_);refine KJ l ?_ j;show wpAny _ _ _ _ _ _;have k:∀b o,h.get? b=some o->((h.push (qV rest)).push (fm C h.objs.size)).get? b=some o:=λb o e=>wa8 _ (wa8 _ e)
 have a:=wa8 {cls:=.ref C,data:=.fields #[.ref h.objs.size,.none,.none,.none,.bool false,.none]}
  (wa8 {cls:=.type "tuple",data:=.seq rest.toArray} l)
 have c:((h.push {cls:=.type "tuple",data:=.seq rest.toArray}).push {cls:=.ref C,data:=.fields #[.ref h.objs.size,.none,.none,.none,.bool false,.none]}).get? (h.objs.size+1)=some {cls:=.ref C,data:=.fields #[.ref h.objs.size,.none,.none,.none,.bool false,.none]}:=by heap_get
 have i:(wan C::oA CB).contains (.ref C)=true:=by simp
 have m:=hi.keeps k;have b1:=(J (.ref (h.objs.size+1))).keeps k;unfold isInstance
 repeat (first |with_reducible refine wbb c ?_ |(with_reducible refine wbQ a ?_;rw[i]) |wp_step)
 show wpAny _ _ (wfh (.ref C) _) _ _ _;refine m.at ?_;refine wbm (wa7 (b1.at ?_));refine wa7 (wda (wcc T λr s' z=>?_));rcases r with e |(v |_ |_ |_)<;>first |exact z |exact z.elim |skip
 obtain⟨rfl,z⟩:=z
 wp_walk
 exact z
theorem AA{rest:List Value}{init:Value}(l:h.get? C=some (wbs nm q C N bs (oA CB) hdct sn sub ab col dd k0 k1 k2 k3 k5 "ValueError.__new__"))
 (hi:Looks (model prog w) h (wfh (.ref C) "__init__") (some init)) (p:∀self,Looks (model prog w) h (bindSpecial init self) (init,[self])) (j:rest.length<=sizeLine)
 (r:codeAny (model prog w) (A.under (.builtin "type.__call__" ⟨.ref C::rest,[]⟩)) (.call init ⟨.ref (h.objs.size+1)::rest,[]⟩) (InitBack (h.objs.size+1) R) ⟨(h.push (qV rest)).push (fm C h.objs.size),g,d,t,os⟩) :
 codeAny (model prog w) A (.call (.ref C) ⟨rest,[]⟩) R ⟨h,g,d,t,os⟩:=by
 have f1:=tc_lookup;have f2:=PySem.tc_bind (.ref C);have a:(⟨h,g,d,t,os⟩:Shared).TypeIs (.ref C) "type":=⟨_,l,rfl⟩;refine wfY ?_;show wpAny _ _ (callAny (.ref C) _) _ _ _
 repeat (any_goals (first |assumption |with_reducible refine wbb l ?_ |wp_step))
 refine⟨rfl,?_⟩;exact codeAny_call_builtin_at (wdV _ (by decide+kernel)) entry_typeCall (wpAny_check_type_call_sub l (HP l hi p j r))
theorem sv{E:Value->Shared->Prop}{Q:Flow->Shared->Prop}(p:A.handled=none)
 (h:wpAny M A (eval x env) (λv j=>∃e l t,v=.ref e/\j.heap.get? C=some (wbs nm q C N bs (oA CB) hdct sn sub ab col dd k0 k1 k2 k3 k5 "ValueError.__new__") /\
   j.heap.get? e=some {cls:=.ref C,dict:=l,data:=.fields #[.ref t,.none,.none,.none,.bool false,.none]}/\E (.ref e) j) E s) :
 wpAny M A (exec (.Raise (some x) none pos) env) Q E s:=by
 have key:wpAny M A (raiseStmt env (some (do let v <-eval x env;standAt pos;pure v)) none) Q E s:=by
  have b:(wan C::oA CB).contains (.type "BaseException")=true:=rfl;unfold raiseStmt;refine wa7 (wa7 (wb8 h (λv j a=>wa7 (wdz (wax ?_))) λ_ _ x=>x));obtain⟨e,l,t,rfl,c,f,i⟩:=a;obtain⟨k,g,d,m,os⟩:=j
  repeat (first |with_reducible refine wbb f ?_ |with_reducible refine wbb c ?_ |(with_reducible refine wbQ c ?_;rw[b]) |wp_step)
  exact wpAny_raiseNew_none p i
 rw[arm_exec_Raise];exact wa7 (wdz key)
end
end L2
namespace L2
open PySem PySem.Spec PyProof.Rows
open PySem.W (Looks looks_findIn looks_typeIn InitBack bind_fn findIn clsIn specialIn readsIn findCls keepIn isFn typeIn InstAt)
structure eZ(K:wa2)(C CB:Addr)(nm:Str):Prop where
 lk:∃(q:Str) (N:Addr) (bs:List Value) (sn:List Str) (sub:List Value) (ab:Bool) (col:Option Bool) (dd:Option Addr) (k0 k1 k2 k3 k5:Option Value),
  K.lookup C=some (wbs nm q C N bs (oA CB) true sn sub ab col dd k0 k1 k2 k3 k5 "ValueError.__new__")
 sa:findIn K (.ref C) "__setattr__"=some (some (.builtin "object.__setattr__"))
 ga:findIn K (.ref C) "__getattribute__"=some (some (.builtin "BaseException.__getattribute__"))
 gh:findIn K (.ref C) "__getattr__"=some none
 kp:keepIn K (.ref C)=true
structure HQ(K:wa2)(CB:Addr):Prop where
 sp:weZ K (.ref CB) "__getattribute__"=some (some (.builtin "type.__getattribute__"))
 rd:readsIn K CB (.type "type")=true
 fc:findCls K (.ref CB) (.type "type") "__init__"=some (.val (.builtin "ValueError.__init__"))
noncomputable def XN(x C:Addr):HO:=.ext λh=>∃t,h.get? x=some (fm C t)
noncomputable abbrev uc(C d t:Addr):Obj:={cls:=.ref C,dict:=some d,data:=.fields #[.ref t,.none,.none,.none,.bool false,.none]}
noncomputable def XD(x C d:Addr):HO:=.ext λh=>∃t,h.get? x=some (uc C d t)
section
variable{P:wau}{w:World}{H:Hp}{h:Heap}{x C d t:Addr}
theorem Nu(e:h.get? x=some (fm C t)):cb P w H h x (XN x C):=⟨⟨t,e⟩,⟨_,e⟩,λc d ⟨a,b⟩ k=>⟨a,k _ b⟩⟩
theorem U0(e:h.get? x=some (uc C d t)):cb P w H h x (XD x C d):=⟨⟨t,e⟩,⟨_,e⟩,λc f ⟨a,b⟩ k=>⟨a,k _ b⟩⟩
end
theorem Nv(h:H x=some o):upd H x o=H:=by grind [upd]
noncomputable def del(H:Hp)(x:Addr):Hp:=λb=>if b=x then none else H b
theorem hF:del H x x=none:=if_pos rfl
theorem iP(h:b≠x):del H x b=H b:=if_neg h
theorem Ed(h:H x=none):del (upd H x o) x=H:=by grind [hF,iP,ae]
theorem CH(h:d≠x):del (upd H d o) x=upd (del H x) d o:=by
 funext b
 by_cases e:b=x
 ·subst e;rw[hF,ae (wb9 h),hF]
 ·rw[iP e]
  by_cases a:b=d
  ·subst a;rw[a6,a6]
  ·rw[ae a,ae a,iP e]
theorem zc:del (upd H x o) x=del H x:=by grind [hF,iP,ae]
section
variable{X:Cx}{pins:List (Addr×Obj)}{σ:St}{H:Hp}{s:Shared}{x:Addr}{φ:Heap->Prop}
theorem Inv.del(I:Inv X pins σ H s)(g:H x=some (.ext φ)):Inv X pins σ (L2.del H x) s:=by
 have ne:∀{b:Addr} {o:HO},H b=some o->(∀ψ,o≠.ext ψ)->b≠x:=λe n z=>by rw[z,g]at e;exact n φ (wag e).symm
 have nn:∀{b:Addr},H b=none->L2.del H x b=none:=λ{b} e=>by
  by_cases z:b=x
  ·rw[z];exact hF
  ·rw[iP z];exact e
 have u:=I.base;refine⟨I.ok,I.os,I.bare,⟨u.keep,u.slot,λb o q n d=>nn (u.free b o q n d),u.there,λb f q=>?_,λb o v q=>?_,λb ps q=>?_⟩,I.loc,I.cell,nn I.free,λy c e=>nn (I.ju y c e),λp h=>?_,λa o e=>?_,I.len⟩
 ·have e:=u.uk b f q;rw[iP (ne e λψ z=>by cases z)];exact e
 ·have e:=u.tJ b o v q;rw[iP (ne e λψ z=>by cases z)];exact e
 ·obtain⟨m,e⟩:=u.um b ps q;exact⟨m,by rw[iP (ne e λψ z=>by cases z)];exact e⟩
 ·obtain⟨a1,a2,a3⟩:=I.pin p h;exact⟨a1,nn a2,a3⟩
 ·have i:H a=some o:=by
   by_cases z:a=x
   ·rw[z,hF]at e;cases e
   ·rw[iP z]at e;exact e
  refine(I.b4 a o i).qN (λb u _ q=>q) (λb q=>?_) λb f q=>?_
  ·rw[iP (ne q λψ z=>by cases z)];exact q
  ·rw[iP (ne q λψ z=>by cases z)];exact q
end
def Nw(K:wa2)(CB:Addr)(t:TA):TE:=λσ H Q=>t σ H λvs H1=>∃x C nm m,vs=[.ref x,m]/\H1 x=some (XN x C)/\eZ K C CB nm/\Q .non H1
section
variable{X:Cx}{CB C f:Addr}{p pos apos eX:Pos}{e e2:Expr}{es:List Expr}{t:TA}{Mm name:Str}{ta tv:TE}{o value:Expr}{pos':Pos}
theorem HR(J:Gl X Mm)(T:X.mg Mm=some (.ref CB))(B:HQ X.K CB)(ha:PA X [e,e2] t)(g:(Mm==("__debug__":Str))=false:=by decide)
 (he:starEach [e,e2] X.env=(false,eval e X.env)::starEach [e2] X.env:=by rfl) (j:(backTo pos (starEach [e2] X.env)).any (·.1)=false:=by rfl)
 (l:eval (.Call (.Attribute (.Name Mm p) "__init__" apos) [e,e2] [] pos) X.env=(do
   let r <-eval (.Name Mm p) X.env
   standAt apos.atName
   let (f,first) <-holding [r] (wfS r "__init__" pl)
   callWith pos f first (backTo pos (starEach [e,e2] X.env)) (backToKw pos (wdD [] X.env))):=by rfl) :
 PE X (.Call (.Attribute (.Name Mm p) "__init__" apos) [e,e2] [] pos) (Nw X.K CB t):=by
 intro a s σ H Q I h;refine wei (pl:=pl) (gK I J T ?_ g) l;refine PySem.W.method_cls I.iz B.sp (PySem.W.cls_value I.iz B.rd B.fc rfl ?_);refine wet (bO (ha pos a _ σ H _ (I.tok _) h) λG i n=>?_) he j;obtain⟨L,v,c,w,x,C,M,m,y,d,U,q⟩:=n;subst y;obtain⟨O,R,rfl,A,S⟩:=vals2 w;cases A;obtain⟨⟨t,l⟩,_⟩:=c.b4 x _ d;obtain⟨V,N,bs,Y,sub,ab,D,Z,k0,k1,k2,k3,k5,lk⟩:=U.lk;refine CG c.iz l lk λh' t' k ex=>⟨.non,v,?_,rfl,q⟩;have:=c.write (x:=x) (e:=x) (o:=XN x C) (h':=h') (t':=i.toks) (by rw[d];exact wbu) (.inl rfl) (λb u E z=>k b u E z) ⟨_,ex⟩ (Nu ex);rw[Nv d]at this;exact this
def Qv(K:wa2)(CB:Addr)(ta tv:TE)(name:Str):TS:=λD σ H=>tv σ H λy H1=>ta σ H1 λz H2=>∃x C nm,z=.ref x/\H2 x=some (XN x C)/\eZ K C CB nm/\findIn K (.ref C) name=some none /\
 ∀d,H2 d=none->D.nx σ (upd (upd H2 d (.xd [(name,y)])) x (XD x C d))
theorem KL(ha:PE X o ta)(T:PE X value tv)(hs:wc6 value (some (.Attribute o name pos')) pos.line X.env=pure false):PS X (.Assign [.Attribute o name pos'] value pos) (Qv X.K CB ta tv name):=by
 intro g s σ H D I h;refine wcX (bO (T g s σ H _ I h) λu L ⟨y,M,O,Q,q⟩=>bO (ha g L σ M _ O q) λR G S=>?_) hs;obtain⟨z,m,i,V,x,C,Y,Z,l,U,hn,q2⟩:=S;subst Z;obtain rfl:R=wan x:=V;obtain⟨⟨t,ht⟩,_⟩:=i.b4 x _ l;obtain⟨qn,N,bs,sn,sub,ab,r,dd,k0,k1,k2,k3,k5,lk⟩:=U.lk;refine HN (CB:=CB) i.iz ht (cd:={name:=Y,bases:=bs,mro:=.ref C::oA CB,ns:=N,qualname:=qn,hasDict:=true,slotNames:=sn,subclasses:=sub,abstract:=ab,collection:=r,hasDel:=false}) (by unfold clsIn;rw[lk]) rfl rfl hn U.sa λA d tk hd k ex ns=>⟨σ,_,?_,q2 d (i.b4.fresh hd)⟩;have Wg:d≠x:=λz=>by rw[z]at hd;exact absurd (waw (i.b4.lt l) hd) (wbh _)
 have c:=i.b4.fresh hd
 have un:Un (rX X.stack) [] m (upd (upd m d (.xd [(name,y)])) x (XD x C d)) G.heap A:=by
  have nx:∀{b:Addr} {o:HO},m b=some o->(∀ψ,o≠.ext ψ)->b≠x:=λe n z=>by rw[z,l]at e;exact n _ (wag e).symm
  have B:∀{b:Addr},m b=none->b≠x:=λe z=>by rw[z,l]at e;cases e
  refine⟨λb o q n _ _=>k b o (B n) q,λb o q n _ _=>⟨o.slots,k b o (B n) q⟩,λb o q n _=>?_,λb o q _=>?_,λb vs q=>?_,λb o v q=>?_,λb ps q=>?_⟩
  ·rw[ae (B n),ae (λz=>by rw[z]at q;exact absurd (waw (wae q) hd) (wbh _))];exact n
  ·by_cases z:b=x
   ·rw[z];exact⟨_,ex⟩
   ·exact⟨o,k b o z q⟩
  ·rw[ae (nx q λψ z=>by cases z),ae (af q c)];exact q
  ·rw[ae (nx q λψ z=>by cases z),ae (af q c)];exact q
  ·exact⟨#[],by rw[ae (nx q λψ z=>by cases z),ae (af q c),q];simp⟩
 have b4:jt X.prog X.w (upd (upd m d (.xd [(name,y)])) x (XD x C d)) A:=λa o e=>by
  by_cases z:a=x
  ·subst z;rw[a6]at e;cases e;exact U0 ex
  ·rw[ae z]at e
   by_cases J:a=d
   ·subst J;rw[a6]at e;cases e;refine⟨_,ns,λf=>?_⟩
    by_cases p:f=name
    ·have j:(f==name)=true:=beq_iff_eq.mpr p;simp only[wg4,j,if_pos p];exact Q
    ·have j:(f==name)=false:=beq_eq_false_iff_ne.mpr p;simp only[wg4,j,if_neg p]
     trivial
   ·rw[ae J]at e;refine(i.b4 a o e).qN (λb u j q=>k b u ?_ q) (λb q=>?_) λb vs q=>?_
    ·rintro rfl;rcases j with rfl |j
     ·exact z rfl
     ·rw[l]at j;cases j
    ·have:b≠x:=λE=>by rw[E,l]at q;cases q
     rw[ae this,ae (af q c)];exact q
    ·have:b≠x:=λE=>by rw[E,l]at q;cases q
     rw[ae this,ae (af q c)];exact q
 exact i.xI (s':={G with heap:=A,toks:=tk}) rfl un b4 i.bare λb z=>absurd z (by simp)
end
end L2
namespace L2
open PySem PySem.Spec PyProof.Rows
open PySem.W (Looks looks_findIn looks_typeIn InitBack bind_fn findIn clsIn specialIn readsIn findCls keepIn isFn typeIn InstAt)
def Nx(K:wa2)(C:Addr)(sp:Sp)(E:XK)(t:TA):TS:=λ_ σ H=>t σ H λvs H1=>vs.length<=sizeLine/\∀x,H1 x=none ->
 sp (.ref x::vs) (upd H1 x (XN x C)) (λv H2=>v=.non/\((H2 x=some (XN x C)/\E (.ref C) none (del H2 x))\/∃d,H2 x=some (XD x C d)/\E (.ref C) (some d) (del H2 x))) E0
def KM(C:Addr)(E:XK)(t:TA):TS:=λ_ σ H=>t σ H λvs H1=>vs.length=1/\E (.ref C) none H1
section
variable{X:Cx}{CB C f:Addr}{fd:wad}{ps:List Str}{sp:Sp}{E:XK}{k:Nat}{p pos eX:Pos}{e:Expr}{es:List Expr}{t:TA}{x nm:Str}
theorem Inv.newExc(I:Inv X g σ H s)(us:List Value)(C:Addr) :
 Inv X g σ (upd H (s.heap.objs.size+1) (XN (s.heap.objs.size+1) C)) {s with heap:=(s.heap.push (qV us)).push (fm C s.heap.objs.size)}:=by
 have c:=I.kept (h':=s.heap.push (qV us)) (t':=s.toks) λb u q=>wa8 _ q;refine c.laid (a:=s.heap.objs.size+1) (t':=s.toks) (λb u q=>wa8 _ q) (wdN (wbL _ _)) (Nu (t:=s.heap.objs.size) ?_);have:=waq (s.heap.push (qV us)) (o:=fm C s.heap.objs.size) rfl;rwa[wbL]at this
theorem HS(hT:Ec X E)(hc:X.calm=true)(U:eZ X.K C CB nm)(hi:findIn X.K (.ref C) "__init__"=some (some (.ref f)))(J:isFn X.K (.ref f)=true)
 (F:aS X.prog X.w X.K X.mg X.base d8 k f fd ps sp) (hr:eM (k+1) X.A) (hb:Binds X.K fd ps []) (hg:Gl X x) (hm:X.mg x=some (.ref C)) (ha:PA X (e::es) t)
 (T:(x==("__debug__":Str))=false:=by decide) (he:starEach (e::es) X.env=(false,eval e X.env)::starEach es X.env:=by rfl) (KH:(backTo eX (starEach es X.env)).any (·.1)=false:=by rfl) :
 PS X (.Raise (some (.Call (.Name x p) (e::es) [] eX)) none pos) (Nx X.K C sp E t):=by
 intro a s σ H D I h;obtain⟨Z,N,bs,sn,sub,ab,col,dd,k0,k1,k2,k3,k5,lk⟩:=U.lk;refine sv (C:=C) (CB:=CB) (nm:=nm) (q:=Z) (N:=N) (bs:=bs) (hdct:=true) (sn:=sn) (sub:=sub) (ab:=ab) (col:=col) (dd:=dd) (k0:=k0) (k1:=k1) (k2:=k2) (k3:=k3) (k5:=k5) (I.ok.hd hc) ?_;refine wbv (gK I hg hm ?_ T);refine wcC (h₀:=X.base) I.ok.mod.M8 U.kp (bO (ha eX a s σ H _ I h) λc i ⟨vs,H1,j,r,m,q⟩=>⟨j.iz,?_⟩) he KH;have B:=j.b4.fresh (wc1 i.heap.objs.size);have Q:=q (i.heap.objs.size+1) B;have G:=Inv.newExc j c C;have R:Vals (V.ref (i.heap.objs.size+1)::vs) (wan (i.heap.objs.size+1)::c):=.cons rfl r
 have hl:(wan (i.heap.objs.size+1)::c++[]).length=ps.length:=by
  have S:=R.length;rw[F.len _ _ _ _ Q]at S;rw[waY];exact S.symm
 have n:=hb _ (wan (i.heap.objs.size+1)::c) G.iz hl;rw[waY]at n;obtain⟨L,g,dr,tk,os⟩:=i;refine wda (AA (j.iz _ _ lk) (weN j.iz hi) (λself=>bind_fn j.iz self (beq_iff_eq.mp J)) (by show c.length<=sizeLine;rw[<-r.length];exact m) ?_);refine wcc (F.run _ X.stack _ _ ⟨wan (L.objs.size+1)::c,[]⟩ (wan (L.objs.size+1)::c) _ _ E0 (hr.make C c []) (G.Kf.make C c []) n R Q) λrr Y b=>?_
 cases rr with
 |error e=>exact wb1 b
 |ok fl=>
  cases fl with
  |next=>exact wb1 b
  |brk=>exact wb1 b
  |cont=>exact wb1 b
  |ret u=>
   obtain⟨v,H',l,rv,ev,q3⟩:=G.after b;subst ev;refine⟨rv,?_⟩;have o:X.s₀.heap.objs.size<=L.objs.size+1:=waj j.sz (wc1 _);rcases q3 with⟨y,M⟩ |⟨d,y,M⟩
   ·obtain⟨⟨O,z⟩,_⟩:=l.b4 _ _ y;exact⟨_,none,O,rfl,l.iz _ _ lk,z,hT a σ _ Y _ C none (l.del y) ⟨o,hF,_,_,z,by show 1<6;decide,.inl rfl⟩ M⟩
   ·obtain⟨⟨O,z⟩,_⟩:=l.b4 _ _ y;exact⟨_,some d,O,rfl,l.iz _ _ lk,z,hT a σ _ Y _ C (some d) (l.del y) ⟨o,hF,_,_,z,by show 1<6;decide,.inl rfl⟩ M⟩
theorem gz(T:Ec X E)(hc:X.calm=true)(U:eZ X.K C CB nm)(hi:findIn X.K (.ref C) "__init__"=some (some (.builtin "ValueError.__init__")))(hg:Gl X x)(hm:X.mg x=some (.ref C))(ha:PA X (e::es) t)
 (l:(x==("__debug__":Str))=false:=by decide) (he:starEach (e::es) X.env=(false,eval e X.env)::starEach es X.env:=by rfl) (J:(backTo eX (starEach es X.env)).any (·.1)=false:=by rfl) :
 PS X (.Raise (some (.Call (.Name x p) (e::es) [] eX)) none pos) (KM C E t):=by
 intro a s σ H D I h;obtain⟨y,N,bs,sn,sub,ab,col,dd,k0,k1,k2,k3,k5,lk⟩:=U.lk;refine sv (C:=C) (CB:=CB) (nm:=nm) (q:=y) (N:=N) (bs:=bs) (hdct:=true) (sn:=sn) (sub:=sub) (ab:=ab) (col:=col) (dd:=dd) (k0:=k0) (k1:=k1) (k2:=k2) (k3:=k3) (k5:=k5) (I.ok.hd hc) ?_;refine wbv (gK I hg hm ?_ l);refine wcC (h₀:=X.base) I.ok.mod.M8 U.kp (bO (ha eX a s σ H _ I h) λA c ⟨Q,B,d,r,f,q⟩=>⟨d.iz,?_⟩) he J
 obtain⟨u,rfl⟩:∃u,A=[u]:=by
  have:=r.length;rw[f]at this;exact List.length_eq_one_iff.mp this.symm
 have m:=Inv.newExc d [u] C;have i:(upd B (c.heap.objs.size+1) (XN (c.heap.objs.size+1) C)) (c.heap.objs.size+1)=some (XN (c.heap.objs.size+1) C):=a6;have j:=d.b4.fresh (wc1 c.heap.objs.size);obtain⟨k,g,R,G,os⟩:=c;refine wda (AA (d.iz _ _ lk) (weN d.iz hi) (λself=>Looks.of_pure (wcf.init.bind self)) (by show 1<=sizeLine;decide) ?_);obtain⟨⟨S,L⟩,_⟩:=m.b4 _ _ i;refine uM m.iz L lk λh' t' M ex=>⟨rfl,?_⟩;have w:=m.write (x:=k.objs.size+1) (e:=k.objs.size+1) (o:=XN (k.objs.size+1) C) (h':=h') (t':=G) (by rw[i];exact wbu) (.inl rfl) (λb u O z=>M b u O z) ⟨_,ex⟩ (Nu ex);rw[DS]at w;have n:=w.del (x:=k.objs.size+1) a6;rw[Ed j]at n;have v:X.s₀.heap.objs.size<=k.objs.size+1:=waj d.sz (wc1 _);exact⟨_,none,t',rfl,n.iz _ _ lk,ex,T a σ _ _ _ C none n ⟨v,j,_,_,ex,by show 1<6;decide,.inl rfl⟩ q⟩
end
end L2
namespace L2
open PySem PySem.Spec PyProof.Rows
noncomputable abbrev TJ:=Str->St->Hp->(Str->Hp->Prop)->Prop
def PJ(X:Cx)(es:List Expr)(t:TJ):Prop:=∀(pins:List (Addr×Obj)) (s:Shared) (σ:St) (H:Hp) (acc:Str) (Q:Str->Hp->Prop),Inv X pins σ H s->t acc σ H Q ->
 wpAny (model X.prog X.w) X.A (joinParts acc (evalEach es X.env)) (λu s'=>∃z H',Inv X pins σ H' s'/\(∃tk,u=.str z tk)/\Q z H') X.xe s
section
variable{X:Cx}{e:Expr}{es:List Expr}{te:TE}{t:TJ}{pos:Pos}
noncomputable def U1:TJ:=λacc _ H Q=>acc.length<=sizeLine/\Q acc H
theorem Ny:PJ X [] U1:=λb s σ H a Q I h=>joinParts_nil ⟨a,H,I.tok _,⟨_,rfl⟩,h.2⟩ h.1
noncomputable def U2(z:Str)(t:TJ):TJ:=λacc σ H Q=>(acc++z).length<=sizeLine/\t (acc++z) σ H Q
theorem CI(h:PJ X es t):PJ X (.Constant (.str z) j pos::es) (U2 z t):=λa s σ H b Q I q=>
 joinParts_cons (wh0 ⟨q.1,h a _ σ H _ Q (I.tok _) q.2⟩)
noncomputable def U3(te:TE)(t:TJ):TJ:=λacc σ H Q=>te σ H λv H1=>(∃i,v=.int i/\i.natAbs.log2<1920/\(acc++(toString i:String)).length<=sizeLine/\t (acc++(toString i:String)) σ H1 Q)\/(∃z,v=.str z/\z.length<=sizeLine/\(acc++z).length<=sizeLine/\t (acc++z) σ H1 Q)
theorem HU(j:PE X e te)(h:PJ X es t):PJ X (.FormattedValue e (-1) none pos::es) (U3 te t):=λa s σ H k Q I q=>by
 refine joinParts_cons (FormattedValue_plain (bO (j a s σ H _ I q) λv o ⟨y,d,f,g,l⟩=>?_));rcases l with⟨i,rfl,hl,b,c⟩ |⟨z,rfl,hl,b,c⟩
 ·obtain⟨m,rfl⟩:=g;exact formatField_int_small hl ⟨b,h a _ σ d _ Q (f.tok _) c⟩
 ·obtain⟨m,rfl⟩:=g;exact formatField_str (λp n=>⟨b,h a _ σ d _ Q (f.tok _) c⟩) hl
theorem KN(h:PJ X (e::g::es) t):PE X (.JoinedStr (e::g::es) pos) (λσ H Q=>t whY σ H λz j=>Q (.str z) j):=λa s σ H Q I q=>
 JoinedStr_many (bO (h a s σ H _ _ I q) λu f ⟨z,b,c,r,d⟩=>⟨.str z,b,c,r,d⟩)
end
noncomputable abbrev Su:=XK->TE
noncomputable abbrev Mo:=(St->XK)->TS
def Wh(X:Cx)(pins:List (Addr×Obj))(σ:St)(E:XK)(ev:Value)(s':Shared):Prop:=∃H0 s0,Inv X pins σ H0 s0/\BX X.prog X.w X.stack H0 s0 E ev s'
def Wi(X:Cx)(pins:List (Addr×Obj))(E:St->XK)(ev:Value)(s':Shared):Prop:=∃σ,Wh X pins σ (E σ) ev s'
def Wj(X:Cx)(e:Expr)(t:Su):Prop:=∀(pins:List (Addr×Obj)) (s:Shared) (σ:St) (H:Hp) (Q:VK) (E:XK),Inv X pins σ H s->t E σ H Q->wpAny (model X.prog X.w) X.A (eval e X.env) (EP X pins σ Q) (Wh X pins σ E) s
def Wk(X:Cx)(st:Stmt)(t:Mo):Prop:=∀(pins:List (Addr×Obj)) (s:Shared) (σ:St) (H:Hp) (D:Ends) (E:St->XK),Inv X pins σ H s->t E D σ H->wpAny (model X.prog X.w) X.A (exec st X.env) (SP X pins D) (Wi X pins E) s
def Qw(X:Cx)(st:List Stmt)(t:Mo):Prop:=∀(pins:List (Addr×Obj)) (s:Shared) (σ:St) (H:Hp) (D:Ends) (E:St->XK),Inv X pins σ H s->t E D σ H->wpAny (model X.prog X.w) X.A (execs st X.env) (SP X pins D) (Wi X pins E) s
section
variable{X:Cx}{k:Nat}{f C:Addr}{fd:wad}{ps:List Str}{sp:Sp}{x m:Str}{p pos apos:Pos}{e o:Expr}{es:List Expr}{ta:TE}{t:TA}{st:Stmt}{rest:List Stmt}
theorem Nz{α:Type}{M:Model}{A:Around}{m:Sem α}{Q:α->Shared->Prop}{E:Value->Shared->Prop}{s:Shared}(h:wpAny M A m Q (λ_ _=>False) s):wpAny M A m Q E s:=wb8 h (λ_ _ x=>x) λ_ _ z=>z.elim
theorem AP.gw{E:Value->Shared->Prop}{Q:List V->Hp->Prop}(h:AP (X.om E) g σ Q us s'):AP X g σ Q us s':=by
 obtain⟨a,b,I,r,q⟩:=h;exact⟨a,b,I.gw,r,q⟩
noncomputable def NA(C:Addr)(sp:Sp)(t:TA):Su:=λE σ H Q=>t σ H λvs H1=>∀x dx,H1 x=none->H1 dx=none->dx≠x ->
 sp (.ref x::vs) (upd (upd H1 dx (.own x)) x (.ins C dx [])) (λv H2=>v=.non/\Q (.ref x) H2) E
theorem HV(M:Mk X.K C f)(F:aS X.prog X.w X.K X.mg X.base (BX X.prog X.w) k f fd ps sp)(T:eM (k+1) X.A)(U:Gl X x)(hm:X.mg x=some (.ref C))(hb:Binds X.K fd ps [])
 (ha:PA X.M9 (e::es) t) (l:(x==("__debug__":Str))=false:=by decide) (he:starEach (e::es) X.env=(false,eval e X.env)::starEach es X.env:=by rfl) (J:(backTo pos (starEach es X.env)).any (·.1)=false:=by rfl) :
 Wj X (.Call (.Name x p) (e::es) [] pos) (NA C sp t):=by
 intro d s σ H Q E I h;refine wbv (gK I U hm ?_ l);refine wcC (h₀:=X.base) I.ok.mod.M8 M.kp (Nz (bO (ha pos d s σ H _ (I.om _) h) λc b o=>?_)) he J;obtain⟨y,N,g,r,q⟩:=o.gw;refine⟨g.iz,?_⟩;have m:=q (b.heap.objs.size+1) b.heap.objs.size (g.b4.fresh (wc1 _)) (g.b4.fresh (waa _)) (war (wbI _));have j:=Inv.made (C:=C) g;have n:Vals (V.ref (b.heap.objs.size+1)::y) (wan (b.heap.objs.size+1)::c):=.cons rfl r
 have hl:(wan (b.heap.objs.size+1)::c++[]).length=ps.length:=by
  have e:=n.length;rw[F.len _ _ _ _ m]at e;rw[waY];exact e.symm
 have i:=hb _ (wan (b.heap.objs.size+1)::c) j.iz hl;rw[waY]at i
 refine wda (Ac (f:=f) g.iz M.makes M.init (beq_iff_eq.mp M.fn) (wcc (F.run _ X.stack _ _ ⟨wan (b.heap.objs.size+1)::c,[]⟩ (wan (b.heap.objs.size+1)::c) _ _ E (T.make C c [])
  (j.Kf.make C c []) i n m) λr O a=>?_))
 cases r with
 |error e=>exact⟨_,_,j,a⟩
 |ok fl=>
  cases fl with
  |ret u=>
   obtain⟨v,z,B,D,G,L⟩:=j.after a;subst G;exact⟨D,⟨V.ref (b.heap.objs.size+1),z,B,rfl,L⟩⟩
  |next=>exact wb1 a
  |brk=>exact wb1 a
  |cont=>exact wb1 a
variable{te:Su}{i:Nat}{pos':Pos}{tx ty:Mo}{tc:TT}{c:Expr}{a b:List Stmt}{ts:TS}
noncomputable def U4(te:Su)(i:Nat):Mo:=λE D σ H=>te (E σ) σ H λv H1=>D.nx (σ.set i (some v)) H1
theorem KO(g:X.N.Nodup)(hi:X.N[i]?=some x)(j:Loc X.env.scope x)(l:Wj X e te)(hs:wc6 e (some (.Name x pos')) pos.line X.env=pure false:=by rfl)(r:X.fn x=true\/X.env.scope.names.lookup x=some .local:=by first |exact .inl rfl |exact .inr rfl |assumption) :
 Wk X (.Assign [.Name x pos'] e pos) (U4 te i):=by
 intro a s σ H D E I h;refine we3 (wb8 (l a s σ H _ (E σ) I h) (λv b ⟨y,c,d,f,k⟩=>?_) λn b z=>⟨σ,z⟩) hs;exact jv d g hi j f (λo m=>⟨_,c,m,k⟩) r
theorem HW(g:Wk X st tx):Qw X [st] tx:=by
 intro a s σ H D E I h;refine wcV (wb8 (g a s σ H D E I h) (λf b q=>?_) λ_ _ z=>z)
 cases f with
 |next=>exact wco q
 |ret v=>exact q
 |brk=>exact q
 |cont=>exact q
end
section
variable{M:Model}{A:Around}{E:Value->Shared->Prop}{s:Shared}{e C CB:Addr}{od:Option Addr}{lo:Nat}{H:Hp}
theorem uN{Q:Unit->Shared->Prop}(F:JY lo H s.heap e C od)(h:∀h',JY lo H h' e C od->(∀b o,s.heap.get? b=some o->(b<lo\/H b≠none)->h'.get? b=some o)->Q () {s with heap:=h'}) :
 wpAny M A (wfZ (.ref e) none) Q E s:=by
 obtain⟨g,i,p,sl,n,j,f⟩:=F;unfold wfZ;rcases f with f |⟨T,v,u,r,a,k,l,t,d,f⟩
 ·refine wa7 (we8 n rfl f ?_);rw[if_neg (by decide)];exact wax (h _ ⟨g,i,p,sl,n,j,.inl f⟩ λb o q _=>q)
 ·have c:3<u.size:=(wf4.mp f).1;refine wa7 (we8 n rfl r ?_);rw[if_pos (show (wan T != wbA)=true from by simp)];refine weP t d c (h _ ⟨g,i,p,sl,?_,j,.inr ⟨T,_,_,r,a,k,l,wbB _ t (wel (wdf d _)),wdf d _,by simp[c]⟩⟩ λb o q m=>?_)
  ·exact(waR _ _ l).trans n
  ·refine(waR _ _ ?_).trans q;rintro rfl;rcases m with m |m
   ·exact absurd (waw m a) (wbh _)
   ·exact m k
variable{nm q Mm qB:Str}{N NB:Addr}{bs bsB:List Value}{hdct hdB:Bool}{sn snB:List Str}{sub subB:List Value}{ab abB:Bool}{col YM:Option Bool}{dd ddB:Option Addr}{k0 k1 k2 k3 k5 l0 l1 l2 l3 l5:Option Value}
end
noncomputable abbrev Cx.marked(X:Cx)(e:Addr):Cx:={X with A:=X.A.mark (some (.ref e)),calm:=false}
section
variable{X:Cx}{pins:List (Addr×Obj)}{σ:St}{H:Hp}{s:Shared}{e:Addr}
theorem Cx.Ok.marked(ok:X.Ok):(X.marked e).Ok:=
 ⟨ok.mod,ok.kind,ok.glob,ok.blt,ok.above,ok.inj,ok.has,ok.MV,λz=>Bool.noConfusion z,ok.frames,ok.OV,ok.S0,ok.bs,ok.GJ,ok.C0,ok.EL,ok.oZ,ok.K7⟩
theorem Inv.marked(I:Inv X pins σ H s):Inv (X.marked e) pins σ H s:=⟨I.ok.marked,I.os,I.bare,I.base,I.loc,I.cell,I.free,I.ju,I.pin,I.b4,I.len⟩
theorem Inv.unmarked(ok:X.Ok)(I:Inv (X.marked e) pins σ H s):Inv X pins σ H s:=⟨ok,I.os,I.bare,I.base,I.loc,I.cell,I.free,I.ju,I.pin,I.b4,I.len⟩
theorem Inv.CJ{l g:Hp}{j s1:Shared}{h':Heap}(C:Inv X pins σ l j)(r:s1.os=j.os)(bare:AllBare s1.gens)(un:Un (rX X.stack) [] l g j.heap s1.heap)(b4:jt X.prog X.w g s1.heap)
 (p:Fm j.heap.objs.size g (rX X.stack) s1.heap h') (t:∀b∈rX X.stack,g b=none):Un (rX X.stack) [] l g j.heap h'/\jt X.prog X.w g h'/\∀tk,Inv X pins σ g {s1 with heap:=h',toks:=tk}:=by
 have e:Un (rX X.stack) [] l g j.heap h':=by
  refine⟨λb o d n a f=>p.keep b o (un.keep b o d n a f) (.inl (wae d)) a,λb o d n a f=>?_,un.free,λb o d f=>?_,un.uk,un.tJ,un.um⟩
  ·obtain⟨sl,h⟩:=un.slot b o d n a f;obtain⟨i,k⟩:=p.slot b _ h a;exact⟨i,k⟩
  ·obtain⟨m,h⟩:=un.there b o d f
   by_cases q:b∈rX X.stack
   ·obtain⟨sl,k⟩:=p.slot b m h q;exact⟨_,k⟩
   ·exact⟨m,p.keep b m h (.inl (wae d)) q⟩
 have c:=b4.past p t;exact⟨e,c,λtk=>C.xI (s':={s1 with heap:=h',toks:=tk}) r e c bare λb z=>absurd z (by simp)⟩
end
structure HX(K:wa2)(CB:Addr)(nm:Str):Prop where
 lk:∃(q:Str) (N:Addr) (bs:List Value) (hd:Bool) (sn:List Str) (sub:List Value) (ab:Bool) (col:Option Bool) (dd:Option Addr) (k0 k1 k2 k3 k5:Option Value),
  K.lookup CB=some (wbs nm q CB N bs Sq hd sn sub ab col dd k0 k1 k2 k3 k5 "ValueError.__new__")
section
variable{X:Cx}{CB:Addr}{Mm n x Wl:Str}{body:List Stmt}{tb:Mo}{i j:Nat}{p1 p2 p3 p4 NF pos:Pos}
end
open PySem.W (Looks looks_findIn looks_typeIn looks_find looks_hook looks_mroIn findIn clsIn specialIn takesIn mroIn typeIn subIn InstAt KitX kitOne kitCls kia_one findObj findObj_data class_get handed_on handedOut_of)
open Builtin Builtin.ObjectAttr
theorem eZ.ne{K:wa2}{C D CB j:Addr}{nm g:Str}(U:eZ K C CB nm)(l:eZ K D j g)(h:¬nm=g):C≠D:=λe=>by
 subst e;obtain⟨q,N,bs,r,sub,ab,d,s,t,u,v,w,x,l1⟩:=U.lk;obtain⟨y,z,f,i,b,k,c,m,A,n,B,E,G,a⟩:=l.lk;rw[l1]at a;have:=congrArg (λo=>match o with |some (⟨_,_,.cls p,_⟩:Obj)=>p.name |_=>nm) a;exact h this
theorem eZ.neT{K:wa2}{C CB g:Addr}{nm j:Str}(U:eZ K C CB nm)(T:HX K g j)(h:¬nm=j):C≠g:=λe=>by
 subst e;obtain⟨q,N,bs,r,sub,ab,d,s,t,u,v,w,x,l1⟩:=U.lk;obtain⟨y,z,f,i,k,b,l,c,m,A,n,B,D,E,a⟩:=T.lk;rw[l1]at a;have:=congrArg (λo=>match o with |some (⟨_,_,.cls p,_⟩:Obj)=>p.name |_=>nm) a;exact h this
section
variable{prog:wau}{w:World}{A:Around}{E:Value->Shared->Prop}{s:Shared}{K:wa2}{x C CB D:Addr}{nm Qx Wl:Str}{od:Option Addr}
structure HY(K:wa2)(C:Addr):Prop where
 ha:findIn K (.ref C) "__class__"=some (some (.builtin "object.__class__"))
 hn:weZ K (.builtin "object.__class__") "__get__"=some (some (.builtin "getset_descriptor.__get__"))
 qL:takesIn K (.builtin "object.__class__")=some true
end
section
variable{X:Cx}
end
end L2
namespace L2
open PySem
end L2
namespace Sx
open PySem L2 Bs
theorem Qy:waV "int"=some (.type "int"):=by decide+kernel
theorem Qz:waV "dict"=some (.type "dict"):=by decide+kernel
theorem Mp:waV "bool"=some (.type "bool"):=by decide+kernel
theorem Fn:waV "sum"=some (.builtin "sum"):=by decide+kernel
theorem NI:waV "min"=some (.builtin "min"):=by decide+kernel
structure U5(K:wa2)(C CB:Addr)(nm:Str):Prop where
 lk:∃(q:Str) (N:Addr) (bs:List Value) (sn:List Str) (sub:List Value) (ab:Bool) (col:Option Bool) (dd:Option Addr) (k0 k1 k2 k3 k5:Option Value),
  K.lookup C=some (wbs nm q C N bs (oA CB) true sn sub ab col dd k0 k1 k2 k3 k5 "ValueError.__new__")
theorem KP
 (l:K.lookup C=some (wbs nm q C N bs (oA CB) true sn sub ab col dd k0 k1 k2 k3 k5 "ValueError.__new__")):U5 K C CB nm:=⟨q,N,bs,sn,sub,ab,col,dd,k0,k1,k2,k3,k5,l⟩
theorem KQ
 (l:K.lookup CB=some (wbs nm q CB N bs Sq hd sn sub ab col dd k0 k1 k2 k3 k5 "ValueError.__new__")):HX K CB nm:=⟨q,N,bs,hd,sn,sub,ab,col,dd,k0,k1,k2,k3,k5,l⟩
end Sx
namespace Sx
open PySem PySem.Spec PyProof.Rows L2
open PySem.W (clsIn mroIn typeIn subIn kitOne kitCls)
section
variable{K:wa2}{C CB D:Addr}{nm Qx Wl:Str}
end
end Sx
namespace AC
section
variable{W:List (List Nat)}{P:List Nat->Bool}{l m p q u:List Nat}{c:Nat}
def Good(W:List (List Nat))(l:List Nat):Prop:=∀w∈W,¬w <:+: l
def Pl(W:List (List Nat))(p:List Nat):Prop:=p=[]\/((∃w∈W,p <+: w/\p.length<w.length)/\Good W p)
theorem Good.sub(h:Good W l)(hs:m <:+: l):Good W m:=λw hw hi=>h w hw (hi.trans hs)
theorem Pl.init(h:Pl W (u++[c])):Pl W u:=by
 rcases h with h |⟨⟨w,hw,a,hl⟩,b⟩
 ·simp at h
 ·by_cases e:u=[]
  ·exact .inl e
  ·refine .inr ⟨⟨w,hw,(wdW u [c]).trans a,?_⟩,b.sub (wdW u [c]).isInfix⟩;rw[wa5]at hl;simp at hl;omega
noncomputable def kn(P:List Nat->Bool):List Nat->List Nat
 |[]=>[]
 |a::l=>if P (a::l)=true then a::l else kn P l
theorem jA:∀l,kn P l <:+ l
 |[]=>wfz _
 |a::l=>by
  unfold kn;split
  ·exact wfz _
  ·exact(jA l).trans (List.suffix_cons a l)
theorem uO(h0:P []=true):∀l,P (kn P l)=true
 |[]=>h0
 |a::l=>by
  unfold kn;split
  ·assumption
  ·exact uO h0 l
theorem jB(g:P q=true):∀{l},q <:+ l->q <:+ kn P l
 |[],h=>h
 |a::l,h=>by
  unfold kn;split
  ·exact h
  ·rename_i hn;rcases List.suffix_cons_iff.mp h with e |h
   ·grind
   ·exact jB g h
theorem HZ(g:p <:+ q)(j:q <:+ p):p=q:=g.eq_of_length (whP g.length_le j.length_le)
theorem AB:∀{q l:List Nat},q <:+ l++[c]->q=[]\/∃u,q=u++[c]/\u <:+ l:=λ{q l} h=>by
 rcases wgp q with e |⟨u,d,e⟩
 ·exact .inl e
 ·right
  rw[List.concat_eq_append]at e;obtain⟨t,a⟩:=h;subst e;rw[<-waS]at a;have b:=whD a rfl;have hd:d=c:=by grind
  exact⟨u,by rw[hd],t,b.1⟩
theorem CK(h:w <:+: l++[c]):w <:+: l\/w <:+ l++[c]:=by
 obtain⟨a,b,e⟩:=h;rcases wgp b with f |⟨g,d,f⟩
 ·grind
 ·grind [whD]
theorem Fo(r:∀x,P x=true↔Pl W x)(j:Good W l)(g:∀w∈W,w≠[]):Good W (kn P l++[c])↔Good W (l++[c]):=by
 have f:=jA (P:=P) l;constructor
 ·intro h w hw hi;rcases CK hi with z |z
  ·exact j w hw z
  ·rcases AB z with e |⟨u,rfl,d⟩
   ·exact g w hw e
   ·have a:Pl W u:=by
     by_cases e:u=[]
     ·exact .inl e
     ·exact .inr ⟨⟨_,hw,wdW u [c],by simp⟩,j.sub d.isInfix⟩
    have:=jB ((r u).mpr a) d;obtain⟨t,b⟩:=this;exact h _ hw (show u++[c] <:+ kn P l++[c] from ⟨t,by rw[<-waS,b]⟩).isInfix
 ·intro h;obtain⟨t,b⟩:=f;exact h.sub (show kn P l++[c] <:+ l++[c] from ⟨t,by rw[<-waS,b]⟩).isInfix
theorem CL(g:∀x,P x=true↔Pl W x)(j:Good W l):kn P (kn P l++[c])=kn P (l++[c]):=by
 have d:=jA (P:=P) l;have h0:P []=true:=(g []).mpr (.inl rfl)
 have b:kn P l++[c] <:+ l++[c]:=by
  obtain⟨t,f⟩:=d;exact⟨t,by grind⟩
 refine HZ (jB (uO h0 _) ((jA _).trans b)) (jB (uO h0 _) ?_);rcases AB (jA (P:=P) (l++[c])) with e |⟨u,e,h⟩
 ·rw[e];exact List.nil_suffix
 ·have a:=(g _).mp (uO h0 (l++[c]));rw[e]at a ⊢;obtain⟨t,f⟩:=jB ((g u).mpr a.init) h;exact⟨t,by grind⟩
end
end AC
namespace Bs
open PySem AC
theorem y9(x y:Str)(i:Nat):whi x y i=true↔((ch x).drop i).take y.length=ch y:=by
 unfold whi;rw[beq_iff_eq];constructor
 ·intro h;have:=congrArg Array.toList h;rw[wgH,wfj,wcw]at this;exact this
 ·intro h;refine wfx.mp ?_;rw[wgH,wfj,wcw];exact h
theorem KR(y x:Str):Nk y x=true↔ch y <:+: ch x:=by
 unfold Nk;rw[StrLaws.found_iff];constructor
 ·grind [y9,wfB,List.drop_suffix]
 ·rintro⟨a,b,e⟩;refine⟨a.length,?_,(y9 x y _).mpr ?_⟩
  ·rw[<-aV x,<-e,wa5,wa5,aV];omega
  ·rw[<-e,waS,wgq,<-aV y,wgr]
noncomputable def wl(ws:List Str):List (List Nat):=ws.map ch
theorem dW(ws:List Str)(r:Str):bears ws r=false↔Good (wl ws) (ch r):=by simp_all [bears,Good,wl,whe,KR,ch]
theorem ja(w:Str)(n:Nat):ch (di w n)=(ch w).take n:=Au w n
theorem kq(w:Str)(n:Nat):ch (d9 w n)=(ch w).drop n:=ow w n
theorem zf:k∈qT ws g b↔k∈g\/(k=b/\bears ws b=false):=by
 unfold qT za
 by_cases a:bears ws b=true
 ·grind
 ·grind
theorem pe:∀n,k∈upTo ws w g n↔k∈g\/∃i,i<n/\k=di w (1+i)/\bears ws k=false
 |0=>by
  show k∈g↔_;simp
 |n+1=>by
  rw[gy,zf,pe n];constructor
  ·grind
  ·grind
theorem jm(us:List Str):k∈bQ ws e us↔k=e\/∃w∈us,∃i,i<w.length-1/\k=di w (1+i)/\bears ws k=false:=by
 have key:∀(us b:List Str),k∈us.foldl (addW ws) b↔k∈b\/∃w∈us,∃i,i<w.length-1/\k=di w (1+i)/\bears ws k=false:=by
  intro us
  induction us with
  |nil=>intro b;simp
  |cons w us d=>
   intro b;rw[wdH,d];unfold addW;rw[pe];constructor
   ·rintro((h |⟨i,h⟩) |⟨c,a,h⟩)
    ·exact .inl h
    ·exact .inr ⟨w,waf ..,i,h⟩
    ·exact .inr ⟨c,wac _ a,h⟩
   ·rintro(h |⟨c,a,h⟩)
    ·exact .inl (.inl h)
    ·rcases waC.mp a with rfl |a
     ·exact .inl (.inr h)
     ·exact .inr ⟨c,a,h⟩
 unfold bQ;rw[key];simp
theorem mem_keys:k∈bQ ws "" ws↔Pl (wl ws) (ch k):=by
 rw[jm];constructor
 ·rintro(rfl |⟨w,hw,i,hi,e,a⟩)
  ·exact .inl rfl
  ·right
   refine⟨⟨ch w,wab.mpr ⟨w,hw,rfl⟩,?_,?_⟩,(dW ws k).mp a⟩
   ·rw[e,ja];exact wfB _ _
   ·rw[e,ja,wak,aV];omega
 ·rintro(h |⟨⟨v,b,c,hl⟩,d⟩)
  ·exact .inl (cI h)
  ·by_cases h0:ch k=[]
   ·exact .inl (cI h0)
   obtain⟨w,hw,rfl⟩:=wab.mp b
   right
   rw[aV,aV]at hl;have f:k.length≠0:=λz=>h0 (uI z);refine⟨w,hw,k.length-1,by omega,cI ?_,(dW ws k).mpr d⟩;rw[ja,show 1+(k.length-1)=k.length by omega,<-aV k];exact(List.prefix_iff_eq_take.mp c)
noncomputable def QA(ss:List Str)(l:List Nat):Bool:=decide (l∈ss.map ch)
theorem kr:QA ss (ch k)=true↔k∈ss:=by
 unfold QA;rw[decide_eq_true_iff];constructor
 ·grind [cI]
 ·grind
theorem Ia(g:ss.Perm (bQ ws "" ws))(l:List Nat):QA ss l=true↔Pl (wl ws) l:=by
 have e:ch ⟨l.toArray⟩=l:=rfl;rw[<-e,kr,g.mem_iff,mem_keys]
theorem ya{P:List Nat->Bool}(h0:P []=true):∀{l:List Nat} {n:Nat},P (l.drop n)=true->(∀m,m<n->P (l.drop m)=false)->kn P l=l.drop n
 |[],n,_,_=>by simp[kn]
 |a::l,0,b,_=>by
  unfold kn;rw[weO]at b;rw[if_pos b];rfl
 |a::l,n+1,b,c=>by
  have:=c 0 (by omega);rw[weO]at this;unfold kn;rw[this,if_neg (by simp),List.drop_succ_cons];exact ya h0 (by grind) λm d=>by grind
theorem ku(g:("":Str)∈ss)(r:Str):ch (lend ss r)=kn (QA ss) (ch r):=by
 have c:∃n,n<=r.length/\d9 r n∈ss/\∀m,m<n->d9 r m∉ss:=by
  have f:∃n,d9 r n∈ss:=⟨r.length,by rw[qU];exact g⟩
  have key:∀k,(∃n,n<k/\d9 r n∈ss/\∀m,m<n->d9 r m∉ss)\/∀m,m<k->d9 r m∉ss:=by
   intro k
   induction k with
   |zero=>right;intro m a;omega
   |succ k d=>
    rcases d with⟨n,hn,h⟩ |h
    ·exact .inl ⟨n,by omega,h⟩
    ·by_cases hk:d9 r k∈ss
     ·exact .inl ⟨k,by omega,hk,h⟩
     ·right
      intro m a
      by_cases e:m=k
      ·rw[e];exact hk
      ·exact h m (by omega)
  rcases key (r.length+1) with⟨n,hn,h⟩ |h
  ·exact⟨n,by omega,h⟩
  ·exact absurd (by rw[qU];exact g) (h r.length (by omega))
 obtain⟨n,hn,a,hl⟩:=c;unfold lend;rw[uL a hl hn,kq];refine(ya (kr (k:="").mpr g) ?_ λm b=>?_).symm
 ·rw[<-kq];exact kr.mpr a
 ·rw[<-kq];have:=hl m b;rw[<-kr]at this;simpa using this
section
variable{ws ss:List Str}{r:Str}{c:Nat}
theorem Ib(g:("":Str)∈ss):lend ss ""="":=by
 refine cI ?_;rw[ku g];rfl
theorem nE(g:ss.Perm (bQ ws "" ws))(j:bears ws r=false):lend ss (lend ss r++⟨#[c]⟩)=lend ss (r++⟨#[c]⟩):=by
 have a:("":Str)∈ss:=g.mem_iff.mpr (cn ws);refine cI ?_;rw[ku a,aY,ku a,ku a,aY];exact CL (Ia g) ((dW ws r).mp j)
theorem ky(g:ss.Perm (bQ ws "" ws))(j:bears ws r=false)(hw:∀w∈ws,1<=w.length):bears ws (lend ss r++⟨#[c]⟩)=bears ws (r++⟨#[c]⟩):=by
 have b:("":Str)∈ss:=g.mem_iff.mpr (cn ws)
 have a:∀w∈wl ws,w≠[]:=by
  intro w d z;obtain⟨v,e,rfl⟩:=wab.mp d;have:=hw v e;rw[<-aV,z]at this;simp at this
 have:=Fo (c:=c) (Ia g) ((dW ws r).mp j) a;rw[show [c]=ch (⟨#[c]⟩:Str) from rfl,<-ku b,<-aY,<-aY,<-dW,<-dW]at this;cases f:bears ws (lend ss r++⟨#[c]⟩)<;>cases h:bears ws (r++⟨#[c]⟩)<;>simp[f,h]at this ⊢
theorem jC(h:ch a <:+: ch b)(g:bears ws b=false):bears ws a=false:=(dW ws a).mpr (((dW ws b).mp g).sub h)
end
end Bs
namespace L2
open PySem PySem.Spec PyProof.Rows
section
variable{X:Cx}
theorem sx:eF X (.type "range") (λxs H Q=>∃j:Int,xs=[.int j]/\∀p,H p=none->Q (.ref p) (upd H p (.rng 0 j))):=by
 intro a s σ H xs c Q I r h;obtain⟨j,rfl,q⟩:=h;obtain⟨u,rfl,t,rfl⟩:=vals1 r;refine call_range_1 ⟨.ref s.heap.objs.size,_,I.laid (λb ob q=>wa8 _ q) (waa _) (show cb X.prog X.w _ _ _ (.rng 0 j) from ⟨_,_,_,waq _ rfl⟩),rfl,q _ (I.b4.fresh (waa _))⟩
theorem uP(hc:X.calm=true):eF X (.type "list") (λxs H Q=>∃(p:Addr) (n:Nat),xs=[.ref p]/\H p=some (.rng 0 (n:Int))/\n<=sizeLine/\∀l,H l=none->Q (.ref l) (upd H l (.lst ((waH n).map λi=>V.int (i:Nat))))):=by
 intro m s σ H xs b Q I r h;obtain⟨p,n,rfl,x,hn,q⟩:=h;obtain⟨u,rfl,y⟩:=vals1 r;cases y;obtain⟨t,u,v,e⟩:=I.b4 p _ x;have f:n<=2^24:=by rw[wcb]at hn;omega
 refine call_list_range (I.ok.hd hc) (n:=n) (show IsRange s.heap p 0 (n:Int) 1 t u v from e) (small_one (by omega) (by omega) (by omega) (by omega)) (by rw[rangeSize_one];split<;>omega) f λg z d c kp A a=>?_
 have B:∀(b:List Value) (k:Nat),(∀(j:Nat) (u:Value),b[j]?=some u->∃t,u=.int ((k+j:Nat):Int) t)->Vals ((wgc k b.length).map λi=>V.int (i:Nat)) b:=by
  intro b
  induction b with
  |nil=>intro k _;exact .nil
  |cons u b C=>
   intro k h;obtain⟨t,e⟩:=h 0 u rfl;rw[waK,whE,waz];refine .cons ⟨t,e⟩ (C (k+1) λj u g=>?_);obtain⟨t,e⟩:=h (j+1) u (by simpa using g);exact⟨t,by rw[e];congr 1;omega⟩
 have hl:d.toList.length=n:=by rw[wcx];exact a.1
 have o:=B d.toList 0 λj u e=>by
  obtain⟨t,D⟩:=a.2 j u (by rw[<-wcj];exact e);exact⟨t,by rw[D];congr 1;omega⟩
 rw[hl,<-List.range_eq_range']at o;refine⟨.ref s.heap.objs.size,_,I.laid (t':=z) kp (waa _) (show cb X.prog X.w _ g _ (.lst ((waH n).map λi=>V.int (i:Nat))) from ⟨?_,d.toList,c,o,?_⟩),rfl,q _ (I.b4.fresh (waa _))⟩
 ·rw[wa0,waO];exact hn
 ·rw[wdv];exact A
end
noncomputable def Ic(z:Str):It:=⟨λi _=>i<z.cps.size,λi H x H'=>∃T,H T=none/\x=.ref T/\H'=upd H T (.tup [.int (i:Nat),si z i]),λi _=>z.cps.size<=i⟩
theorem CM{P:wau}{w:World}{K:wa2}{C:List Expr}{k:Nat}{pos:Pos}(z:Str)(t:Tok)(nm:String)(e it:Addr)(l:e≠it)
 (D:∀A:Around,A.handled=none->Draws P w A it [it] z.cps.size (λi v=>∃c u,z.cps[i]?=some c/\v=.str ⟨#[c]⟩ u) (λi h=>h.IsStrIter it nm z t i)) :
 Turn P w K (.Tuple C k pos) (Ic z) [e,it] e (λi h=>((∃old,IsEnum h e it (i:Nat) old)/\h.IsStrIter it nm z t i)/\i<=z.cps.size) where
 mem:=by simp
 obj:=λi h st b a=>by
  obtain⟨⟨⟨old,d⟩,o,B,hc,hd⟩,_⟩:=st;rcases waC.mp a with rfl |a
  ·exact⟨_,d,λv z=>by
    have z':wdC _=weU v:=z
    cases z'⟩
  ·have p:b=it:=by simpa using a
   subst p;exact⟨o,B,λv z=>by rw[hd]at z;cases z⟩
 keep:=λi h h' st k=>⟨⟨st.1.1.imp λold d=>k e (by simp) _ d,let ⟨o,B,r⟩:=st.1.2;⟨o,k it (by simp) o B,r⟩⟩,st.2⟩
 item:=by
  intro X Q hw R hc i j s σ H E I G st S;subst Q hw R;obtain⟨⟨⟨old,d⟩,hit⟩,_⟩:=st;have J:i<z.cps.size:=S;obtain⟨f0,f1,f2,f3,f4,f5⟩:=G e (by simp);obtain⟨T,g1,g2,g3,U,V⟩:=G it (by simp);refine wfL (D X.A.in1 (I.ok.hd hc)) d hit J l (by simpa using l) λu h' Y hu B L hT hsz hk=>?_;obtain⟨c,O,Z,rfl⟩:=hu
  have ru:RelV (si z i) (.str ⟨#[c]⟩ O):=⟨O,by
   rw[wcD,Z]
   rfl⟩
  refine⟨_,rfl,wdA B λf P0 x=>?_⟩;have kp:∀b o,b≠e->b≠it->s.heap.get? b=some o->f.get? b=some o:=λb o h1 h2 q=>(x.2 b h1).trans (hk b o h1 h2 q);have M:e<s.heap.objs.size:=wae d;have Ks:s.heap.objs.size≠e:=wbU M;have Kt:f.get? s.heap.objs.size=some {cls:=.type "tuple",data:=.seq #[.int i Y,.str ⟨#[c]⟩ O]}:=(x.2 _ Ks).trans hT;have y:=I.b4.fresh (waa s.heap.objs.size);have g:∀b o,H b=some o->b≠e/\b≠it:=λb o q=>⟨(λz=>by rw[z,f0]at q;cases q),(λz=>by rw[z,T]at q;cases q)⟩
  have N:jt X.prog X.w (upd H s.heap.objs.size (.tup [.int (i:Nat),si z i])) f:=by
   intro b o q
   by_cases a:b=s.heap.objs.size
   ·subst a;rw[a6]at q;cases q;exact⟨by show 2<=sizeLine;decide,[.int i Y,.str ⟨#[c]⟩ O],.cons ⟨_,rfl⟩ (.cons ru .nil),⟨_,Kt,rfl,_,rfl⟩⟩
   ·rw[ae a]at q;refine(I.b4 b o q).qN (λc v hc r=>?_) (λc r=>by rw[ae (af r y)];exact r) λc ys r=>by rw[ae (af r y)];exact r
    rcases hc with z |z
    ·rw[z]at r ⊢;exact kp b v (g b o q).1 (g b o q).2 r
    ·exact kp c v (g c _ z).1 (g c _ z).2 r
  have I1:Inv X j σ (upd H s.heap.objs.size (.tup [.int (i:Nat),si z i])) {s with heap:=f,gens:=s.gens,drawn:=s.drawn,toks:=Y+1}:=by
   refine I.step (ch:=[e,it]) (λb a=>?_) (λb o _ _ hc q _=>kp b o (λz=>hc (by simp[z])) (λz=>hc (by simp[z])) q) (λb o _ _ hc q _=>⟨o.slots,kp b o (λz=>hc (by simp[z])) (λz=>hc (by simp[z])) q⟩)
    (λb o _ q n=>by rw[ae (war (wae q))];exact n) (λb o hc q=>⟨o,kp b o (λz=>hc (by simp[z])) (λz=>hc (by simp[z])) q⟩)
    (λb ys r=>by rw[ae (af r y)];exact r) (λb o u r=>by rw[ae (af r y)];exact r) (λb ps r=>⟨#[],by rw[ae (af r y),r];simp⟩)
    (λm ⟨o,es,ep,Nj,r⟩=>⟨o,es,ep,kp _ o (wb9 f1) (wb9 g1) Nj,r⟩) N I.bare
   rcases waC.mp a with rfl |a
   ·exact⟨f3,f1,f4,f5⟩
   ·have p:b=it:=by simpa using a
    subst p;exact⟨g3,g1,U,V⟩
  refine⟨.ref s.heap.objs.size,_,I1,rfl,⟨s.heap.objs.size,y,rfl,rfl⟩,⟨⟨⟨_,by simpa using P0⟩,?_⟩,J⟩,λb a=>?_⟩
  ·obtain⟨o,YN,r⟩:=L;exact⟨o,(x.2 it (wb9 l)).trans YN,r⟩
  ·have:b<s.heap.objs.size:=by
    rcases waC.mp a with rfl |a
    ·exact M
    ·have p:b=it:=by simpa using a
     subst p;obtain⟨o,q,_⟩:=hit;exact wae q
   rw[ae (war this)];exact(G b a).1
 done:=by
   intro X Q hw R hc i j s σ H E I G st S;subst Q hw R;obtain⟨⟨⟨old,d⟩,hit⟩,hle⟩:=st;have Qs:z.cps.size<=i:=S;have p:i=z.cps.size:=by omega
   subst p;obtain⟨T,g1,g2,g3,U,V⟩:=G it (by simp);exact wgd (D X.A.in1 (I.ok.hd hc)) d hit λh' eb=>⟨rfl,I.turned (t':=s.toks) (λb o a e=>eb b o a e) T g1 g3 U V⟩
 self:=λ_ _ _ _ _ st h=>let ⟨⟨⟨_,d⟩,_⟩,_⟩:=st;wcN d h
section
variable{X:Cx}
def NK(ta:TA):TI:=λσ H R=>ta σ H λvs H1=>∃z,vs=[.str z]/\R (Ic z) H1
theorem AD{g:List Expr}{k:Nat}{j:Pos}{l:Expr}{C:TA}{p pos:Pos}(J:Gl X "enumerate")(T:X.mg "enumerate"=none)(ha:PA X [l] C)(hs:starEach [l] X.env=[(false,eval l X.env)]:=by rfl) :
 PI X (.Tuple g k j) (.Call (.Name "enumerate" p) [l] [] pos) (NK C):=by
 intro d s σ H R I h;refine Call_ (gv I J T hZ (wbr (bO (ha pos d s σ H _ I h) λQ a ⟨S,B,o,G,L⟩=>?_) hs rfl));obtain⟨z,e,q⟩:=L;subst e;obtain⟨u,rfl,t,rfl⟩:=vals1 G;refine call_enumerate_str λr E hit M kp=>wcN E ?_;have N:Inv X d σ B {a with heap:=r}:=o.kept (t':=a.toks) kp
 have fin:∀n,(∀A:Around,A.handled=none->Draws X.prog X.w A a.heap.objs.size [a.heap.objs.size] z.cps.size (λi v=>∃c u,z.cps[i]?=some c/\v=.str ⟨#[c]⟩ u) (λi h=>h.IsStrIter a.heap.objs.size n z t i)) ->
  r.IsStrIter a.heap.objs.size n z t 0->OW X d σ (.Tuple g k j) R (.ref (a.heap.objs.size+1)) {a with heap:=r}:=by
  intro n D f;refine⟨a.heap.objs.size+1,[a.heap.objs.size+1,a.heap.objs.size],_,_,B,rfl,N,CM z t n _ _ (wbU (wbI _)) D,⟨⟨⟨_,E⟩,f⟩,waB _⟩,λb x=>?_,q⟩
  have m:a.heap.objs.size<=b:=by
   rcases waC.mp x with rfl |x
   ·exact wc1 _
   ·have O:b=a.heap.objs.size:=by simpa using x
    subst O;exact waa _
  exact o.wK m (o.b4.fresh m)
 cases ha:z.cps.all (· < 128)
 ·exact fin "str_iterator" (λA y=>Draws.strWide y _ z t) (by simpa [strIterType,ha] using hit)
 ·exact fin "str_ascii_iterator" (λA y=>Draws.strAscii y _ z t) (by simpa [strIterType,ha] using hit)
end
theorem yc{z:Str}{g:TG}{C:TS}{D:Ends}{σ:St}{H:Hp}(Pv:Nat->St->Hp->Prop)(h0:Pv 0 σ H)
 (hs:∀i c σ H T,(Bs.ch z)[i]?=some c->Pv i σ H->H T=none->g (.ref T) σ (upd H T (.tup [.int (i:Nat),.str ⟨#[c]⟩])) λj t=>C {D with nx:=Pv (i+1),ct:=Pv (i+1),bk:=D.nx} j t) (hd:∀σ H,Pv z.length σ H->D.nx σ H) :
 ∃W:Nat->Nat->St->Hp->Prop,(∃m,W 0 m σ H)/\∀i m σ H,W i m σ H ->
  ((Ic z).stop i H/\D.nx σ H)\/((Ic z).go i H/\∃N:St->Hp->Prop,(∀l r,N l r->∃I,I<m/\W (i+1) I l r)/\∀x r,(Ic z).u0 i H x r->g x σ r λj t=>C {D with nx:=N,ct:=N,bk:=D.nx} j t):=by
 refine⟨λi m σ H=>m=z.length-i/\i<=z.length/\Pv i σ H,⟨z.length,by simp,waB _,h0⟩,?_⟩;rintro i m σ H ⟨rfl,hi,p⟩
 by_cases a:i<z.length
 ·refine .inr ⟨a,Pv (i+1),λl r b=>⟨z.length-(i+1),by omega,rfl,a,b⟩,λx r y=>?_⟩;obtain⟨T,d,f,h⟩:=y;subst f h
  have hc:(Bs.ch z)[i]?=some (z.cps.getD i 0):=by
   have:i<z.cps.size:=a;rw[wcj];simp[this]
  exact hs i _ σ _ T hc p d
 ·have e:i=z.length:=by omega
  subst e;exact .inl ⟨waa _,hd σ H p⟩
end L2
namespace Sx
open PySem L2
theorem Ie:waV "max"=some (.builtin "max"):=by decide+kernel
theorem Ee:waV "range"=some (.type "range"):=by decide+kernel
end Sx
namespace Sx
open PySem L2 Bs
set_option genInjectivity true in
inductive Thing(H:Hp):V->Prop where
 |flat {v:V} (h:eh v=true):Thing H v
 |lst {a:Addr} {xs:List V} (h:H a=some (.lst xs)) (f:xs.all eh=true):Thing H (.ref a)
 |tup {a:Addr} {xs:List V} (h:H a=some (.tup xs)) (f:xs.all eh=true):Thing H (.ref a)
 |dic {a:Addr} (h:H a=some (.dK [])):Thing H (.ref a)
theorem CQ(j:H e=none)(hd:(upd H e g) d=none):d≠e/\H d=none/\del (upd (upd (upd H e g) d o2) e o3) e=upd H d o2:=by grind [a6,ae,zc,CH,Ed]
section
variable{P:wau}{w:World}{K:wa2}{mg:Str->Option Value}{base:Heap}{f:Addr}{fd:wad}
end
end Sx
namespace PySem.SeqAt
open AutoSeq1 (wpAny_loadPart')
open MeetsSeq
section
variable{A:Around}{s:Shared}
end
end PySem.SeqAt
namespace L2
open PySem PySem.Spec PyProof.Rows Sx
section
variable{X:Cx}
end
end L2
namespace L2
open PySem PySem.Spec PyProof.Rows
section
variable{X:Cx}
end
theorem Ig(v:V):V.bl (decide (v=v))=V.bl true:=by simp
theorem CT(v:V):V.bl (!decide (v=v))=V.bl false:=by simp
end L2
namespace Bs
open PySem AC
theorem pf(g:("":Str)∈ss)(r:Str):lend ss r∈ss:=by
 rw[<-kr,ku g];exact uO (kr (k:="").mpr g) _
theorem take_snoc(h:(ch r)[i]?=some c):di r (i+1)=di r i++⟨#[c]⟩:=by grind [cI,aY,ja,waN]
theorem take_zero(r:Str):di r 0="":=cI (by rw[ja];rfl)
theorem take_all(r:Str):di r r.length=r:=cI (by rw[ja,<-aV,waI])
theorem AF(r:Str)(n:Nat):ch (di r n) <:+: ch r:=by rw[ja];exact(wfB _ _).isInfix
theorem Fp(hw:∀w∈ws,1<=w.length):bears ws ""=false:=by
 refine(dW ws "").mpr λw a hi=>?_;obtain⟨v,b,rfl⟩:=wab.mp a;have d:=hw v b;have c:=hi.length_le;rw[aV]at c;have:(ch ("":Str)).length=0:=rfl;omega
end Bs
namespace L2
open PySem Bs
theorem KS(g:ss.Perm (bQ ws "" ws))(hw:∀w∈ws,1<=w.length)(j:bears ws r=false) :
 ub ws ss (lend ss r) c=if bears ws (r++⟨#[c]⟩)=true then .non else .str (lend ss (r++⟨#[c]⟩)):=by grind [ub,ky,nE]
end L2
namespace Sx
open PySem L2 Bs
theorem kz(g:Str)(b d q:Addr):(CA g b d q).lookup ("signs":Str)=some (.str g):=by
 rw[<-Fi,aE,if_neg (by decide+kernel),<-put3,aE,if_neg (by decide+kernel),<-put2,aE,if_neg (by decide+kernel),<-Nr,aE,if_pos rfl]
section
variable{P:wau}{w:World}{K:wa2}{mg:Str->Option Value}{base:Heap}{f:Addr}{fd:wad}
inductive CU(C:Addr)(vs:List V)(H:Hp)(Q:VK)(eE:XK):Prop
 |mk (x r g ws ss ls) (_:vs=[.ref x,.str r]) (_:aX C H x g ws ss ls) (_:(∀c∈ch r,c∈ch g)) (_:∀H',a8 H H'->Q .non H')
inductive Fq(C:Addr)(vs:List V)(H:Hp)(Q:VK)(eE:XK):Prop
 |mk (x r g ws ss ls) (_:vs=[.ref x,.str r]) (_:aX C H x g ws ss ls) (_:(∀c∈ch r,c∈ch g)) (_:bears ws r=false) (_:(∀w∈ws,1<=w.length)) (_:∀H',a8 H H'->Q (.str (lend ss r)) H')
end
end Sx
namespace L2
open PySem PySem.Spec PyProof.Rows
section
variable{X:Cx}
end
end L2
namespace Bs
open PySem
theorem len_app(a b:Str):(a++b).length=a.length+b.length:=by grind [aV,aY]
end Bs
namespace Sx
open PySem L2 Bs
theorem none_of(s:a8 H g)(h:g d=none):H d=none:=by
 cases q:H d with
 |none=>rfl
 |some o=>rw[s _ _ q]at h;cases h
end Sx
namespace Bs
open PySem
end Bs
namespace Sx
open PySem L2 Bs
theorem sy(g:Str)(b d q:Addr):(CA g b d q).lookup ("barred":Str)=some (.ref b):=by
 rw[<-Fi,aE,if_neg (by decide+kernel),<-put3,aE,if_neg (by decide+kernel),<-put2,aE,if_pos rfl]
end Sx
namespace L2
open PySem
end L2
namespace L2
open PySem PySem.Spec PyProof.Rows
section
variable{P:wau}{w:World}{K:wa2}{mg:Str->Option Value}{base:Heap}{x qual:Str}{st:Stmt}{f:Addr}{fd:wad}{N ps:List Str}{k:Nat}{sp:Sp}
theorem Al.dQ(F:Al K x qual st f fd)
 (l:∀(j:Value) (A:Around) (outer:List Env) (s:Shared) (H:Hp) (vs:List V) (Q:VK) (E:XK),N.Nodup->eM k (A.deeper (envOfC qual (aI st) s.heap.objs.size f j))->sp vs H Q E ->
   ∃t,wI (uz d8 P w K mg base N qual (aI st) f j A outer s H E).M9 (cf st) t/\t {nx:=λ_ p=>Q .non p,rt:=Q} (start N vs) H)
 (a:(aI st).kind=.function:=by rfl) (b:(aI st).isCoroutine=false:=by rfl) (c:(aI st).isGenerator=false:=by rfl) (nd:N.Nodup:=by decide+kernel) (e:N.take ps.length=ps:=by rfl)
 (g:∀x∈ps,(aI st).names.lookup x=some .local\/(aI st).names.lookup x=some .cell:=by decide+kernel) (h:∀y∈(aI st).names,y.2≠.free:=by decide+kernel)
 (len:∀vs H Q E,sp vs H Q E->vs.length=ps.length:=by intro _ _ _ _ h;cases h;subst_vars;rfl):aS P w K mg base d8 (k+1) f fd ps sp:=
 F.ok ⟨a,b,c,nd,e,g,h⟩ len λj A outer s H vs Q E=>l j A outer s H vs Q E nd
theorem Al.Fs(F:Al K x qual st f fd)
 (l:∀(j:Value) (A:Around) (outer:List Env) (s:Shared) (H:Hp) (vs:List V) (Q:VK) (E:XK),N.Nodup->eM k (A.deeper (envOfC qual (aI st) s.heap.objs.size f j))->sp vs H Q E ->
   ∃t,wI (uz (BX P w) P w K mg base N qual (aI st) f j A outer s H E) (cf st) t/\t {nx:=λ_ p=>Q .non p,rt:=Q} (start N vs) H)
 (a:(aI st).kind=.function:=by rfl) (b:(aI st).isCoroutine=false:=by rfl) (c:(aI st).isGenerator=false:=by rfl) (nd:N.Nodup:=by decide+kernel) (e:N.take ps.length=ps:=by rfl)
 (g:∀x∈ps,(aI st).names.lookup x=some .local\/(aI st).names.lookup x=some .cell:=by decide+kernel) (h:∀y∈(aI st).names,y.2≠.free:=by decide+kernel)
 (len:∀vs H Q E,sp vs H Q E->vs.length=ps.length:=by intro _ _ _ _ h;cases h;subst_vars;rfl):aS P w K mg base (BX P w) (k+1) f fd ps sp:=
 F.YL ⟨a,b,c,nd,e,g,h⟩ len λj A outer s H vs Q E=>l j A outer s H vs Q E nd
end
section
variable{X:Cx}
theorem au(F:aS X.prog X.w X.K X.mg X.base d8 k f fd ps sp)(a:FnAt X.K X.mg x sm ps f fd)(ha:PA X (e::j) t)(C:eM k X.A:=by exact eM.mono (by assumption) (by decide))(I:Gl X x:=by rfl)(l:(x==("__debug__":Str))=false:=by decide)
 (J:starEach (e::j) X.env=(false,eval e X.env)::starEach j X.env:=by rfl) (r:(backTo pos (starEach j X.env)).any (·.1)=false:=by rfl):PE X (.Call (.Name x p) (e::j) [] pos) (Md sp [] E0 t):=
 k9 F C I a.g a.F.kp a.b .nil bI ha l J r
theorem ai{i:Nat}{x:Str}{e:Expr}{j:TE}{g:Pos}(l:PE X e j)(p:X.N.Nodup:=by assumption)(hi:X.N[i]?=some x:=by rfl)(r:Loc X.env.scope x:=by first |exact wdR rfl |exact Or.inr rfl)(hs:wc6 e (some (.Name x g)) pos.line X.env=pure false:=by rfl)
 (t:X.fn x=true\/X.env.scope.names.lookup x=some .local:=by first |exact .inl rfl |exact .inr rfl |assumption):PS X (.Assign [.Name x g] e pos) (K9 j (dD i)):=
 GR p hi r l hs t
theorem aw{i:Nat}{x:Str}(g:X.N.Nodup:=by assumption)(hi:X.N[i]?=some x:=by rfl)(j:Loc X.env.scope x:=by first |exact wdR rfl |exact Or.inr rfl)(l:X.fn x=true\/X.env.scope.names.lookup x=some .local:=by first |exact .inl rfl |exact .inr rfl |assumption):PG X (.Name x pos) (dD i):=
 jZ g hi j l
end
section
variable{X:Cx}
theorem kA:∀{ns:List Int} {g:List Value},Vals (ns.map V.int) g->∃xs:List (Int×Tok),g=xs.map (λp=>wfQ p.1 p.2)/\xs.map (·.1)=ns
 |[],g,r=>by cases r;exact⟨[],rfl,rfl⟩
 |n::ns,g,r=>by
  cases r with
  |cons h t=>
   obtain⟨a,rfl⟩:=h;obtain⟨xs,rfl,e⟩:=kA t;exact⟨(n,a)::xs,rfl,by grind⟩
theorem ml(hc:X.calm=true):eF X (.builtin "sum") (λxs H Q=>∃p ns,xs=[.ref p]/\aM X.K H p (wdl V.int ns)/\Q (.int ns.sum) H):=by
 intro b s σ H xs j Q I r h;obtain⟨p,ns,rfl,d,q⟩:=h;obtain⟨u,rfl,f⟩:=vals1 r;cases f;obtain⟨a,g,pl,k⟩:=I.list d;obtain⟨c,e,rfl⟩:=kA g
 have hl:s.heap.IsList p (intItems c.toArray):=by
  have:intItems c.toArray=a.toArray:=by rw[e];unfold intItems;simp
  rw[this];exact pl.isList
 refine sum_intListG (I.ok.hd hc) hl λl m i hk=>?_;refine⟨.int _,H,I.kept hk,⟨i,?_⟩,q⟩;rw[preSum_eq,wbd (by simp)]
end
theorem Inv.freeze{X:Cx}(I:Inv X g σ H s)(e:H d=some (.dK kvs)):∃o,s.heap.get? d=some o/\Inv X g σ (upd H d (.frz o (.dK kvs))) s:=by
 have ok:=I.b4 d _ e;obtain⟨z,y,f,rel,o,h,i,a,j⟩:=id ok;refine⟨o,a,?_⟩;exact I.write (x:=d) (e:=d) (h':=s.heap) (t':=s.toks) (by rw[e];exact trivial) (.inl rfl) (λb u _ c=>c) ⟨_,a⟩ ⟨a,ok⟩
noncomputable def KU(d:Addr)(o:Obj)(kvs:List (Key×V)):It:=⟨λi H=>H d=some (.frz o (.dK kvs))/\i<kvs.length,λi H x H'=>H'=H/\∃kv,kvs[i]?=some kv/\x=kV kv.1,λi H=>H d=some (.frz o (.dK kvs))/\kvs.length<=i⟩
theorem jD(d:Addr)(o:Obj)(kvs:List (Key×V)):lY (KU d o kvs) (λH=>H d=some (.frz o (.dK kvs))) (kvs.map λg=>kV g.1) where
 go:=λi H ok h=>⟨ok,by rwa[wa0]at h⟩
 u0:=λi H x a ok h q=>by
  obtain⟨rfl,g,e,rfl⟩:=q;refine⟨rfl,?_⟩;rw[wa4,e];rfl
 stop:=λH ok=>⟨ok,by rw[wa0];exact waa _⟩
theorem CV{κ:Type}:∀{kvs:List (κ×V)} {vs:List (κ×Value)},KV kvs vs->∀{i:Nat} {p:κ×V},kvs[i]?=some p->∃q,vs[i]?=some q/\p.1=q.1/\RelV p.2 q.2
 |_,_,.nil,i,p,h=>by simp at h
 |_,_,.cons r t,i,p,h=>by
  cases i with
  |zero=>exact⟨_,rfl,by have:=wag h;subst this;exact r⟩
  |succ i=>exact CV t h
theorem qW{X:Cx}(I:Inv X g σ H s)(e:H d=some (.frz o (.dK kvs)))(j:o.data=.dict p ep) :
 ∃vs,KV kvs vs/\s.heap.DictAt (bc X.prog X.w) d vs ep:=by
 obtain⟨f,_⟩:=I.b4 d _ e;obtain⟨_,_,vs,rel,h,a,i,b,k,c,l⟩:=jy I.b4 (.inr ⟨o,e⟩);refine⟨vs,rel,h,a,b,k,?_,l⟩;rw[f]at b;cases b;rw[c]at j;cases j;exact c
theorem Ft{P:wau}{w:World}{K:wa2}{T:Expr}(d it:Addr)(o:Obj)(kvs:List (Key×V))(U:Array DictEntry)(ep:Nat)(J:o.data=.dict U ep):Turn P w K T (KU d o kvs) [it] it (λi h=>h.IsKeyIter it d i kvs.length ep) where
 mem:=by simp
 obj:=λi h st b j=>by
  have e:b=it:=by grind
  subst e;obtain⟨o,e,c,D⟩:=st;exact⟨o,e,λv z=>by grind⟩
 keep:=λi h m st k=>st.at λo e=>k it (by simp) o e
 item:=by
  intro X p hw q hc i a s σ H E I n st r;subst p hw q;obtain⟨u,hi⟩:=r;obtain⟨L,rel,f⟩:=qW I u J;have G:kvs[i]?=some kvs[i]:=by simp[hi]
  obtain⟨⟨k,v⟩,M,N,_⟩:=CV rel G;obtain⟨x,f1,f2,A,B,C⟩:=n it (by simp);rw[rel.length]at st;refine wpAny_pyNext_dict_item st f M λkey m l g sb=>?_;have O:Inv X a σ H {s with heap:=m}:=I.turned (t':=s.toks) (λb o j e=>(sb.2 b j).trans e) x f1 A B C;obtain⟨S,e,c,D⟩:=id g;rw[<-rel.length]at g;refine⟨key,rfl,xJ (s:={s with heap:=m}) e c D (by decide) ⟨kV kvs[i].1,H,O,?_,⟨rfl,_,G,rfl⟩,g,λb j=>(n b j).1⟩⟩;have Q:kvs[i].1=k:=N;rw[Q];rcases bS l with⟨i,t,rfl,rfl⟩ |⟨y,t,rfl,rfl⟩
  ·exact⟨t,rfl⟩
  ·exact⟨t,rfl⟩
 done:=by
   intro X p hw q hc i a s σ H E I n st r;subst p hw q;obtain⟨u,hi⟩:=r;obtain⟨L,rel,f⟩:=qW I u J;obtain⟨x,f1,f2,A,B,C⟩:=n it (by simp);rw[rel.length]at st hi;exact wpAny_pyNext_dict_end (I.ok.hd hc) st f (by simp;omega) λm R=>⟨rfl,I.turned (t':=s.toks) (λb o j e=>R b o j e) x f1 A B C⟩
 self:=λ_ _ _ _ _ st h=>wpAny_pyIter_keyiter st h
section
variable{X:Cx}{tg:Expr}
def QB(tl:TE):TI:=λσ H R=>tl σ H λx H1=>∃d kvs,x=.ref d/\((H1 d=some (.dK kvs)/\∀o,R (KU d o kvs) (upd H1 d (.frz o (.dK kvs))))\/∃o,H1 d=some (.frz o (.dK kvs))/\R (KU d o kvs) H1)
theorem ud{l:Expr}{p:TE}(hl:PE X l p):PI X tg l (QB p):=by
 intro a s σ H R I h;refine bO (hl a s σ H _ I h) λv g ⟨x,D,m,t,j⟩=>?_;obtain⟨d,f,e,q⟩:=j;subst e;cases t
 have key:∀{i:Hp} {o:Obj},Inv X a σ i g->i d=some (.frz o (.dK f))->R (KU d o f) i->wpAny (model X.prog X.w) X.A (pyIter (.ref d)) (OW X a σ tg R) X.xe g:=λ{i o} c hd u=>by
  obtain⟨E,lo,y,n,G,z,B,j,J,r,L⟩:=jy c.b4 (.inr ⟨o,hd⟩);obtain⟨C,_⟩:=c.b4 d _ hd;rw[C]at j;cases j;obtain⟨M,rel,k⟩:=qW c hd r;refine wpAny_pyIter_dict lo k ?_;refine⟨g.heap.objs.size,[g.heap.objs.size],_,_,i,rfl,c.kept (t':=g.toks) λb o e=>wa8 _ e,Ft d _ o f z B r,⟨_,waq _ rfl,rfl,by rw[rel.length];rfl⟩,λb N=>?_,u⟩;have e:b=g.heap.objs.size:=by grind
  subst e;exact c.wK (waa _) (c.b4.fresh (waa _))
 rcases q with⟨hd,q⟩ |⟨o,hd,q⟩
 ·obtain⟨o,O,c⟩:=m.freeze hd;exact key c a6 (q o)
 ·exact key m hd q
end
end L2
namespace L2
open PySem Bs
theorem eD.f{H:Hp}{a:Addr}{o:Obj}{kvs:List (Key×V)}{k:Key}(e:H a=some (.frz o (.dK kvs))):eD H a (kV k) (bA kvs k):=.inl ⟨kvs,k,.inr ⟨o,e⟩,rfl,rfl⟩
noncomputable def i3(g:Str)(ws ss:List Str)(p:Str):List Str:=(ch g).filterMap λc=>if bears ws (p++⟨#[c]⟩)=true then none else some (lend ss (p++⟨#[c]⟩))
noncomputable def CW(v:V):Bool:=!decide (v=.non)
theorem AG(ws ss:List Str)(p:Str)(g:List Nat):((g.map (ub ws ss p)).filter CW)=(g.filterMap λc=>if bears ws (p++⟨#[c]⟩)=true then none else some (lend ss (p++⟨#[c]⟩))).map V.str:=by
 induction g with
 |nil=>rfl
 |cons c g a=>
  grind [ub,lend,CW]
theorem CY(g:Str)(ws ss:List Str)(p:Str):(i3 g ws ss p).length<=g.length:=by
 unfold i3;have:=wcW (λc=>if bears ws (p++⟨#[c]⟩)=true then none else some (lend ss (p++(⟨#[c]⟩:Str)))) (ch g);rw[aV]at this;exact this
theorem CZ(j:("":Str)∈ss)(h:t∈i3 g ws ss p):t∈ss:=by grind [i3,pf]
noncomputable def iB(g:Str)(ws ss:List Str):Nat->Str->Int
 |0,_=>1
 |n+1,p=>((i3 g ws ss p).map (iB g ws ss n)).sum
noncomputable def qX(f:Str->V)(ks:List Str):List (Key×V):=ks.map λp=>((wai p:Key),f p)
theorem uQ(f:Str->V)(h:k∈g):bA (qX f g) (wai k:Key)=some (f k):=by
 induction g with
 |nil=>simp at h
 |cons j g a=>
  by_cases e:j=k
  ·subst e;exact cj rfl
  ·unfold qX;rw[waz,ck (λz=>e (wca z))];exact a (by grind)
theorem yd(f:Str->V)(h:k∉g):bA (qX f g) (wai k:Key)=none:=by
 cases q:bA (qX f g) (wai k:Key) with
 |none=>rfl
 |some v=>
  have:=yZ q;unfold qX at this;rw[wah]at this;obtain⟨m,a,e⟩:=wab.mp this;have b:m=k:=wca e;subst b;exact absurd a h
theorem AH(f:Str->V)(g:List Str):(qX f g).length=g.length:=by unfold qX;rw[wa0]
theorem ye(f:Str->V)(g:List Str)(k:Str):qX f (g++[k])=qX f g++[((wai k:Key),f k)]:=by unfold qX;rw[wao];rfl
theorem iQ{ss:List Str}(nd:ss.Nodup){i:Nat}{p:Str}(h:ss[i]?=some p):p∉ss.take i:=by
 intro b;obtain⟨j,c,a⟩:=wdx.mp b;rw[wfe]at a;rw[wak]at c;have d:=(wa6.mp h).2;have:=(wcg nd).mp (a.trans d.symm);omega
noncomputable abbrev NM(g:Str)(ws ss:List Str)(n:Nat):List (Key×V):=qX (λp=>.int (iB g ws ss n p)) ss
noncomputable def Wm(ws ss:List Str)(p:Str):V->V:=λv=>match v with
 |.str z=>ub ws ss p (z.cps.getD 0 0)
 |_=>.non
theorem Fu(g:Str)(ws ss:List Str)(p:Str):(eY g).map (Wm ws ss p)=(ch g).map (ub ws ss p):=by
 unfold eY;rw[wah];rfl
noncomputable def KW(f:Str->Int):V->V:=λv=>match v with
 |.str z=>.int (f z)
 |_=>.non
theorem qY(f:Str->Int)(g:List Str):(g.map V.str).map (KW f)=(g.map f).map V.int:=by
 rw[wah,wah];rfl
end L2
namespace Sx
open PySem L2 Bs
inductive D0(C:Addr)(vs:List V)(H:Hp)(Q:VK)(eE:XK):Prop
 |mk (x p g ws ss ls) (_:vs=[.ref x,.str p]) (_:aX C H x g ws ss ls) (_:p∈ss) (_:g.length<=10) (_:∀(l:Addr) (H':Hp),a8 H H'->H l=none->H' l=some (.lst ((i3 g ws ss p).map V.str))->Q (.ref l) H')
inductive Fv(C:Addr)(vs:List V)(H:Hp)(Q:VK)(eE:XK):Prop
 |mk (x g ws ss ls) (_:vs=[.ref x]) (_:aX C H x g ws ss ls) (_:g.length<=10) (_:ss.length<=900) (_:∀(d:Addr) (ev:List (Str×Addr)) (H':Hp),a8 H H'->H d=none->H' d=some (.dK (cu ev))->ev.map (·.1)=ss->(∀m∈ev,H' m.2=some (.lst ((i3 g ws ss m.1).map V.str)))->(∀m∈ev,H m.2=none)->Q (.ref d) H')
inductive KY(C:Addr)(vs:List V)(H:Hp)(Q:VK)(eE:XK):Prop
 |mk (x n g ws ss ls) (_:vs=[.ref x,.int n]) (_:aX C H x g ws ss ls) (_:g.length<=10) (_:ss.length<=900) (_:0<=n) (_:n<=100000) (_:∀(l:Addr) (ts:List Addr) (H':Hp),a8 H H'->H l=none->H' l=some (.lst (ts.map V.ref))->ts.length=n.toNat+1->(∀i t,ts[i]?=some t->H' t=some (.dK (NM g ws ss i)))->Q (.ref l) H')
inductive KZ(C:Addr)(vs:List V)(H:Hp)(Q:VK)(eE:XK):Prop
 |mk (x n g ws ss ls) (_:vs=[.ref x,.int n]) (_:aX C H x g ws ss ls) (_:g.length<=10) (_:ss.length<=900) (_:0<=n) (_:n<=100000) (_:∀H',a8 H H'->Q (.int (iB g ws ss n.toNat "")) H')
end Sx
namespace L2
open PySem PySem.Spec PyProof.Rows
section
variable{X:Cx}
noncomputable def YQ:PD:=λx y H Q=>∃i j,x=.int i/\y=.int j/\Kb i j/\Q (.int (i*j)) H
theorem Ih:Sd X .Mult YQ:=by
 intro a s σ H x y v u Q I b c h;obtain⟨i,j,d,e,hc,q⟩:=h;subst d;subst e;obtain⟨t,rfl⟩:=b;obtain⟨f,rfl⟩:=c;exact imul_int ⟨.int _,H,I.tok _,⟨_,rfl⟩,q⟩ hc.ok
end
end L2
namespace Sx
open PySem L2 Bs
inductive Ii(vs:List V)(H:Hp)(Q:VK)(eE:XK):Prop
 |mk (i) (_:vs=[.int i]) (_:Q (.bl true) H)
inductive Fw(C:Addr)(vs:List V)(H:Hp)(Q:VK)(eE:XK):Prop
 |mk (x n g ws ss ls) (_:vs=[.ref x,.int n]) (_:aX C H x g ws ss ls) (_:g.length<=10) (_:0<=n) (_:n<=10) (_:Q (.int ((g.length:Int)^n.toNat)) H)
structure gA(m:Nat)(many wide:Int):Prop where
 a:2<=many
 b:many<=8
 c:1<=wide
 d:wide<=6
 e:(m:Int)^wide.toNat<=64
inductive AI(C:Addr)(vs:List V)(H:Hp)(Q:VK)(eE:XK):Prop
 |mk (x many wide g ws ss ls) (_:vs=[.ref x,.int many,.int wide]) (_:aX C H x g ws ss ls) (_:g.length<=10) (_:gA g.length many wide) (_:Q (.bl true) H)
end Sx
namespace L2
open PySem PySem.Spec PyProof.Rows
theorem Ij(ns:List Int)(lo hi:Option Int):∃g:List Int,m6 (ns.map V.int) lo hi=g.map V.int/\g.length<=ns.length:=by
 refine⟨_,by unfold m6;rw[<-wea,<-wdB],?_⟩;rw[wak,wbp];omega
section
variable{X:Cx}
theorem Fx(hc:X.calm=true):eF X (.builtin "max") (λxs H Q=>∃p ns,xs=[.ref p]/\aM X.K H p (wdl V.int ns)/\ns≠[]/\∀M,M∈ns->(∀a∈ns,a<=M)->Q (.int M) H):=by
 intro g s σ H xs w Q I r h;obtain⟨p,ns,rfl,i,c,q⟩:=h;obtain⟨u,rfl,k⟩:=vals1 r;cases k;obtain⟨d,l,pl,x⟩:=I.list i;obtain⟨b,e,rfl⟩:=kA l
 have hl:s.heap.IsList p (intItems b.toArray):=by
  have:intItems b.toArray=d.toArray:=by grind [intItems]
  rw[this];exact pl.isList
 have f:0<b.toArray.size:=by
  rw[waE];exact Nat.pos_of_ne_zero λz=>c (by grind)
 refine max_intList (I.ok.hd hc) hl f λv y A m hk=>?_;obtain⟨t,rfl⟩:=whu m;obtain⟨B,n⟩:=argBest_gt (numAt b.toArray) (b.toArray.size-1);refine⟨.int _,H,I.kept hk,⟨t,rfl⟩,q _ ?_ λa ha=>?_⟩
 ·rw[numAt_eq];exact getD_mem (by grind)
 ·obtain⟨j,o,rfl⟩:=mem_getD ha;rw[wa0]at o;have:=n j (by grind);rw[numAt_eq]at this;exact this
end
end L2
namespace Bs
open PySem L2
noncomputable def mm(st sp n:Nat):List Nat:=(waH n).map λk=>(ch fK).getD ((st+k*sp)%36) 0
theorem AJ{P:Nat->Prop}:∀{ts:List Str},(∀t∈ts,∃c,t=⟨#[c]⟩/\P c)->(ts.map (·.length)).sum=ts.length
 |[],_=>rfl
 |t::ts,h=>by
  obtain⟨c,rfl,_⟩:=h t (waf ..);rw[waz,wbt,AJ λt a=>h t (wac _ a),waK];show 1+ts.length=_;omega
noncomputable def L1(st sp:Nat):V->V:=λv=>match v with
 |.int k=>.str ⟨#[(ch fK).getD ((st+k.toNat*sp)%36) 0]⟩
 |_=>.non
end Bs
namespace Sx
open PySem L2 Bs
inductive QC(K:wa2)(vs:List V)(H:Hp)(Q:VK)(eE:XK):Prop
 |mk (a:Addr) (ns:List Int) (p:Int) (_:vs=[.ref a,.int p]) (_:aM K H a (ns.map V.int)) (_:∀(c:Int) (H':Hp),a8 H H'->Q (.int c) H')
end Sx
namespace Bs
theorem uR{α:Type}[DecidableEq α]:∀{g l:List α},g.Nodup->(∀k∈g,k∈l)->g.length<=l.length
 |[],l,_,_=>waB _
 |k::g,l,nd,h=>by
  rw[wbF]at nd;have hk:=h k (waf ..);have:=uR (l:=l.erase k) nd.2 λj a=>(List.mem_erase_of_ne (λz=>nd.1 (by rw[<-z];exact a))).mpr (h j (wac _ a));rw[List.length_erase_of_mem hk]at this;have:0<l.length:=List.length_pos_of_mem hk;rw[waK];omega
theorem uS{α β:Type}(f:α->List β)(b:Nat):∀(g:List α),(∀c∈g,(f c).length<=b)->(g.flatMap f).length<=g.length*b
 |[],_=>waB _
 |c::g,h=>by
  rw[we6,wa5,waK,Nat.succ_mul];have:=uS f b g λd hd=>h d (wac _ hd);have:=h c (waf ..);omega
section
variable{κ:Type}[DecidableEq κ]
end
end Bs
namespace Bs
open PySem L2 AC
variable{ws ss:List Str}
noncomputable def bG(m:List (Str×Int)):List (Key×V):=m.map λp=>((wai p.1:Key),V.int p.2)
theorem jE(m:List (Str×Int)):(bG m).length=m.length:=wa0 ..
noncomputable def sA:List (Str×Int)->Str->Option Int
 |[],_=>none
 |(j,u)::m,k=>if j=k then some u else sA m k
theorem eN(k:Str):∀m:List (Str×Int),bA (bG m) (wai k:Key)=(sA m k).map V.int
 |[]=>rfl
 |(j,u)::m=>by
  unfold sA
  by_cases h:j=k
  ·rw[if_pos h,h];exact cj rfl
  ·rw[if_neg h,<-eN k m];exact ck (λz=>h (wca z))
theorem uT:∀{m:List (Str×Int)},k∉m.map (·.1)->sA m k=none
 |[],_=>rfl
 |(j,u)::m,h=>by
  unfold sA;rw[if_neg (λz=>h (by rw[z];exact waf ..))];exact uT λz=>h (wac _ z)
end Bs
namespace L2
open PySem
theorem AK{R:It->Hp->Prop}(h:g d=some (.dK kvs)\/∃o,g d=some (.frz o (.dK kvs)))
 (k:∀o j,j d=some (.frz o (.dK kvs))->(∀c,c≠d->j c=g c)->R (KU d o kvs) j) :
 (g d=some (.dK kvs)/\∀o,R (KU d o kvs) (upd g d (.frz o (.dK kvs))))\/∃o,g d=some (.frz o (.dK kvs))/\R (KU d o kvs) g:=by
 rcases h with h |⟨o,h⟩
 ·exact .inl ⟨h,λo=>k o _ a6 λc hc=>ae hc⟩
 ·exact .inr ⟨o,h,k o _ h λc _=>rfl⟩
end L2
namespace Sx
open PySem L2 Bs
end Sx
namespace L2
open PySem PySem.Spec PyProof.Rows
def kC(K:wa2)(J:It)(l:Addr)(σf:St)(tt:TT)(te:TE)(H:Hp)(Q:Hp->Prop):Prop:=
 ∃W:Nat->Nat->List V->Hp->Prop,(∃m,W 0 m [] (upd H l (.lst [])))/\∀i m ys H2,W i m ys H2->H2 l=some (.lst ys) /\
  ((J.stop i H2/\Q H2)\/(J.go i H2/\ys.length<sizeLine/\∀x H3,J.u0 i H2 x H3->∃p a b,x=.ref p/\gL K H3 p [a,b]/\tt (some a::some b::σf) H3 λok H4=>
    if ok=true then te (some a::some b::σf) H4 λy H5=>H5 l=some (.lst ys)/\∃m',m'<m/\W (i+1) m' (ys++[y]) (upd H5 l (.lst (ys++[y])))
    else ∃m',m'<m/\W (i+1) m' ys H4))
def NN(K:wa2)(wi:TI)(ix:List Nat)(tt:TT)(te:TE):TE:=λσ H Q=>wi σ H λJ H1=>∀l,H1 l=none->kC K J l (pick σ ix) tt te H1 (λH2=>Q (.ref l) H2)
section
variable{X:Cx}{pins:List (Addr×Obj)}{σ:St}{H:Hp}{s₂:Shared}{scope:wd6}{x x2:Str}{ys:List Str}{ix:List Nat}{cl:List (Str×Addr)}{fp:List Addr}{L:Addr}
theorem AO(hc:X.calm=true)(B:bV X scope x ys ix)(g:bV X scope x2 ys ix)(j:x≠x2)(cl L s H ex pn):PG (bD X scope ([x,x2]++ys) cl L s H ex pn) (.Tuple [.Name x p,.Name x2 l] r pt) (GP X.K 2 (m4 (dD 0) (m4 (dD 1) GO))):=by
 have c:(relabel scope X.env).names.lookup x=some .local:=wcr B.var;have a:(relabel scope X.env).names.lookup x2=some .local:=wcr g.var
 have b:(x::x2::ys).Nodup:=by
  have:=B.nd;have:=g.nd
  grind
 exact dG hc (aK (jZ b rfl (.inl c) (.inr c)) (aK (jZ b rfl (.inl a) (.inr a)) cB))
theorem AQ{K:wa2}{J:It}(h:kC K J l g j r H Q):xV (GP K 2 (m4 (dD 0) (m4 (dD 1) GO))) 2 J l g j r H Q:=
 let ⟨W,a,t⟩:=h
 ⟨W,a,λi m ys f w=>let ⟨p,q⟩:=t i m ys f w;⟨p,q.imp id λ⟨a,b,c⟩=>⟨a,b,λx k n u y=>by revert n;refine j5 2 _ ?_;exact λ_ _=>let ⟨p,v,d,e,o,s⟩:=c x k y;⟨p,[v,d],e,o,rfl,v,[d],rfl,d,[],rfl,rfl,⟨[some v,some d],rfl,rfl⟩,s⟩⟩⟩⟩
theorem fL(hc:X.calm=true)(B:bV X scope x ys ix)(T:bV X scope x2 ys ix)(g:x≠x2)(hi:PI X (.Tuple [.Name x U,.Name x2 j] kt pt) iter wi)
 (ht:∀cl L s H ex pn,JX (bD X scope (x::x2::ys) cl L s H ex pn) p t) (he:∀cl L s H ex pn,PE (bD X scope (x::x2::ys) cl L s H ex pn) r I)
 (hs:∀v,wc4 iter X.env v=pure v:=by intro _;rfl):PE X (.ListComp r [⟨.Tuple [.Name x U,.Name x2 j] kt pt,iter,p,0⟩] scope pos) (NN X.K wi ix t I):=
 uF (C:=λJ l a H Q=>kC X.K J l a t I H Q) (xs:=[x,x2]) hc B (AO hc B T g) (λ_ _ _ _ _=>AQ) hi ht he hs
end
def b8(H:Hp)(rs:List Addr)(Wn:List (List V)):Prop:=rs.length=Wn.length/\∀(i:Nat) (r:Addr) (xs:List V),rs[i]?=some r->Wn[i]?=some xs->H r=some (.tup xs)
theorem b8.nil(H:Hp):b8 H [] []:=⟨rfl,λi r a h=>by simp at h⟩
theorem b8.keep(t:b8 H rs g)(k:∀r xs,H r=some (.tup xs)->j r=some (.tup xs)):b8 j rs g:=⟨t.1,λi r xs a b=>k _ _ (t.2 i r xs a b)⟩
theorem b8.same(t:b8 H rs g)(s:a8 H j):b8 j rs g:=t.keep λr a h=>s _ _ h
theorem b8.snoc(t:b8 H rs g)(h:H r=some (.tup xs)):b8 H (rs++[r]) (g++[xs]):=by
 refine⟨by rw[wa5,wa5,t.1];rfl,λi a b c d=>?_⟩
 by_cases hi:i<rs.length
 ·rw[waF hi]at c;rw[waF (by rw[<-t.1];exact hi)]at d;exact t.2 i a b c d
 ·have e:i=rs.length:=by
   have:=(wa6.mp c).1;rw[wa5,wci]at this;omega
  subst e;rw[waD (waa _),wbC]at c;rw[waD (by rw[t.1];exact waa _),t.1,wbC]at d;cases c;cases d;exact h
noncomputable def jF(q:V×V):List V:=[q.1,q.2]
theorem oB{K:wa2}{J:It}{Ok:Hp->Prop}{rs:List Addr}{prs:List (V×V)}{l:Addr}{t:St}{U:TT}{te:TE}{H:Hp}{Q:Hp->Prop}(p:V×V->Bool)(g:V×V->V)(T:lY J Ok (rs.map V.ref))(hT:b8 H rs (prs.map jF))(hl:H l=none)(hz:rs.length<=sizeLine)(C:∀j,a8 H j->Ok j)
 (ht:∀q r I,q∈prs->a8 H r->(∀j,a8 r j->I (p q) j)->U (some q.1::some q.2::t) r I)
 (he:∀q r I,q∈prs->p q=true->a8 H r->(∀j,a8 r j->I (g q) j)->te (some q.1::some q.2::t) r I)
 (hd:∀j,a8 H j->j l=some (.lst ((prs.filter p).map g))->Q j):kC K J l t U te H Q:=by
 have f:rs.length=prs.length:=by rw[hT.1,wa0]
 refine⟨λi m s d=>m=rs.length-i/\i<=rs.length/\a8 H d/\d l=some (.lst s)/\s=((prs.take i).filter p).map g,⟨rs.length,by simp,waB _,a8.upd hl,a6,by simp⟩,?_⟩;rintro i m s d ⟨rfl,hi,c,k,n⟩;refine⟨k,?_⟩
 by_cases a:i<rs.length
 ·refine .inr ⟨T.go i d (C _ c) (by rw[wa0];exact a),?_,λx r y=>?_⟩
  ·rw[n,wa0];refine wbe (wb4 _ _) ?_;rw[wak];omega
  ·obtain⟨e,v⟩:=T.u0 i d x r (C _ c) (by rw[wa0];exact a) y;subst e;have w:prs[i]?=some prs[i]:=wa1 (by omega);have z:rs[i]?=some rs[i]:=wa1 a;rw[wa4,z]at v;obtain rfl:V.ref rs[i]=x:=wag v;have mem:prs[i]∈prs:=waL _;have A:prs.take (i+1)=prs.take i++[prs[i]]:=by rw[waN,w];rfl
   refine⟨rs[i],prs[i].1,prs[i].2,rfl,gL.of (c _ _ (hT.2 i rs[i] _ z (by rw[wa4,w];rfl))),ht prs[i] _ _ mem c λD h=>?_⟩
   cases u:p prs[i] with
   |false=>
    rw[if_neg wap];refine⟨rs.length-(i+1),by omega,rfl,a,c.trans h,h _ _ k,?_⟩;rw[A,wbw,n];simp[u]
   |true=>
    rw[if_pos rfl];refine he prs[i] _ _ mem u (c.trans h) λE B=>⟨B _ _ (h _ _ k),rs.length-(i+1),by omega,rfl,a,λb o e=>?_,a6,?_⟩
    ·rw[ae (af e hl)];exact B _ _ (h _ _ (c _ _ e))
    ·rw[A,wbw,n];simp[u]
 ·have e:i=rs.length:=by omega
  subst e;refine .inl ⟨?_,hd d c ?_⟩
  ·have:=T.stop d (C _ c);rwa[wa0]at this
  ·rw[k,n,f,waI]
theorem Fy{K:wa2}{J:It}{Ok:Hp->Prop}{rs:List Addr}{prs:List (V×V)}{l:Addr}{C:St}{tt:TT}{te:TE}{H:Hp}{Q:Hp->Prop}(p:V×V->Bool)(g:V×V->List V)(U:lY J Ok (rs.map V.ref))(hT:b8 H rs (prs.map jF))(hl:H l=none)(hz:rs.length<=sizeLine)(I:∀j,a8 H j->Ok j)
 (ht:∀q t T,q∈prs->a8 H t->(∀j,a8 t j->T (p q) j)->tt (some q.1::some q.2::C) t T)
 (he:∀q t T,q∈prs->p q=true->a8 H t->(∀r j,a8 t j->j r=some (.tup (g q))->T (.ref r) j)->te (some q.1::some q.2::C) t T)
 (hd:∀ys j,a8 H j->j l=some (.lst (ys.map V.ref))->b8 j ys ((prs.filter p).map g)->Q j):kC K J l C tt te H Q:=by
 have h:rs.length=prs.length:=by rw[hT.1,wa0]
 refine⟨λi m B d=>m=rs.length-i/\i<=rs.length/\a8 H d/\∃ys:List Addr,B=ys.map V.ref/\d l=some (.lst (ys.map V.ref))/\b8 d ys (((prs.take i).filter p).map g),⟨rs.length,by simp,waB _,a8.upd hl,[],rfl,a6,by simpa using b8.nil _⟩,?_⟩;rintro i m B d ⟨rfl,hi,c,ys,rfl,k,n⟩;refine⟨k,?_⟩
 by_cases a:i<rs.length
 ·refine .inr ⟨U.go i d (I _ c) (by rw[wa0];exact a),?_,λx t y=>?_⟩
  ·rw[wa0,n.1,wa0];refine wbe (wb4 _ _) ?_;rw[wak];omega
  ·obtain⟨e,D⟩:=U.u0 i d x t (I _ c) (by rw[wa0];exact a) y;subst e;have E:prs[i]?=some prs[i]:=wa1 (by omega);have G:rs[i]?=some rs[i]:=wa1 a;rw[wa4,G]at D;obtain rfl:V.ref rs[i]=x:=wag D;have mem:prs[i]∈prs:=waL _;have L:prs.take (i+1)=prs.take i++[prs[i]]:=by rw[waN,E];rfl
   refine⟨rs[i],prs[i].1,prs[i].2,rfl,gL.of (c _ _ (hT.2 i rs[i] _ G (by rw[wa4,E];rfl))),ht prs[i] _ _ mem c λN f=>?_⟩
   cases u:p prs[i] with
   |false=>
    rw[if_neg wap];refine⟨rs.length-(i+1),by omega,rfl,a,c.trans f,ys,rfl,f _ _ k,?_⟩
    have e:((prs.take (i+1)).filter p).map g=((prs.take i).filter p).map g:=by
     rw[L,wbw];simp[u]
    rw[e];exact n.same f
   |true=>
    rw[if_pos rfl];refine he prs[i] _ _ mem u (c.trans f) λr O s v=>⟨s _ _ (f _ _ k),rs.length-(i+1),by omega,rfl,a,λb o e=>?_,ys++[r],by rw[wao];rfl,by rw[a6,wao];rfl,?_⟩
    ·rw[ae (af e hl)];exact s _ _ (f _ _ (c _ _ e))
    ·have e:((prs.take (i+1)).filter p).map g=((prs.take i).filter p).map g++[g prs[i]]:=by
      rw[L,wbw];simp[u]
     rw[e];have w:=s _ _ (f _ _ k);refine b8.keep ((n.same (f.trans s)).snoc v) λR M A=>?_;rw[ae (λz=>by rw[z,w]at A;cases A)];exact A
 ·have e:i=rs.length:=by omega
  subst e;refine .inl ⟨?_,hd ys d c k ?_⟩
  ·have:=U.stop d (I _ c);rwa[wa0]at this
  ·rw[h,waI]at n;exact n
theorem Rd.same(h:Rd H a u)(s:a8 H g):Rd g a u:=by
 rcases h with h |⟨o,h⟩
 ·exact .inl (s _ _ h)
 ·exact .inr ⟨o,s _ _ h⟩
theorem eD.rd{H:Hp}{a:Addr}{kvs:List (Key×V)}{k:Key}(e:Rd H a (.dK kvs)):eD H a (kV k) (bA kvs k):=.inl ⟨kvs,k,e,rfl,rfl⟩
def NP(tl:TE):TI:=λσ H R=>tl σ H λx H1=>∃d kvs,x=.ref d/\(H1 d=some (.dK kvs)\/∃o,H1 d=some (.frz o (.dK kvs)))/\∀o H',H' d=some (.frz o (.dK kvs))->(∀c,c≠d->H' c=H1 c)->R (KU d o kvs) H'
theorem AR{X:Cx}(hl:PE X l g)(r:∀{σ H} {Q p:VK},(∀x j,Q x j->p x j)->g σ H Q->g σ H p:=by intro _ _ _ _ h q;obtain⟨v,e,q⟩:=q;exact⟨v,e,h _ _ q⟩):PI X t l (NP g):=by
 intro c s σ H R I h;refine ud hl c s σ H R I (r (λx j q=>?_) h);obtain⟨d,f,e,a,b⟩:=q;exact⟨d,f,e,AK a b⟩
noncomputable def hitsD(kb ka:List (Key×V)):Bool:=ka.all λkv=>match bA kb kv.1 with
 |some y=>se kv.2 y
 |none=>false
noncomputable def U6(ka kb:List (Key×V)):Bool:=ka.length==kb.length&&hitsD kb ka
noncomputable def uU(kvs:List (Key×V)):Bool:=kvs.all λkv=>eh kv.2
theorem Fz(h:uU kvs=true)(e:bA kvs k=some v):eh v=true:=by
 unfold bA at e
 cases q:kvs.find? λa=>decide (a.1=k) with
 |none=>rw[q]at e;cases e
 |some a=>
  rw[q]at e;have:=waW.mp h a (List.mem_of_find?_eq_some q);cases e;exact this
section
variable{X:Cx}{A:Around}{s:Shared}
theorem uV(r:KV g j)(C:uU g=true):∀{l:List (Key×V)} {I:List (Key×Value)},KV l I->uU l=true->whQ A s j I (hitsD g l)
 |_,_,.nil,_=>.nil
 |_,_,@Paired.cons _ _ _ p q ps c h t,fa=>by
  obtain⟨k,v⟩:=p;obtain⟨d,u⟩:=q;obtain⟨f,i⟩:=h;obtain rfl:k=d:=f;have f1:eh v=true:=waW.mp fa (k,v) (waf ..);have f2:uU ps=true:=waW.mpr λz m=>waW.mp fa z (wac _ m);have n:=uV r C t f2;have a:=r.val k;unfold hitsD;rw[wf2];show whQ A s j ((k,u)::c) ((match bA g k with |some y=>se v y |none=>false)&&_)
  cases e:bA g k with
  |none=>
   rw[e]at a
   cases b:valueAt j k with
   |none=>exact .miss b
   |some y=>rw[b]at a;exact wb1 a
  |some y=>
   rw[e]at a
   cases b:valueAt j k with
   |none=>rw[b]at a;exact wb1 a
   |some o=>
    rw[b]at a;exact .hit b (Cg i a f1 (Fz C e)) n
inductive U7(x y:V)(H:Hp)(Q:VK):Prop
 |mk (a b ka kb) (_:x=.ref a) (_:y=.ref b) (_:Rd H a (.dK ka)) (_:Rd H b (.dK kb)) (_:uU ka=true) (_:uU kb=true) (_:Q (.bl (U6 ka kb)) H)
theorem NQ(g:X.A.units<wcI):nA X (wbk .Eq) U7:=by
 intro c s σ H x y v u Q I f i h;obtain⟨a,b,p,r,rfl,rfl,ha,j,fa,k,q⟩:=h;cases f;cases i;obtain⟨_,l,t,d,m⟩:=jy I.b4 ha;obtain⟨_,n,w,e,o⟩:=jy I.b4 j;refine PySem.W.keq_eq l n m o g (λ_=>uV e k d fa) ⟨.bl _,H,I,rfl,?_⟩;rw[<-d.length,<-e.length];exact q
end
end L2
namespace Bs
open PySem L2
noncomputable def qZ(g:Str)(ws ss:List Str)(q:Str×Str):List (Str×Str):=(ch g).filterMap λc=>if bears ws (q.2++⟨#[c]⟩)=true then none else some (q.1++⟨#[c]⟩,lend ss (q.2++⟨#[c]⟩))
noncomputable def fM(g:Str)(ws ss:List Str)(qs:List (Str×Str)):List (Str×Str):=qs.flatMap (qZ g ws ss)
noncomputable def uW(g:Str)(ws ss:List Str)(p:Str):Nat->List (Str×Str)
 |0=>[("",p)]
 |n+1=>fM g ws ss (uW g ws ss p n)
noncomputable def aT(g:Str)(ws ss ls:List Str)(n:Nat)(p:Str):List (Str×Str):=(uW g ws ss p n).filter λq=>decide (q.2∈ls)
theorem D1(g:Str)(ws ss:List Str)(q:Str×Str):(qZ g ws ss q).length<=g.length:=by
 unfold qZ;have:=wcW (λc=>if bears ws (q.2++⟨#[c]⟩)=true then none else some (q.1++(⟨#[c]⟩:Str),lend ss (q.2++(⟨#[c]⟩:Str)))) (ch g);rw[aV]at this;exact this
theorem sC(g:Str)(ws ss:List Str)(j:List (Str×Str)):(fM g ws ss j).length<=j.length*g.length:=uS _ _ _ λq _=>D1 g ws ss q
theorem ph(g:Str)(ws ss:List Str)(p:Str):∀n,(uW g ws ss p n).length<=g.length^n
 |0=>waa 1
 |n+1=>waj (sC g ws ss _) (by rw[Nat.pow_succ];exact weA _ (ph g ws ss p n))
theorem D2(j:("":Str)∈ss)(h:r∈qZ g ws ss q):r.2∈ss/\r.1.length=q.1.length+1:=by
 unfold qZ at h;obtain⟨c,_,e⟩:=wd7.mp h;split at e
 ·cases e
 ·cases e;exact⟨pf j _,len_app _ _⟩
theorem uX(j:("":Str)∈ss)(l:p∈ss):∀n,∀r∈uW g ws ss p n,r.2∈ss/\r.1.length=n
 |0,r,h=>by
  rw[wat.mp h];exact⟨l,rfl⟩
 |n+1,r,h=>by
  obtain⟨q,a,b⟩:=wcB.mp h;have:=D2 j b;have:=(uX j l n q a).2;exact⟨‹r.2∈ss/\_›.1,by omega⟩
theorem dM(h:r∈aT g ws ss ls n p):r.2∈ls:=of_decide_eq_true (wav.mp h).2
theorem gB(g:Str)(ws ss ls:List Str)(n:Nat)(p:Str):(aT g ws ss ls n p).length<=g.length^n:=waj (wb4 _ _) (ph g ws ss p n)
noncomputable def mn(q:Str×Str):List V:=[.str q.1,.str q.2]
noncomputable def pj(q:Str×Str):V×V:=(.str q.1,.str q.2)
theorem Ef(g:List (Str×Str)):(g.map pj).map jF=g.map mn:=by
 rw[wah];rfl
structure eG(H:Hp)(l:Addr)(rs:List Addr)(qs:List (Str×Str)):Prop where
 l:H l=some (.lst (rs.map V.ref))
 t:b8 H rs (qs.map mn)
theorem eG.same{H g:Hp}{l:Addr}{rs:List Addr}{j:List (Str×Str)}(r:eG H l rs j)(s:a8 H g):eG g l rs j:=⟨s _ _ r.l,r.t.same s⟩
theorem eG.len{H:Hp}{l:Addr}{rs:List Addr}{g:List (Str×Str)}(r:eG H l rs g):rs.length=g.length:=by rw[r.t.1,wa0]
theorem eG.push{H:Hp}{l:Addr}{rs:List Addr}{g:List (Str×Str)}(R:eG H l rs g){r:Addr}(j:H r=none)(q:Str×Str):eG (upd (upd H r (.tup (mn q))) l (.lst (rs.map V.ref++[.ref r]))) l (rs++[r]) (g++[q]):=by
 have hl:(upd H r (.tup (mn q))) l=some (.lst (rs.map V.ref)):=a8.upd j _ _ R.l;refine⟨by rw[a6,wao];rfl,?_⟩;rw[wao];refine b8.keep ((R.t.same (a8.upd j)).snoc a6) λa b h=>?_;rw[ae (λz=>by rw[z,hl]at h;cases h)];exact h
theorem AU(ls:List Str)(g:List (Str×Str)):((g.map pj).filter λq=>p7 q.2 (ls.map V.str)).map jF=(g.filter λq=>decide (q.2∈ls)).map mn:=by
 induction g with
 |nil=>rfl
 |cons q g a=>
  have e:p7 (pj q).2 (ls.map V.str)=decide (q.2∈ls):=jz q.2 ls;rw[waz]
  by_cases h:q.2∈ls
  ·rw[wb3 (by rw[e];exact decide_eq_true h),wb3 (by exact decide_eq_true h),waz,waz,a];rfl
  ·rw[wba (by rw[e];simpa using h),wba (by simpa using h),a]
noncomputable def iw(g:Str)(ws ss ls:List Str)(n:Nat)(f:Str->Int)(p:Str):Int:=((aT g ws ss ls n p).map λq=>f q.2).sum
def NR(m:List (Str×Int))(ls:List Str)(f:Str->Int):Prop:=∀p∈ls,sA m p=some (f p)
theorem uY(m:List (Str×Int)):uU (bG m)=true:=waW.mpr λa h=>by
 obtain⟨p,_,rfl⟩:=wab.mp h;rfl
theorem rg(h:k∉m.map (·.1))(v:Int):putK (bG m) (wai k:Key) (.int v)=bG (m++[(k,v)]):=by
 rw[f9 _ (by rw[eN,uT h];rfl)];unfold bG;rw[wao];rfl
theorem yf{f:Str->Int}:∀{os:List Str},k∈os->sA (os.map λp=>(p,f p)) k=some (f k)
 |[],h=>nomatch h
 |j::os,h=>by
  show (if j=k then some (f j) else sA (os.map λp=>(p,f p)) k)=_
  by_cases e:j=k
  ·rw[if_pos e,e]
  ·rw[if_neg e];rcases waC.mp h with z |z
   ·grind
   ·exact yf z
end Bs
namespace Sx
open PySem L2 Bs
inductive U8(C:Addr)(vs:List V)(H:Hp)(Q:VK)(eE:XK):Prop
 |mk (x p g ws ss ls) (_:vs=[.ref x,.str p]) (_:aX C H x g ws ss ls) (_:p∈ls) (_:Q .non H)
inductive Ik(C:Addr)(vs:List V)(H:Hp)(Q:VK)(eE:XK):Prop
 |mk (x l rs qs g ws ss ls) (_:vs=[.ref x,.ref l]) (_:aX C H x g ws ss ls) (_:eG H l rs qs) (_:(∀q∈qs,q.2∈ss/\q.1.length<=100)) (_:qs.length<=100) (_:g.length<=10) (_:∀(l':Addr) (Sv:List Addr) (H':Hp),a8 H H'->H l'=none->eG H' l' Sv (fM g ws ss qs)->Q (.ref l') H')
inductive Il(C:Addr)(vs:List V)(H:Hp)(Q:VK)(eE:XK):Prop
 |mk (x:Addr) (p:Str) (n:Nat) (g:Str) (ws ss ls:List Str) (_:vs=[.ref x,.str p,.int (n:Int)]) (_:aX C H x g ws ss ls) (_:p∈ls) (_:g.length^n<=100) (_:n<=10) (_:2<=g.length) (_:g.length<=10) (_:∀(l':Addr) (Sv:List Addr) (H':Hp),a8 H H'->H l'=none->eG H' l' Sv (aT g ws ss ls n p)->Q (.ref l') H')
inductive AV(C:Addr)(vs:List V)(H:Hp)(Q:VK)(eE:XK):Prop
 |mk (x:Addr) (n:Nat) (g:Str) (ws ss ls:List Str) (_:vs=[.ref x,.int (n:Int)]) (_:aX C H x g ws ss ls) (_:g.length^n<=100) (_:n<=10) (_:2<=g.length) (_:g.length<=10) (_:ss.length<=900) (_:∀(d:Addr) (ev:List (Str×Addr)) (H':Hp),a8 H H'->H d=none->H' d=some (.dK (cu ev))->ev.map (·.1)=ls->(∀m∈ev,H' m.2=some (.lst (((aT g ws ss ls n m.1).map (·.2)).map V.str)))->(∀m∈ev,H m.2=none)->Q (.ref d) H')
inductive Im(K:wa2)(vs:List V)(H:Hp)(Q:VK)(eE:XK):Prop
 |mk (l d es m f) (_:vs=[.ref l,.ref d]) (_:aM K H l (es.map V.str)) (_:es.length<=1000) (_:Rd H d (.dK (bG m))) (_:NR m es f) (_:∀H',a8 H H'->Q (.int ((es.map f).sum)) H')
end Sx
namespace Bs
open PySem L2 AC
section
variable{g:Str}{ws ss ls:List Str}
theorem D3{α:Type}{a b:α->Int}:∀{l:List α},(∀x∈l,a x<=b x)->(l.map a).sum<=(l.map b).sum
 |[],_=>weR _
 |x::l,h=>by
  rw[waz,waz,wbt,wbt];exact Int.add_le_add (h x (waf ..)) (D3 λy c=>h y (wac _ c))
theorem uZ{α:Type}{a:α->Int}{l:List α}(h:∀x∈l,0<=a x):0<=(l.map a).sum:=by
 have:=D3 (a:=λ_=>(0:Int)) (b:=a) h
 have e:∀l:List α,(l.map λ_=>(0:Int)).sum=0:=by
  intro l
  induction l with
  |nil=>rfl
  |cons x l c=>grind
 rw[e]at this;exact this
theorem NS(n:Nat):∀p,0<=iB g ws ss n p:=by
 induction n with
 |zero=>intro p;show (0:Int)<=1;decide
 |succ n a=>intro p;exact uZ λe _=>a e
theorem oC(j:ss.Perm (bQ ws "" ws))(hw:∀w∈ws,1<=w.length)(h:p∈ss):bears ws p=false/\lend ss p=p:=by
 have a:("":Str)∈ss:=j.mem_iff.mpr (cn ws);constructor
 ·rcases mem_keys.mp (j.mem_iff.mp h) with z |z
  ·have:p="":=cI (by rw[z];exact(uI rfl).symm);rw[this];exact Fp hw
  ·exact(dW ws p).mpr z.2
 ·refine cI ?_;rw[ku a];have b:QA ss (ch p)=true:=kr.mpr h;exact HZ (jA _) (jB b (wfz _))
def GA(g:Str)(ws ss ls:List Str)(many:Int)(n:Nat)(f:Str->Int):Prop:=∀p∈ls,many*f p<=iw g ws ss ls n f p
noncomputable def cz(f:Str->Int)(ls:List Str):List (Str×Int):=ls.map λp=>(p,f p)
theorem ri(f:Str->Int)(ls:List Str):(cz f ls).map (·.1)=ls:=by
 unfold cz;rw[wah];exact List.map_id _
theorem kD(f:Str->Int)(ls:List Str):NR (cz f ls) ls f:=λp a=>yf a
theorem Mq{f h:Str->Int}:U6 (bG (cz f ls)) (bG (cz h ls))=true↔∀p∈ls,f p=h p:=by
 unfold U6;rw[jE,jE];have e:(cz f ls).length=(cz h ls).length:=by unfold cz;rw[wa0,wa0]
 rw[e,beq_self_eq_true,web];unfold hitsD;rw[waW];constructor
 ·intro q p a;have:=q ((wai p:Key),.int (f p)) (wab.mpr ⟨(p,f p),wab.mpr ⟨p,a,rfl⟩,rfl⟩);have this:(match bA (bG (cz h ls)) (wai p:Key) with |some y=>se (.int (f p)) y |none=>false)=true:=this;rw[eN,kD h ls p a]at this;have this:se (.int (f p)) (.int (h p))=true:=this;unfold se at this;simpa using this
 ·intro q d b;obtain⟨z,c,rfl⟩:=wab.mp b;obtain⟨p,a,rfl⟩:=wab.mp c;show (match bA (bG (cz h ls)) (wai p:Key) with |some y=>se (.int (f p)) y |none=>false)=true;rw[eN,kD h ls p a];show se (.int (f p)) (.int (h p))=true;rw[q p a];unfold se;simp
noncomputable def mq(g:Str)(ws ss ls:List Str)(many:Int)(n:Nat)(f:Str->Int)(p:Str):Int:=if iw g ws ss ls n f p/many<f p then iw g ws ss ls n f p/many else f p
theorem Io{n:Nat}{f:Str->Int}(h:∀p∈ls,0<=f p)(p:Str):0<=iw g ws ss ls n f p:=uZ λq a=>h _ (dM a)
theorem D5{f h:Str->Int}(e:∀p∈ls,f p<=h p)(p:Str):iw g ws ss ls n f p<=iw g ws ss ls n h p:=D3 λq a=>e _ (dM a)
theorem Ip(many:Int)(n:Nat)(f:Str->Int)(p:Str):mq g ws ss ls many n f p<=f p:=by
 unfold mq;split<;>omega
theorem Iq{f:Str->Int}(j:2<=many)(h:∀p∈ls,0<=f p):∀p∈ls,0<=mq g ws ss ls many n f p:=λp a=>by
 have b:=whR (Io (g:=g) (ws:=ws) (ss:=ss) (n:=n) h p) (show 0<=many by omega);have c:=h p a;unfold mq;split<;>omega
theorem FA{f h:Str->Int}(l:2<=many)(j:GA g ws ss ls many n f)(e:∀p∈ls,f p<=h p):∀p∈ls,f p<=mq g ws ss ls many n h p:=λp a=>by
 have b:=j p a;have c:=D5 (g:=g) (ws:=ws) (ss:=ss) (n:=n) e p;have d:f p<=iw g ws ss ls n h p/many:=(wge (by omega)).mpr (by grind);have i:=e p a;unfold mq;split<;>omega
theorem L4{f:Str->Int}(j:2<=many)(e:∀p∈ls,mq g ws ss ls many n f p=f p):GA g ws ss ls many n f:=λp a=>by
 have h:=e p a;unfold mq at h
 have b:f p<=iw g ws ss ls n f p/many:=by
  grind
 have:=(wge (show 0<many by omega)).mp b;rw[weB]at this;exact this
theorem NT{f:Str->Int}(j:2<=many)(h0:∀p∈ls,0<=f p)(e:¬∀p∈ls,mq g ws ss ls many n f p=f p):(ls.map λp=>(mq g ws ss ls many n f p).toNat).sum<(ls.map λp=>(f p).toNat).sum:=by
 have b:∀p∈ls,mq g ws ss ls many n f p<=f p:=λp _=>Ip many n f p;have c:=Iq (g:=g) (ws:=ws) (ss:=ss) (n:=n) j h0;generalize mq g ws ss ls many n f=h at e b c
 have key:∀l:List Str,(∀p∈l,h p<=f p/\0<=h p)->(l.map λp=>(h p).toNat).sum<=(l.map λp=>(f p).toNat).sum/\((∃p∈l,h p≠f p)->(l.map λp=>(h p).toNat).sum<(l.map λp=>(f p).toNat).sum):=by
  intro l
  induction l with
  |nil=>intro _;exact⟨waa _,λ⟨p,a,_⟩=>nomatch a⟩
  |cons x l i=>
   intro hl;obtain⟨m,k⟩:=i λp a=>hl p (wac _ a);obtain⟨o,r⟩:=hl x (waf ..);rw[waz,waz,wbt,wbt];refine⟨by omega,λ⟨p,a,d⟩=>?_⟩;rcases waC.mp a with z |z
   ·rw[z]at d;omega
   ·have:=k ⟨p,z,d⟩;omega
 refine(key ls λp a=>⟨b p a,c p a⟩).2 ?_;apply wcl;intro q;exact e λp a=>wcl λz=>q ⟨p,a,z⟩
end
end Bs
namespace Sx
open PySem L2 Bs
inductive Ir(C:Addr)(vs:List V)(H:Hp)(Q:VK)(eE:XK):Prop
 |mk (x p n g ws ss ls) (_:vs=[.ref x,.str p,.int n]) (_:aX C H x g ws ss ls) (_:p∈ss) (_:g.length<=10) (_:ss.length<=900) (_:0<=n) (_:n<=100000) (_:∀H',a8 H H'->Q (.int (iB g ws ss n.toNat p)) H')
inductive FC(vs:List V)(H:Hp)(Q:VK)(eE:XK):Prop
 |mk (de dw many n o ev f g ws ss ls) (_:vs=[.ref de,.int many,.ref dw]) (_:H de=some (.frz o (.dK (cu ev)))) (_:ev.map (·.1)=ls) (_:(∀m∈ev,H m.2=some (.lst (((aT g ws ss ls n m.1).map (·.2)).map V.str)))) (_:g.length^n<=100) (_:ls.Nodup) (_:ls.length<=900) (_:2<=many) (_:many<=8) (_:Rd H dw (.dK (bG (cz f ls)))) (_:∀(d:Addr) (H':Hp),a8 H H'->H d=none->H' d=some (.dK (bG (cz (mq g ws ss ls many n f) ls)))->Q (.ref d) H')
structure nO(g:Str)(ws ss ls:List Str)(many:Int)(n:Nat)(most:Int)(f:Str->Int):Prop where
 nn:∀p∈ls,0<=f p
 le:∀p∈ls,f p<=most
 fit:GA g ws ss ls many n f
 top:∀h:Str->Int,(∀p∈ls,h p<=most)->GA g ws ss ls many n h->∀p∈ls,h p<=f p
inductive L5(C:Addr)(vs:List V)(H:Hp)(Q:VK)(eE:XK):Prop
 |mk (x:Addr) (many:Int) (n:Nat) (most:Int) (g:Str) (ws ss ls:List Str) (_:vs=[.ref x,.int many,.int (n:Int),.int most]) (_:aX C H x g ws ss ls) (_:2<=g.length) (_:g.length<=10) (_:ss.length<=900) (_:gA g.length many n) (_:0<=most) (_:∀(d:Addr) (f:Str->Int) (H':Hp),a8 H H'->H d=none->H' d=some (.dK (bG (cz f ls)))->nO g ws ss ls many n most f->Q (.ref d) H')
set_option genInjectivity true in
inductive Sw(g:Str)(ws ss:List Str)(many:Int)(n:Nat)(most:Int):V->Prop where
 |some (k:Nat) (a:1<=k) (b:(k:Int)<=most) (c:iB g ws ss (k*n) "" < many^k) (d:∀j:Nat,1<=j->j<k->¬iB g ws ss (j*n) "" < many^j):Sw g ws ss many n most (.int (k:Nat))
 |none (a:∀j:Nat,1<=j->(j:Int)<=most->¬iB g ws ss (j*n) "" < many^j):Sw g ws ss many n most .non
inductive FD(C:Addr)(vs:List V)(H:Hp)(Q:VK)(eE:XK):Prop
 |mk (x many wide most g ws ss ls) (_:vs=[.ref x,.int many,.int wide,.int most]) (_:aX C H x g ws ss ls) (_:g.length<=10) (_:ss.length<=900) (_:gA g.length many wide) (_:0<=most) (_:most<=100) (_:∀v H',a8 H H'->Sw g ws ss many wide.toNat most v->Q v H')
end Sx
namespace Bs
open PySem L2
end Bs
namespace L2
open PySem PySem.Spec PyProof.Rows
section
variable{X:Cx}
theorem D6:eF X (.type "dict") (λxs H Q=>∃d kvs,xs=[.ref d]/\Rd H d (.dK kvs)/\∀l,H l=none->Q (.ref l) (upd H l (.dK kvs))):=by
 intro a s σ H xs n Q I r h;obtain⟨d,kvs,rfl,hd,q⟩:=h;obtain⟨u,rfl,f⟩:=vals1 r;cases f;obtain⟨c,lo,g,rel,i⟩:=jy I.b4 hd;refine kt_call_dict (knd:=bc X.prog X.w) lo i (by rw[<-rel.length];exact c) λp j k=>?_;have m:=(uC (P:=X.prog) (w:=X.w) (H:=H) s.heap I.big);refine⟨.ref s.heap.objs.size,upd H s.heap.objs.size (.dK kvs),I.laid (t':=s.toks) (λb o e=>?_) (waa _) ⟨c,m.2.1,g,rel,j⟩,rfl,q _ (I.b4.fresh (waa _))⟩;exact k.extBut b o (war (wae e)) (wa8 _ e)
end
end L2
namespace Bs
open PySem L2
end Bs
namespace Sx
open PySem L2 Bs
end Sx
namespace Bs
open PySem L2
section
variable{g:Str}{ws ss ls:List Str}
end
end Bs
namespace Sx
open PySem L2 Bs
section
variable{g:Str}{ws ss ls:List Str}{many Wo most Wq:Int}{n:Nat}{f f':Str->Int}
end
end Sx
namespace Bs
open PySem L2 AC
section
variable{g:Str}{ws ss:List Str}
theorem kE(r:Str):r++("":Str)=r:=cI (by rw[aY,uI (z:="") rfl,waY])
theorem ue(r:Str):("":Str)++r=r:=cI (by rw[aY,uI (z:="") rfl,wdJ])
theorem eO(a b c:Str):a++b++c=a++(b++c):=by grind [cI,aY,waS]
noncomputable def NU(g:Str):Nat->List Str
 |0=>[""]
 |n+1=>(ch g).flatMap λc=>(NU g n).map λr=>(⟨#[c]⟩:Str)++r
noncomputable def JZ(g:Str):Nat->List Str
 |0=>[""]
 |n+1=>(JZ g n).flatMap λr=>(ch g).map λc=>r++(⟨#[c]⟩:Str)
theorem uf:∀n,JZ g n=NU g n
 |0=>rfl
 |1=>by
  show ([""]:List Str).flatMap (λr=>(ch g).map λc=>r++(⟨#[c]⟩:Str))=(ch g).flatMap λc=>([""]:List Str).map λr=>(⟨#[c]⟩:Str)++r;rw[List.flatMap_singleton]
  have:∀a:List Nat,(a.map λc=>("":Str)++(⟨#[c]⟩:Str))=a.flatMap λc=>([""]:List Str).map λr=>(⟨#[c]⟩:Str)++r:=by
   intro a
   induction a with
   |nil=>rfl
   |cons c a b=>
    grind [ue,kE]
  exact this _
 |n+2=>by
  show (JZ g (n+1)).flatMap (λr=>(ch g).map λc=>r++(⟨#[c]⟩:Str))=(ch g).flatMap λc=>(NU g (n+1)).map λr=>(⟨#[c]⟩:Str)++r;rw[uf (n+1)];show ((ch g).flatMap λc=>(NU g n).map λr=>(⟨#[c]⟩:Str)++r).flatMap (λr=>(ch g).map λc=>r++(⟨#[c]⟩:Str))=_;rw[List.flatMap_assoc];congr 1;funext c;rw[<-uf (n+1)];show _=((JZ g n).flatMap λr=>(ch g).map λc=>r++(⟨#[c]⟩:Str)).map λr=>(⟨#[c]⟩:Str)++r;rw[uf n,List.map_flatMap,List.flatMap_map];congr 1;funext r;rw[wah];refine wb7 λd _=>?_;exact eO _ _ _
theorem yg(nd:(ch g).Nodup):∀n,(NU g n).Nodup
 |0=>wbF.mpr ⟨λz=>(nomatch z),wdn⟩
 |n+1=>by
  show ((ch g).flatMap λc=>(NU g n).map λr=>(⟨#[c]⟩:Str)++r).Nodup;have l:=yg nd n
  have key:∀f:List Nat,f.Nodup->(f.flatMap λc=>(NU g n).map λr=>(⟨#[c]⟩:Str)++r).Nodup:=by
   intro f
   induction f with
   |nil=>intro _;exact wdn
   |cons c f i=>
    intro hn;rw[wbF]at hn;rw[we6];refine wfd.mpr ⟨?_,i hn.2,λa ha b m z=>?_⟩
    ·refine List.Pairwise.map _ ?_ l;intro a b j z;have:=congrArg ch z;rw[aY,aY]at this;exact j (cI (List.append_cancel_left this))
    ·obtain⟨r,_,rfl⟩:=wab.mp ha;obtain⟨d,hd,k⟩:=wcB.mp m;obtain⟨q,_,rfl⟩:=wab.mp k;have:=congrArg ch z;rw[aY,aY,HC,HC]at this
     have e:c=d:=by
      have h:=this;rw[wgs,wgs]at h;exact(wgP h).1
     exact hn.1 (by rw[e];exact hd)
  exact key _ nd
end
end Bs
namespace L2
open PySem PySem.Spec PyProof.Rows
section
variable{X:Cx}
theorem L6:Sd X .Add (λx y H Q=>∃i j,x=.str i/\y=.str j/\i.length+j.length<=sizeLine/\Q (.str (i++j)) H):=λa s σ H x y v u Q I b c h=>Ab a s σ H x y v u Q I b c h
end
end L2
namespace Bs
open PySem L2
end Bs
namespace Sx
open PySem L2 Bs
end Sx
namespace L2
open PySem PySem.Spec PyProof.Rows
section
variable{X:Cx}
def QD(i j:Int):Prop:=0<j/\j.natAbs.log2<9000
theorem va:nA X (binaryOp .FloorDiv) (rI QD λi j=>.int (i/j)):=Sf λi j _ _ _ _ _ hc q=>by
 have a:(0:Int)<j:=hc.1;exact floordiv_int (by omega) (by grind) (.inl (PyProof.noPylong_of_log2 hc.2))
end
theorem AW(xs:List V)(k:Nat):m6 xs (some (k:Int)) none=xs.drop k:=by
 unfold m6 HT.Af;simp only;split
 ·omega
 ·by_cases h:k<=xs.length
  ·rw[show min ((k:Int)).toNat xs.length=k by omega];exact wbd (by rw[wbp];exact waa _)
  ·rw[show min ((k:Int)).toNat xs.length=xs.length by omega,wbC,wdo,wby (by omega)]
theorem L7(xs:List V){i j:Nat}(h:i<=j):m6 xs (some (i:Int)) (some (j:Int))=(xs.drop i).take (j-i):=by
 unfold m6 HT.Af;simp only;rw[if_neg (by omega),if_neg (by omega)]
 by_cases a:i<=xs.length
 ·by_cases b:j<=xs.length
  ·rw[show min ((i:Int)).toNat xs.length=i by omega,show min ((j:Int)).toNat xs.length=j by omega]
  ·rw[show min ((i:Int)).toNat xs.length=i by omega,show min ((j:Int)).toNat xs.length=xs.length by omega];rw[wbd (by rw[wbp];exact waa _),wbd (by rw[wbp];omega)]
 ·rw[show min ((i:Int)).toNat xs.length=xs.length by omega,wby (waa _),wby (by omega),List.take_nil,List.take_nil]
end L2
namespace Sx
open PySem L2 Bs
inductive Iu(vs:List V)(H:Hp)(Q:VK)(eE:XK):Prop
 |mk (c:Int) (m:Nat) (_:vs=[.int c,.int (m:Int)]) (_:m<=1000) (_:∀(l:Addr) (xs:List Int) (H':Hp),a8 H H'->H l=none->H' l=some (.lst (xs.map V.int))->xs.length=m->Q (.ref l) H')
inductive L8(K:wa2)(vs:List V)(H:Hp)(Q:VK)(eE:XK):Prop
 |mk (a:Addr) (ns:List Int) (_:vs=[.ref a]) (_:aM K H a (ns.map V.int)) (_:∀(p lw:Addr) (g:Str) (ws:List Str) (H':Hp),a8 H H'->H p=none->H lw=none->H' p=some (.tup [.str g,.ref lw])->H' lw=some (.lst (ws.map V.str))->Av g->ws.length<=6->(∀w∈ws,z9 g w)->Q (.ref p) H')
inductive La(K:wa2)(vs:List V)(H:Hp)(Q:VK)(eE:XK):Prop
 |mk (a:Addr) (ns:List Int) (g:Str) (_:vs=[.ref a,.str g]) (_:aM K H a (ns.map V.int)) (_:2<=g.length) (_:g.length<=4) (_:∀(p:Addr) (many wide:Int) (H':Hp),a8 H H'->H p=none->H' p=some (.tup [.int many,.int wide])->gA g.length many wide->Q (.ref p) H')
end Sx
namespace L2
open PySem PySem.Spec PyProof.Rows
noncomputable def Lb(lo c:Int)(n:Nat):It:=⟨λi _=>i<n,λi H x H'=>H'=H/\x=.int (lo+(i:Nat)*c),λi _=>n<=i⟩
theorem AX(lo c:Int)(n:Nat):lY (Lb lo c n) (λ_=>True) ((waH n).map λi=>V.int (lo+(i:Nat)*c)):=by
 refine⟨λi H _ hi=>(show i<n by simpa using hi),λi H x b _ hi y=>⟨y.1,?_⟩,λH _=>?_⟩
 ·have a:i<n:=by simpa using hi
  rw[y.2];simp[a]
 ·show n<=_;simp
theorem AY{P:wau}{w:World}{K:wa2}{C:Expr}(it:Addr)(lo c:Int)(n:Nat):Turn P w K C (Lb lo c n) [it] it (λi h=>wg0 h it (lo+(i:Nat)*c) ((n:Int)-(i:Nat)) c) where
 mem:=by simp
 obj:=λi h st b d=>by
  have e:b=it:=by simpa using d
  subst e
  exact⟨_,st,λv z=>by
   have A:wdC _=weU v:=z
   cases A⟩
 keep:=λi h g st k=>k it (by simp) _ st
 item:=by
  intro X l hw m hc i a s σ H E I j st p;subst l hw m;obtain⟨q,f1,f2,r,u,x⟩:=j it (by simp);have B:=Walks.range (prog:=X.prog) (w:=X.w) (I.ok.hd hc) it lo c n;refine B.item i s _ _ p st λv g y D f G=>?_;obtain⟨t,rfl⟩:=D;have J:Inv X a σ H {s with heap:=g,toks:=y}:=I.turned (λb o d e=>G b o (by simpa using d) e) q f1 r u x;exact⟨_,rfl,xJ (s:={s with heap:=g,toks:=y}) (n:="range_iterator") f rfl rfl (by decide) ⟨.int (lo+(i:Nat)*c),H,J,⟨t,rfl⟩,⟨rfl,rfl⟩,f,λb d=>(j b d).1⟩⟩
 done:=by
   intro X l hw m hc i a s σ H E I j st p;subst l hw m;obtain⟨q,f1,f2,r,u,x⟩:=j it (by simp);exact wg1 (I.ok.hd hc) st (by have:n<=i:=p;omega) λg L=>⟨rfl,I.turned (t':=s.toks) (λb o d e=>L b o d e) q f1 r u x⟩
 self:=λ_ _ _ _ _ st h=>wg2 st h
section
variable{X:Cx}{tg:Expr}
end
end L2
namespace Bs
open PySem L2
section
variable{ws ss:List Str}
end
end Bs
namespace Sx
open PySem L2 Bs
end Sx
namespace L2
open PySem PySem.Spec PyProof.Rows
section
variable{M:Model}{A:Around}{E:Value->Shared->Prop}{e C CB:Addr}{nm q:Str}{N:Addr}{bs:List Value}{hdct:Bool}{sn:List Str}{sub:List Value}{ab:Bool}{col:Option Bool}{dd:Option Addr}{k0 k1 k2 k3 k5:Option Value}
theorem sD{h:Heap}{g:Array wdr}{d:Drawn}{t:Nat}{os:wbS}{p:Obj}{Q:Bool->Shared->Prop}(l:h.get? C=some (wbs nm q C N bs (oA CB) hdct sn sub ab col dd k0 k1 k2 k3 k5 "ValueError.__new__"))
 (r:h.get? e=some p) (j:p.cls=.ref C) (I:Q true ⟨h,g,d,t,os⟩) :
 wpAny M A (wgI (.ref e) (.ref C)) Q E ⟨h,g,d,t,os⟩:=by
 have a:(wan C::oA CB).contains (.type "BaseException")=true:=by grind
 have b:(wan C::oA CB).contains (.ref C)=true:=by grind
 have f:=tc_notTuple;unfold wgI
 repeat (first |(with_reducible refine wbb r ?_;rw[j]) |with_reducible refine wbb l ?_ |(with_reducible refine wbQ l ?_;rw[b]) |(with_reducible refine wbQ l ?_;rw[a]) |wp_step)
 exact I
end
section
variable{X:Cx}{CB C:Addr}{QE x nm:Str}{b:Bool}{body:List Stmt}{tb:Mo}{i jj:Nat}{p1 p2 p3 p4 NF pos:Pos}
theorem Iv{X:Cx}{K:wa2}{o e:Expr}{l:List Expr}{to:TE}{t:TA}{name:Str}{apos g:Pos}{T id:String}{r:V->List V->Hp->VK->Prop}(hK:X.K=K)(pa:wgE T)(slot:Slot T name id)(U:typeOf (.builtin id)=pure (.type "method_descriptor"))(hm:Kj X id r)(ho:PE X o to)(ha:PA X (e::l) t)
 (p:wct o name X.env (eval o X.env)=eval o X.env:=by rfl)
 (J:((backTo g (starEach (e::l) X.env)).all (λx=>!x.1)&&(backToKw g (wdD [] X.env)).all (λx=>x.1.isSome)
   && decide ((e::l).length+([]:List wej).length+(if ([]:List wej).isEmpty then 0 else 1)<30))=true:=by rfl)
 (I:(apos.endLine==g.line)=true:=by rfl) (hs:starEach (e::l) X.env=(false,eval e X.env)::starEach l X.env:=by rfl) (j:(backTo g (starEach l X.env)).any (·.1)=false:=by rfl) :
 PE X (.Call (.Attribute o name apos) (e::l) [] g) (VP K T r to t):=by
 subst hK;exact j8 pa slot U hm ho ha p J I hs j
end
end L2
namespace Bs
open PySem L2
section
variable{g:Str}{ws ss:List Str}
end
end Bs
namespace Sx
open PySem L2 Bs
end Sx
namespace L2
open PySem PySem.Spec PyProof.Rows
section
variable{prog:wau}{w:World}{A:Around}{R:wd8->Shared->Prop}{s:Shared}{d it l t:Addr}{i:Nat}{items:Array Value}
end
section
variable{prog:wau}{w:World}{K:Type}[DecidableEq K]{knd:KeyKind prog w K}{A:Around}{E:Value->Shared->Prop}{s:Shared}{l:Addr}{o:Obj}{items:Array Value}{n:Nat}
end
section
variable{X:Cx}{A:Around}{pins:List (Addr×Obj)}{σ:St}{H:Hp}{d it l:Addr}{ts:List Addr}{ps:List (Key×V)}{R:wd8->Shared->Prop}
end
end L2
namespace Bs
open PySem L2
end Bs
namespace Sx
open PySem L2 Bs
end Sx
namespace L2
open PySem PySem.Spec PyProof.Rows
section
variable{X:Cx}
end
end L2
namespace Bs
open PySem L2
section
variable{g:Str}{ws ss ss':List Str}
end
noncomputable def isInt:V->Bool
 |.int _=>true
 |_=>false
end Bs
namespace Sx
open PySem L2 Bs
end Sx
namespace L2
open PySem PySem.Spec PyProof.Rows
noncomputable def ug:List Expr->Option (List Int)
 |[]=>some []
 |.Constant (.int i) _ _::es=>(ug es).map (i :: ·)
 |_::_=>none
def Mr:List Int->TA
 |[]=>Hc
 |i::is=>Ad (tC (.int i)) (Mr is)
theorem pq{X:Cx}:∀{g:List Expr} {is:List Int},ug g=some is->PA X g (Mr is)
 |[],is,h=>by
  obtain rfl:[]=is:=wag h;exact a9
 |e::g,is,h=>by
  unfold ug at h;split at h
  ·rename_i heq;exact nomatch heq
  ·rename_i i j p a heq;cases heq
   cases q:ug g with
   |none=>rw[q]at h;cases h
   |some b=>
    rw[q]at h;obtain rfl:=wag h;exact a5 aq (pq q)
  ·cases h
def vc:List (Int×Int)->TA
 |[]=>Hc
 |p::ps=>Ad (PY (Ad (tC (.int p.1)) (Ad (tC (.int p.2)) Hc))) (vc ps)
theorem Lc{X:Cx}{ps:List (Int×Int)}(h:PA X g (vc ps)):PA X (.Tuple [.Constant (.int i) l p,.Constant (.int j) r t] C pt::g) (vc ((i,j)::ps)):=a5 (ee (a5 aq (a5 aq a9))) h
theorem Eg{σ:St}:∀{ps:List (Int×Int)} {H Q},(∀g j,a8 H g->j.length=ps.length->(∀(i:Nat) p,ps[i]?=some p->∃q,j[i]?=some (.ref q)/\g q=some (.tup [.int p.1,.int p.2]))->Q j g)->vc ps σ H Q
 |[],H,_,k=>k H [] (a8.refl _) rfl λ_ _ h=>nomatch h
 |_::_,_,_,k=>⟨(by show 2<=sizeLine;decide),λq f=>Eg λg j s e a=>k g (.ref q::j) ((a8.upd f).trans s) (congrArg (· + 1) e) λ
  |0,_,h=>⟨q,rfl,by cases h;exact s _ _ a6⟩
  |i+1,p,h=>a i p h⟩
set_option genInjectivity true in
inductive kF where
 |at (v:V)
 |tup (ds:List kF)
 |lst (ds:List kF)
noncomputable def NV:V->Bool
 |.non=>true
 |.bl _=>true
 |.int _=>true
 |.str _=>true
 |_=>false
mutual
def bL(K:wa2)(H:Hp):kF->V->Prop
 |.at x,v=>v=x/\NV x=true
 |.tup ds,v=>∃a xs,v=.ref a/\H a=some (.tup xs)/\bo K H ds xs
 |.lst ds,v=>∃a xs,v=.ref a/\Rd H a (.lst xs)/\bo K H ds xs
def bo(K:wa2)(H:Hp):List kF->List V->Prop
 |[],xs=>xs=[]
 |d::ds,xs=>∃v vs,xs=v::vs/\bL K H d v/\bo K H ds vs
end
section
variable{K:wa2}{H:Hp}
end
section
variable{X:Cx}{pins:List (Addr×Obj)}{σ:St}{H:Hp}{s:Shared}
theorem AZ(n:Nat):(waH n).all (λ_=>true)=true:=by simp
end
end L2
namespace L2
open PySem PySem.Spec PyProof.Rows Sx
section
variable{X:Cx}
theorem NW(l:X.A.units<wcI):nA X (wbk .NotEq) (λx y H Q=>x=y/\Thing H x/\(∀a,x=.ref a->H a≠some (.dK []))/\Q (.bl false) H):=by
 intro g s σ H x y v u Q I c d h;obtain⟨rfl,m,nd,q⟩:=h;have fin:EP X g σ Q (.bool false) s:=⟨.bl false,H,I,rfl,q⟩
 cases m with
 |flat f=>
  cases x with
  |non=>cases c;cases d;exact SeqAt.RcNeAt.none_none _ _ _ _ fin
  |bl b=>cases c;cases d;exact SeqAt.RcNeAt.bool_bool b b _ _ _ _ (by simpa using fin)
  |int b=>obtain⟨t,rfl⟩:=c;obtain⟨i,rfl⟩:=d;exact SeqAt.RcNeAt.int_int b t b i _ _ _ _ (by simpa using fin)
  |str b=>obtain⟨t,rfl⟩:=c;obtain⟨i,rfl⟩:=d;exact SeqAt.RcNeAt.str_str b t b i _ _ _ _ (by simpa using fin)
  |_=>exact absurd (show false=true from f) wap
 |@lst a n ha f=>
  cases c;cases d;obtain⟨k,r,pl,o⟩:=I.list (aM.of (K:=X.K) ha);refine SeqAt.RcNeAt.lists (e:=λ_=>true) pl.isList pl.isList rfl l (λj _ _=>wfW _) X.prog X.w _ _ ?_;rw[AZ];exact fin
 |@tup a n ha f=>
  cases c;cases d;obtain⟨k,r,pl,o⟩:=I.tuple (gL.of (K:=X.K) ha);refine SeqAt.RcNeAt.tuples (e:=λ_=>true) pl pl l (λj _ _=>wfW _) X.prog X.w _ _ ?_;rw[AZ,beq_self_eq_true];exact fin
 |@dic a ha=>exact absurd ha (nd a rfl)
end
end L2
namespace Bs
open PySem L2 AC
section
variable{g:Str}{ws ss ls:List Str}{p:Str}
noncomputable def kG(ws ss:List Str)(p:Str)(r:Str):Option (Str×Str):=if bears ws (p++r)=true then none else some (r,lend ss (p++r))
theorem Iw(h:bears ws (p++a)=true):kG ws ss p (a++c)=none:=by
 unfold kG;rw[if_pos]
 cases e:bears ws (p++(a++c)) with
 |true=>rfl
 |false=>
  have:=jC (a:=p++a) (b:=p++(a++c)) (by rw[<-eO,aY (p++a) c];exact⟨[],ch c,by simp⟩) e;rw[h]at this;cases this
theorem vd{α β:Type}{f:α->Option β}:∀{l:List α},(∀a∈l,f a=none)->l.filterMap f=[]:=by intro l;induction l<;>grind [waf,wac]
theorem yh(l:ss.Perm (bQ ws "" ws))(hw:∀w∈ws,1<=w.length)(h:bears ws (p++r)=false):∀j:List Nat,(j.filterMap λc=>if bears ws (lend ss (p++r)++⟨#[c]⟩)=true then none else some (r++(⟨#[c]⟩:Str),lend ss (lend ss (p++r)++(⟨#[c]⟩:Str))))=(j.map λc=>r++(⟨#[c]⟩:Str)).filterMap (kG ws ss p)
 |[]=>rfl
 |c::j=>by
  rw[waz,wbg,wbg,yh l hw h j]
  have e:(if bears ws (lend ss (p++r)++⟨#[c]⟩)=true then none else some (r++(⟨#[c]⟩:Str),lend ss (lend ss (p++r)++(⟨#[c]⟩:Str))))=kG ws ss p (r++⟨#[c]⟩):=by
   unfold kG;rw[ky l h hw,nE l h,eO]
  rw[e]
theorem B1(j:ss.Perm (bQ ws "" ws))(hw:∀w∈ws,1<=w.length):∀L:List Str,fM g ws ss (L.filterMap (kG ws ss p))=(L.flatMap λr=>(ch g).map λc=>r++(⟨#[c]⟩:Str)).filterMap (kG ws ss p)
 |[]=>rfl
 |r::L=>by
  rw[we6,wgt,<-B1 j hw L,wbg]
  cases h:bears ws (p++r) with
  |true=>
   have e:kG ws ss p r=none:=by unfold kG;rw[if_pos h]
   rw[e,vd (l:=(ch g).map λc=>r++(⟨#[c]⟩:Str)) λa ha=>by grind [Iw]];rfl
  |false=>
   have e:kG ws ss p r=some (r,lend ss (p++r)):=by unfold kG;rw[if_neg (by rw[h];exact wap)]
   rw[e,<-yh j hw h];exact we6 ..
theorem ve(l:ss.Perm (bQ ws "" ws))(hw:∀w∈ws,1<=w.length)(j:p∈ss):∀n,uW g ws ss p n=(JZ g n).filterMap (kG ws ss p)
 |0=>by
  obtain⟨b,a⟩:=oC l hw j;show [(("":Str),p)]=[("":Str)].filterMap (kG ws ss p);have e:kG ws ss p ""=some (("":Str),p):=by unfold kG;rw[kE,a,if_neg (by grind)]
  rw[wbg,e];rfl
 |n+1=>by
  show fM g ws ss (uW g ws ss p n)=((JZ g n).flatMap λr=>(ch g).map λc=>r++(⟨#[c]⟩:Str)).filterMap (kG ws ss p);rw[ve l hw j n,B1 l hw]
noncomputable def Ld(ws ss ls:List Str)(p:Str)(r:Str):Option (Str×Str):=if bears ws (p++r)=true then none else if lend ss (p++r)∈ls then some (r,lend ss (p++r)) else none
theorem D7(l:ss.Perm (bQ ws "" ws))(hw:∀w∈ws,1<=w.length)(j:p∈ss)(n:Nat):(JZ g n).filterMap (Ld ws ss ls p)=aT g ws ss ls n p:=by
 unfold aT;rw[ve l hw j]
 have:∀L:List Str,L.filterMap (Ld ws ss ls p)=(L.filterMap (kG ws ss p)).filter λq=>decide (q.2∈ls):=by
  intro L
  induction L with
  |nil=>rfl
  |cons r L a=>
   rw[wbg,wbg,a];unfold Ld kG
   cases h:bears ws (p++r) with
   |true=>rfl
   |false=>
    rw[if_neg wap,if_neg wap]
    by_cases hl:lend ss (p++r)∈ls
    ·rw[if_pos hl,wb3 (by exact decide_eq_true hl)]
    ·rw[if_neg hl,wba (by simpa using hl)]
 exact this _
end
end Bs
namespace L2
open PySem Bs
noncomputable def Ms(q:Str×Str):kF:=.tup [.at (.str q.1),.at (.str q.2)]
theorem yi:∀(rs:List Addr) (g:List (Str×Str)),b8 H rs (g.map mn)->bo K H (g.map Ms) (rs.map V.ref)
 |[],[],_=>rfl
 |[],_::_,h=>by have:=h.1;simp at this
 |_::_,[],h=>by have:=h.1;simp at this
 |r::rs,q::g,h=>by
  refine⟨.ref r,rs.map V.ref,rfl,⟨r,mn q,rfl,h.2 0 r (mn q) rfl rfl,?_⟩,yi rs g ⟨by have:=h.1;simpa using this,λi a b c d=>h.2 (i+1) a b c d⟩⟩;exact⟨.str q.1,[.str q.2],rfl,⟨rfl,rfl⟩,⟨.str q.2,[],rfl,⟨rfl,rfl⟩,rfl⟩⟩
theorem U9.Bs.eG.rds(R:eG H l rs g):bL K H (.lst (g.map Ms)) (.ref l):=⟨l,_,rfl,.inl R.l,yi rs g R.t⟩
end L2
namespace Sx
open PySem L2 Bs
end Sx
namespace L2
open PySem PySem.Spec PyProof.Rows Sx
section
variable{X:Cx}
end
theorem bo.rj{K:wa2}{H:Hp}:∀(g:List kF) (ys:List V),g.length=ys.length->(∀(i:Nat) (d:kF) (y:V),g[i]?=some d->ys[i]?=some y->bL K H d y)->bo K H g ys
 |[],[],_,_=>rfl
 |[],_::_,h,_=>by simp at h
 |_::_,[],h,_=>by simp at h
 |d::g,y::ys,h,r=>⟨y,ys,rfl,r 0 d y rfl rfl,bo.rj g ys (by simpa using h) λi a b c e=>r (i+1) a b c e⟩
theorem B4{Ok:Hp->Prop}{Q:Hp->Prop}(R:Nat->V->Hp->Prop)(C:∀i y I g ys,R i y I->I l=some (.lst ys)->(∀b o,I b=some o->b≠l->g b=some o)->R i y g)(T:lY J Ok xs)(hl:H l=none)(hz:xs.length<=sizeLine)(r:∀p,a8 H p->Ok p)
 (he:∀i x t ys Q',xs[i]?=some x->a8 H t->t l=some (.lst ys)->(∀y p,a8 t p->R i y p->Q' y p)->te (some x::U) t Q')
 (hd:∀ys p,a8 H p->p l=some (.lst ys)->ys.length=xs.length->(∀i y,ys[i]?=some y->R i y p)->Q p):nN J l U wO te H Q:=by
 refine⟨λi m a g=>m=xs.length-i/\i<=xs.length/\a8 H g/\g l=some (.lst a)/\a.length=i/\∀j y,a[j]?=some y->R j y g,⟨xs.length,by simp,waB _,a8.upd hl,a6,rfl,λj y h=>by simp at h⟩,?_⟩;rintro i m a g ⟨rfl,hi,f,k,c,B⟩;refine⟨k,?_⟩
 by_cases d:i<xs.length
 ·refine .inr ⟨T.go i g (r _ f) d,by rw[c];omega,λx t y=>?_⟩;obtain⟨e,D⟩:=T.u0 i g x t (r _ f) d y;subst e;unfold wO;dsimp only;rw[if_pos rfl];refine he i x _ a _ D f k λy s u v=>⟨u _ _ k,xs.length-(i+1),by omega,rfl,d,λb o e=>?_,a6,by rw[wa5,c];rfl,λj z n=>?_⟩
  ·rw[ae (af e hl)];exact u _ _ (f _ _ e)
  ·have q:=u _ _ k;have kp:∀b o,s b=some o->b≠l->(upd s l (.lst (a++[y]))) b=some o:=λb o e E=>by rw[ae E];exact e
   by_cases w:j<a.length
   ·rw[waF w]at n;exact C j z s _ _ (C j z _ _ _ (B j z n) k λb o e _=>u _ _ e) q kp
   ·rw[waD (by omega)]at n
    have A:j-a.length=0:=by
     have:=(wa6.mp n).1;simp at this;omega
    rw[A]at n;cases n;have:j=i:=by omega
    rw[this];exact C i y s _ _ v q kp
 ·have e:i=xs.length:=by omega
  subst e;exact .inl ⟨T.stop g (r _ f),hd a g f k c B⟩
section
variable{X:Cx}
theorem FE{K:wa2}(J:X.K=K):Kj X "list.index" (λx xs H Q=>∃l g k i,x=.ref l/\xs=[.str k]/\aM K H l (wdl V.str g)/\g.length<=1000/\g[i]?=some k/\(∀j:Nat,j<i->g[j]?≠some k)/\Q (.int (i:Nat)) H):=by
 subst J;intro A s σ H x xs v Y Q I E G h;obtain⟨l,g,k,i,rfl,rfl,L,M,hi,f,q⟩:=h;cases E;obtain⟨u,rfl,N,rfl⟩:=G.one;obtain⟨a,B,pl,Z⟩:=I.list L;obtain⟨⟨cls,O,data,sl⟩,C,hc,n,hd⟩:=pl.isList;simp only at hc hd;subst hc hd;have c:=B.length;rw[wa0]at c;have R:i<g.length:=(wa6.mp hi).1
 have at_:∀m (b:m<a.length),∃t,a[m]=.str (g[m]'(by omega)) t:=λm b=>by
  obtain⟨w,D,S⟩:=B.get (i:=m) (x:=.str (g[m]'(by omega))) (by rw[wa4,wa1 (by omega)];rfl);rw[wa1 b]at D;obtain⟨t,rfl⟩:=S;exact⟨t,wag D⟩
 refine wev wd1 ⟨_,C,rfl⟩ wfC (wfk _ _)
  (wfD l a.toArray n O sl (.str k N) (λw=>match w with |.str z _=>z==k |_=>false) i (by simp;omega) (by omega) ?_ ?_) ⟨C,λy T=>?_,?_⟩
 ·obtain⟨t,e⟩:=at_ i (by omega);have U:g[i]=k:=(wa6.mp hi).2;simp only[wdy];rw[e,U];simp
 ·intro m b o;have p:m<a.length:=by simpa using b
  obtain⟨t,e⟩:=at_ m p;simp only[wdy];rw[e];have d:=f m o;rw[wa1 (by omega)]at d;simp only[beq_eq_false_iff_ne,ne_eq];exact λz=>d (by rw[z])
 ·have r:y∈a:=by simpa using T
  obtain⟨m,b,rfl⟩:=wbR r;obtain⟨t,e⟩:=at_ m b;rw[e];exact wgn _ _ _ _
 ·exact⟨.int (i:Nat),H,I.tok _,⟨_,rfl⟩,q⟩
end
end L2
namespace L2
open PySem PySem.Spec PyProof.Rows Sx Bs
theorem pw(s:a8 H g)(h:Rd H a o):Rd g a o:=by
 rcases h with e |⟨z,e⟩
 ·exact .inl (s _ _ e)
 ·exact .inr ⟨z,s _ _ e⟩
theorem a8.Le{K:wa2}{H g:Hp}{a:Addr}{xs:List V}(s:a8 H g)(h:gL K H a xs):gL K g a xs:=by
 rcases h with e |e
 ·exact .inl (pw s e)
 ·exact .inr e
mutual
theorem bL.same{K:wa2}{H g:Hp}(s:a8 H g):∀(d:kF) (v:V),bL K H d v->bL K g d v
 |.at _,_,h=>h
 |.tup c,_,h=>by
  obtain⟨a,b,e,f,hl⟩:=h;exact⟨a,b,e,s _ _ f,bo.same s c b hl⟩
 |.lst c,_,h=>by
  obtain⟨a,b,e,f,hl⟩:=h;exact⟨a,b,e,pw s f,bo.same s c b hl⟩
theorem bo.same{K:wa2}{H j:Hp}(s:a8 H j):∀(g:List kF) (xs:List V),bo K H g xs->bo K j g xs
 |[],_,h=>h
 |d::g,_,h=>by
  obtain⟨v,a,e,b,hl⟩:=h;exact⟨v,a,e,bL.same s d v b,bo.same s g a hl⟩
end
theorem bo.len{K:wa2}{H:Hp}:∀{g:List kF} {xs:List V},bo K H g xs->xs.length=g.length
 |[],xs,h=>by
  have e:xs=[]:=h;subst e;rfl
 |d::g,_,h=>by
  obtain⟨v,a,rfl,_,hl⟩:=h;rw[waK,waK,bo.len hl]
theorem bo.get{K:wa2}{H:Hp}:∀{g:List kF} {xs:List V},bo K H g xs->∀(i:Nat) (x:V),xs[i]?=some x->∃d,g[i]?=some d/\bL K H d x
 |[],_,h,i,x,e=>by
  rw[show _=[] from h]at e;simp at e
 |d::g,_,h,i,x,e=>by
  obtain⟨v,a,rfl,b,hl⟩:=h
  cases i with
  |zero=>grind
  |succ i=>exact bo.get hl i x e
theorem bo.at{K:wa2}{H:Hp}{g:List kF}{xs:List V}(h:bo K H g xs){i:Nat}{d:kF}(e:g[i]?=some d):∃x,xs[i]?=some x/\bL K H d x:=by
 have hi:i<g.length:=(wa6.mp e).1;have a:xs[i]?=some (xs[i]'(by rw[h.len];exact hi)):=wa1 _;obtain⟨c,b,r⟩:=h.get i _ a;rw[e]at b;cases b;exact⟨_,a,r⟩
noncomputable def aJ(H H':Hp):Hp:=λa=>match H a with
 |none=>H' a
 |some _=>none
theorem bZ(H g:Hp):a8 (aJ H g) g:=λa o e=>by
 grind [aJ]
theorem eP(s:a8 g H):a8 (aJ H j) (aJ g j):=λa o e=>by
 unfold aJ at e ⊢
 cases h:H a with
 |none=>rw[h]at e;rw[none_of s h];exact e
 |some z=>rw[h]at e;cases e
theorem iR(s:a8 g j):a8 (aJ H g) (aJ H j):=by grind [a8,aJ]
theorem bR(hl:H l=some o)(kp:∀b o,g b=some o->b≠l->j b=some o):a8 (aJ H g) (aJ H j):=by grind [a8,aJ]
theorem bX(h:H a=none)(e:g a=some o):aJ H g a=some o:=by
 grind [aJ]
theorem vf{K:wa2}{J:It}{Ok:Hp->Prop}{xs:List V}{l:Addr}{t:St}{U:TE}{H:Hp}{Q:Hp->Prop}(p:List kF)(hJ:lY J Ok xs)(hl:H l=none)(hz:xs.length<=sizeLine)(C:p.length=xs.length)(I:∀g,a8 H g->Ok g)
 (he:∀(i:Nat) (x:V) (d:kF) j T,xs[i]?=some x->p[i]?=some d->a8 H j->(∀y g,a8 j g->bL K (aJ j g) d y->T y g)->U (some x::t) j T)
 (hd:∀g,a8 H g->bL K (aJ H g) (.lst p) (.ref l)->Q g):nN J l t wO U H Q:=by
 refine B4 (λi y g=>∀d,p[i]?=some d->∃j o,a8 H j/\j l=some o/\bL K (aJ j g) d y) ?_ hJ hl hz I (λi x j f T k b c m=>?_) (λf g h n e q=>?_)
 ·intro i y v w f r s kp d a;obtain⟨j,o,b,c,r⟩:=r d a;exact⟨j,o,b,c,bL.same (bR c kp) d y r⟩
 ·have hi:i<p.length:=by rw[C];exact(wa6.mp k).1
  refine he i x p[i] j _ k (wa1 hi) b λy g h r=>m y g h λd a=>?_;rw[wa1 hi]at a;cases a;exact⟨j,_,b,c,r⟩
 ·refine hd g h ⟨l,f,rfl,.inl (bX hl n),bo.rj p f (by rw[C,e]) λi d y a u=>?_⟩;obtain⟨j,o,b,c,r⟩:=q i y u d a;exact bL.same (eP b) d y r
theorem jG{K:wa2}{J:It}{Ok:Hp->Prop}{xs:List V}{prs:List (V×V)}{l:Addr}{I:St}{tt:TT}{te:TE}{H:Hp}{Q:Hp->Prop}(p:V×V->Bool)(D:V×V->kF)(hJ:lY J Ok xs)(C:xs.length=prs.length)
 (hT:∀(i:Nat) (q:V×V),prs[i]?=some q->∃r,xs[i]?=some (.ref r)/\gL K H r [q.1,q.2]) (hl:H l=none) (hz:xs.length<=sizeLine) (T:∀t,a8 H t->Ok t)
 (ht:∀q g U,q∈prs->a8 H g->(∀t,a8 g t->U (p q) t)->tt (some q.1::some q.2::I) g U)
 (he:∀q g U,q∈prs->p q=true->a8 H g->(∀y t,a8 g t->bL K (aJ g t) (D q) y->U y t)->te (some q.1::some q.2::I) g U)
 (hd:∀t,a8 H t->bL K (aJ H t) (.lst ((prs.filter p).map D)) (.ref l)->Q t):kC K J l I tt te H Q:=by
 refine⟨λi m c s=>m=xs.length-i/\i<=xs.length/\a8 H s/\s l=some (.lst c)/\c.length=((prs.take i).filter p).length/\∀(j:Nat) (d:kF) (y:V),(((prs.take i).filter p).map D)[j]?=some d->c[j]?=some y->∃g o,a8 H g/\g l=some o/\bL K (aJ g s) d y,
  ⟨xs.length,by simp,waB _,a8.upd hl,a6,by simp,λj d y h=>by simp at h⟩,?_⟩
 rintro i m c s ⟨rfl,hi,k,N,f,Z⟩;refine⟨N,?_⟩
 by_cases n:i<xs.length
 ·have hfl:((prs.take i).filter p).length<=i:=waj (wb4 _ _) (by rw[wak];omega);refine .inr ⟨hJ.go i s (T _ k) n,by omega,λx g y=>?_⟩;obtain⟨e,hx⟩:=hJ.u0 i s x g (T _ k) n y;subst e;have hq:prs[i]?=some prs[i]:=wa1 (by omega);obtain⟨r,A,hr⟩:=hT i _ hq;rw[hx]at A;cases A;have mem:prs[i]∈prs:=waL _;have tk:prs.take (i+1)=prs.take i++[prs[i]]:=by rw[waN,hq];rfl
  refine⟨r,prs[i].1,prs[i].2,rfl,k.Le hr,ht prs[i] _ _ mem k λH4 v=>?_⟩
  have B:∀(j:Nat) (d:kF) (y:V),(((prs.take i).filter p).map D)[j]?=some d->c[j]?=some y->∃g o,a8 H g/\g l=some o/\bL K (aJ g H4) d y:=λj d y h1 h3=>by
   obtain⟨O,o,E,h5,R⟩:=Z j d y h1 h3;exact⟨O,o,E,h5,bL.same (iR v) d y R⟩
  cases S:p prs[i] with
  |false=>
   rw[if_neg wap];have G:(prs.take (i+1)).filter p=(prs.take i).filter p:=by rw[tk,wbw];simp[S]
   exact⟨xs.length-(i+1),by omega,rfl,n,k.trans v,v _ _ N,by rw[G];exact f,by rw[G];exact B⟩
  |true=>
   rw[if_pos rfl];have G:(prs.take (i+1)).filter p=(prs.take i).filter p++[prs[i]]:=by rw[tk,wbw];simp[S]
   have w:=v _ _ N;refine he prs[i] _ _ mem S (k.trans v) λy O E R=>⟨E _ _ w,xs.length-(i+1),by omega,rfl,n,λb o e=>?_,a6,by rw[G,wa5,wa5,f];rfl,λj d z u a=>?_⟩
   ·rw[ae (af e hl)];exact E _ _ (v _ _ (k _ _ e))
   ·have kp:∀b o,O b=some o->b≠l->(upd O l (.lst (c++[y]))) b=some o:=λb o e hb=>by rw[ae hb];exact e
    rw[G,wao]at u;have X:(((prs.take i).filter p).map D).length=c.length:=by rw[wa0,f]
    by_cases Y:j<c.length
    ·rw[waF (by omega)]at u;rw[waF Y]at a;obtain⟨H6,o,s6,h6,r6⟩:=B j d z u a;exact⟨H6,o,s6,h6,bL.same ((iR E).trans (bR h6 kp)) d z r6⟩
    ·rw[waD (by omega)]at u a
     have L:j-c.length=0:=by
      have:=(wa6.mp a).1;simp at this;omega
     rw[X,L]at u;rw[L]at a;cases u;cases a;exact⟨H4,_,k.trans v,w,bL.same (bR w kp) _ _ R⟩
 ·have e:i=xs.length:=by omega
  subst e;refine .inl ⟨hJ.stop s (T _ k),hd s k ⟨l,c,rfl,.inl (bX hl N),bo.rj _ c ?_ λj d y u hy=>?_⟩⟩
  ·rw[C,waI]at f;rw[wa0,f]
  ·have M:=Z j d y;rw[C,waI]at M;obtain⟨g,o,s3,h3,r3⟩:=M u hy;exact bL.same (eP s3) d y r3
noncomputable def fH(H:Hp)(x:Addr):Hp:=λd=>if d=x then none else H d
theorem gC(h:H d=some o)(hd:d≠x):fH H x d=some o:=by
 unfold fH;rw[if_neg hd];exact h
theorem fh(kp:∀b o,H b=some o->b≠x->g b=some o):a8 (fH H x) g:=λd o e=>by
 unfold fH at e
 by_cases hd:d=x
 ·grind
 ·grind
theorem NX(j:H x=some (.ins C g fs))(h:Rd H d o)(l:∀z,o≠.ins C g z)(p:∀a b,HO.frz a b≠.ins C g fs):Rd (fH H x) d o:=by grind [Rd,fH,gC,wag]
theorem zg{K:wa2}{H:Hp}{x C g:Addr}{fs:List (Str×V)}(j:H x=some (.ins C g fs)){d:Addr}{ys:List V}(h:aM K H d ys):aM K (fH H x) d ys:=by
 rcases h with(e |⟨o,e⟩) |e
 ·exact .inl (.inl (gC e λz=>by grind))
 ·exact .inl (.inr ⟨o,gC e λz=>by grind⟩)
 ·exact .inr e
mutual
theorem bL.off{K:wa2}{H:Hp}{x C j:Addr}{fs:List (Str×V)}(g:H x=some (.ins C j fs)):∀(d:kF) (v:V),bL K H d v->bL K (fH H x) d v
 |.at _,_,h=>h
 |.tup c,_,h=>by
  obtain⟨a,b,e,f,hl⟩:=h;exact⟨a,b,e,gC f (λz=>by grind),bo.off g c b hl⟩
 |.lst c,_,h=>by
  obtain⟨a,b,e,f,hl⟩:=h;exact⟨a,b,e,NX g f (λ_ z=>by cases z) (λ_ _ z=>by cases z),bo.off g c b hl⟩
theorem bo.off{K:wa2}{H:Hp}{x C l:Addr}{fs:List (Str×V)}(j:H x=some (.ins C l fs)):∀(g:List kF) (xs:List V),bo K H g xs->bo K (fH H x) g xs
 |[],_,h=>h
 |d::g,_,h=>by
  obtain⟨v,a,e,b,hl⟩:=h;exact⟨v,a,e,bL.off j d v b,bo.off j g a hl⟩
end
theorem iH{K:wa2}{H:Hp}{d:kF}{v:V}:∀{g:List kF} {xs:List V},bo K H g xs->bL K H d v->bo K H (g++[d]) (xs++[v])
 |[],xs,h,r=>by
  have e:xs=[]:=h;subst e;exact⟨v,[],rfl,r,rfl⟩
 |c::g,_,h,r=>by
  obtain⟨v0,a,rfl,b,hl⟩:=h;exact⟨v0,a++[v],rfl,b,iH hl r⟩
end L2
namespace Bs
open PySem L2 Sx
noncomputable def lF(q:Str×Nat):kF:=.tup [.at (.str q.1),.at (.int (q.2:Int))]
noncomputable def bY(qs:List (Str×Nat)):kF:=.lst (qs.map lF)
noncomputable def kH(lns:List (List (Str×Nat))):kF:=.lst (lns.map bY)
noncomputable def sE(hs:List Str):kF:=.lst (hs.map λh=>.at (.str h))
noncomputable def nP(ws:List Int):kF:=.lst (ws.map λw=>.at (.int w))
theorem Iy(h:bL K H (sE hs) v):∃a,v=.ref a/\aM K H a (hs.map V.str):=by
 obtain⟨a,b,rfl,f,hl⟩:=h;refine⟨a,rfl,?_⟩
 have:b=hs.map V.str:=by
  refine whj λi=>?_
  cases e:b[i]? with
  |none=>
   have:=hl.len;rw[wa0]at this;rw[wck (by rw[wa0];have:=wfl.mp e;omega)]
  |some x=>
   obtain⟨d,hd,r⟩:=hl.get i x e;rw[wa4]at hd ⊢
   cases c:hs[i]? with
   |none=>rw[c]at hd;cases hd
   |some z=>
    rw[c]at hd;cases hd;rw[r.1];rfl
 rw[<-this];exact .inl f
theorem iS(h:bL K H (nP ws) v):∃a,v=.ref a/\aM K H a (ws.map V.int):=by
 obtain⟨a,b,rfl,f,hl⟩:=h;refine⟨a,rfl,?_⟩
 have:b=ws.map V.int:=by
  refine whj λi=>?_
  cases e:b[i]? with
  |none=>
   have:=hl.len;rw[wa0]at this;rw[wck (by rw[wa0];have:=wfl.mp e;omega)]
  |some x=>
   obtain⟨d,hd,r⟩:=hl.get i x e;rw[wa4]at hd ⊢
   cases c:ws[i]? with
   |none=>rw[c]at hd;cases hd
   |some z=>
    rw[c]at hd;cases hd;rw[r.1];rfl
 rw[<-this];exact .inl f
theorem pz(h:H a=some (.lst (hs.map V.str))):bL K H (sE hs) (.ref a):=
 ⟨a,_,rfl,.inl h,bo.rj _ _ (by simp) λi d y hd b=>by
   rw[wa4]at hd b
   cases e:hs[i]? with
   |none=>rw[e]at hd;cases hd
   |some z=>rw[e]at hd b;cases hd;cases b;exact⟨rfl,rfl⟩⟩
theorem jH(h:H a=some (.lst (ws.map V.int))):bL K H (nP ws) (.ref a):=
 ⟨a,_,rfl,.inl h,bo.rj _ _ (by simp) λi d y hd b=>by
   rw[wa4]at hd b
   cases e:ws[i]? with
   |none=>rw[e]at hd;cases hd
   |some z=>rw[e]at hd b;cases hd;cases b;exact⟨rfl,rfl⟩⟩
noncomputable def eI(q:Str×Nat):V×V:=(.str q.1,.int (q.2:Int))
theorem kJ(h:bL K H (bY g) v):∃a xs,v=.ref a/\aM K H a xs/\xs.length=(g.map eI).length/\∀(i:Nat) (q:V×V),(g.map eI)[i]?=some q->∃r,xs[i]?=some (.ref r)/\H r=some (.tup [q.1,q.2]):=by
 obtain⟨a,xs,rfl,j,hl⟩:=h;refine⟨a,xs,rfl,.inl j,by rw[hl.len,wa0,wa0],λi q b=>?_⟩;rw[wa4]at b
 cases e:g[i]? with
 |none=>rw[e]at b;cases b
 |some z=>
  rw[e]at b;cases b;obtain⟨x,k,r⟩:=hl.at (i:=i) (d:=lF z) (by grind);obtain⟨l,p,rfl,f,m⟩:=r;obtain⟨v1,s,rfl,⟨rfl,_⟩,n⟩:=m;obtain⟨t,c,rfl,⟨rfl,_⟩,o⟩:=n;rw[show c=[] from o]at f;exact⟨l,k,f⟩
theorem mr(g:H r=none)(q:Str×Nat):bL K (aJ H (upd H r (.tup [.str q.1,.int (q.2:Int)]))) (lF q) (.ref r):=
 ⟨r,_,rfl,bX g a6,.str q.1,[.int (q.2:Int)],rfl,⟨rfl,rfl⟩,.int (q.2:Int),[],rfl,⟨rfl,rfl⟩,rfl⟩
noncomputable def sF(a:Addr):List (Str×V):=[("homes",.ref a)]
noncomputable def pA(a b:Addr):List (Str×V):=[("homes",.ref a),("weights",.ref b)]
noncomputable def D8(a b c:Addr):List (Str×V):=[("homes",.ref a),("weights",.ref b),("lines",.ref c)]
theorem Mt(a:Addr):cH "homes" (.ref a) []=sF a:=rfl
theorem Iz(a b:Addr):cH "weights" (.ref b) (sF a)=pA a b:=by
 show (if ("homes":Str)="weights" then(("homes":Str),V.ref b)::[] else(("homes":Str),V.ref a)::cH "weights" (.ref b) [])=_;rw[if_neg (by decide+kernel)];rfl
theorem Eh(a b c:Addr):cH "lines" (.ref c) (pA a b)=D8 a b c:=by
 show (if ("homes":Str)="lines" then(("homes":Str),V.ref c)::[(("weights":Str),V.ref b)] else(("homes":Str),V.ref a)::(if ("weights":Str)="lines" then(("weights":Str),V.ref c)::[] else(("weights":Str),V.ref b)::cH "lines" (.ref c) []))=_;rw[if_neg (by decide+kernel),if_neg (by decide+kernel)];rfl
theorem fA(a b c:Addr):(D8 a b c).lookup ("homes":Str)=some (.ref a):=by
 rw[<-Eh,aE,if_neg (by decide+kernel),<-Iz,aE,if_neg (by decide+kernel),<-Mt,aE,if_pos rfl]
theorem cF(a b c:Addr):(D8 a b c).lookup ("weights":Str)=some (.ref b):=by
 rw[<-Eh,aE,if_neg (by decide+kernel),<-Iz,aE,if_pos rfl]
theorem bT(a b c:Addr):(D8 a b c).lookup ("lines":Str)=some (.ref c):=by
 rw[<-Eh,aE,if_pos rfl]
structure cg(K:wa2)(C:Addr)(H:Hp)(x:Addr)(hs:List Str)(ws:List Int)(lns:List (List (Str×Nat))):Prop where
 ex:∃dx a b c,H x=some (.ins C dx (D8 a b c))/\bL K H (sE hs) (.ref a)/\bL K H (nP ws) (.ref b)/\bL K H (kH lns) (.ref c)
theorem cg.same(h:cg K C H x hs ws lns)(s:a8 H g):cg K C g x hs ws lns:=by
 obtain⟨d,a,b,c,e,f,i,j⟩:=h;exact⟨d,a,b,c,s _ _ e,bL.same s _ _ f,bL.same s _ _ i,bL.same s _ _ j⟩
end Bs
namespace Sx
open PySem L2 Bs
inductive IA(K:wa2)(vs:List V)(H:Hp)(Q:VK)(eE:XK):Prop
 |mk (v qs) (_:vs=[v]) (_:bL K H (bY qs) v) (_:qs.length<=10000) (_:∀y H',a8 H H'->bL K (aJ H H') (bY qs) y->Q y H')
inductive IB(K:wa2)(C:Addr)(vs:List V)(H:Hp)(Q:VK)(eE:XK):Prop
 |mk (x dx u v w hs ws lns) (_:vs=[.ref x,u,v,w]) (_:H x=some (.ins C dx [])) (_:bL K H (sE hs) u) (_:bL K H (nP ws) v) (_:bL K H (kH lns) w) (_:hs.length<=10000) (_:ws.length<=10000) (_:lns.length<=10000) (_:(∀l∈lns,l.length<=10000)) (_:∀a b c H',H' x=some (.ins C dx (D8 a b c))->bL K (aJ H H') (sE hs) (.ref a)->bL K (aJ H H') (nP ws) (.ref b)->bL K (aJ H H') (kH lns) (.ref c)->(∀b o,H b=some o->b≠x->H' b=some o)->Q .non H')
end Sx
namespace Bs
open PySem L2 Sx
noncomputable def ao(ls:List Str)(f:Str->Int):List Str:=ls.filter λp=>decide (0<f p)
noncomputable def gD(g:Str)(ws ss ls:List Str)(n:Nat)(hs:List Str)(p:Str):List (Str×Nat):=((aT g ws ss ls n p).filter λq=>decide (q.2∈hs)).map λq=>(q.1,hs.idxOf q.2)
noncomputable def bB(g:Str)(ws ss ls:List Str)(n:Nat)(hs:List Str):List (List (Str×Nat)):=hs.map (gD g ws ss ls n hs)
theorem D9(g:Str)(ws ss ls:List Str)(n:Nat)(hs:List Str)(p:Str):(gD g ws ss ls n hs p).length<=g.length^n:=by
 unfold gD;rw[wa0];exact waj (wb4 _ _) (gB g ws ss ls n p)
theorem sG:∀{hs:List Str} {j:Nat} (h:j<hs.length),hs.idxOf hs[j]<=j
 |[],j,h=>absurd h (wcJ _)
 |a::hs,0,h=>by
  show (a::hs).idxOf a<=0;rw[wgJ];exact waa 0
 |a::hs,j+1,h=>by
  have b:j<hs.length:=by simpa using h
  show (a::hs).idxOf hs[j]<=j+1;rw[whS];have:=sG b
  cases(a==hs[j]) with
  |true=>grind
  |false=>grind
theorem rm{hs:List Str}{k:Str}(h:k∈hs):hs[hs.idxOf k]?=some k/\∀j:Nat,j<hs.idxOf k->hs[j]?≠some k:=by grind [wa1,wag,sG]
end Bs
namespace Sx
open PySem L2 Bs
inductive Lf(K:wa2)(C CS:Addr)(vs:List V)(H:Hp)(Q:VK)(eE:XK):Prop
 |mk (x d:Addr) (many:Int) (n:Nat) (m:List (Str×Int)) (f:Str->Int) (g:Str) (ws ss ls:List Str) (_:vs=[.ref x,.int many,.int (n:Int),.ref d]) (_:aX C H x g ws ss ls) (_:2<=g.length) (_:g.length<=10) (_:ss.length<=900) (_:gA g.length many n) (_:Rd H d (.dK (bG m))) (_:NR m ls f) (_:∀(y:Addr) (H':Hp),a8 H H'->cg K CS (aJ H H') y (ao ls f) ((ao ls f).map f) (bB g ws ss ls n (ao ls f))->Q (.ref y) H')
end Sx
namespace L2
open PySem PySem.Spec PyProof.Rows Sx
section
variable{X:Cx}
end
end L2
namespace L2
open PySem
end L2
namespace PySem
section
variable{P:wau}{W0:World}{B:Around}{R:wd8->Shared->Prop}{I:Addr}{fp wr:List Addr}{n:Nat}{Pr:Nat->Value->Prop}{St:Nat->Heap->Prop}
theorem wU(W:Walks P W0 B.in1 I fp wr n Pr St)(bt:Nat->Nat->Bool)(cmp:CmpOf P W0 B.in1 .Gt Pr bt)(S:Addr)(nS:S∉fp)(kw:List (Str×Value)) :
 ∀(k j:Nat) (z:Shared) (best:Value) (c:Nat),n-(j+1)=k->j+1<=n->St (j+1) z.heap->Pr (argBest bt j) best->z.heap.get? S=some {cls:=.type "list",dict:=none,data:=.seq #[best,best] c,slots:=#[]} ->
 (∀v h' tk,Pr (argBest bt (n-1)) v->(∀b o,b∉wr->b≠S->z.heap.get? b=some o->h'.get? b=some o)->R (.ok (.ret v)) {z with heap:=h',toks:=tk}) ->
 codeAny (model P W0) B (.builtin "max.loop" ⟨[.ref I,.none,.ref S],kw⟩) R z:=by
 have Sy:S∉wr:=λh=>nS (W.sub _ h);have nm:(toString "max"++toString ".loop":String)="max.loop":=by decide
 intro k
 induction k with
 |zero=>
  intro j z best c hk hj st pb gS fin;have last:j+1=n:=by omega
  refine wbG weg ?_;rw[wbx wbY _];show wpAny _ B.in1 (wem (.ref S) >>= _) _ _ z;refine wa7 (wcU gS rfl ?_);show wpAny _ B.in1 (tryCatch (pyNext (.ref I)) _ >>= _) _ _ z;refine wa7 (wbM (W.done z _ _ (last ▸ st) λh' tk kp=>?_));have Mu:=kp S _ Sy gS;show wpAny _ B.in1 (wha S (λ_=>#[]) >>= _) _ _ _;refine wa7 (wdg Mu rfl (wa7 (wdm (wax ?_))));exact fin best _ tk (by rw[<-last];exact pb) λb o h1 h2 e=>(waR _ _ (wb9 h2)).trans (kp b o h1 e)
 |succ k ih=>
  intro j z best c hk hj st pb gS fin;have more:j+1<n:=by omega
  refine wbG weg ?_;rw[wbx wbY _];show wpAny _ B.in1 (wem (.ref S) >>= _) _ _ z;refine wa7 (wcU gS rfl ?_);show wpAny _ B.in1 (tryCatch (pyNext (.ref I)) _ >>= _) _ _ z;refine wa7 (wbM (W.item (j+1) z _ _ more st λv h' tk hP Sz kp=>?_));have Mu:=kp S _ Sy gS;show wpAny _ B.in1 (tryCatch (holding [v,v] (richCompare .Gt v best >>= _)) _ >>= _) _ _ _;refine wa7 (wbM (wbm (wa7 (cmp (j+1) (argBest bt j) v best _ _ _ hP pb ?_))));refine wa7 (wbm (wbO (wa7 (wdm (wax ?_)))))
  cases hb:bt (j+1) (argBest bt j) with
  |true=>
   simp only[if_true];refine wa7 (wdg Mu rfl (wa7 (wdm ?_)));rw[nm];refine wax ⟨wce wbY _,ih (j+1) _ v _ (by omega) more (W.frame _ _ _ Sz λb Ws o e=>?_) (by simp only[argBest,hb,if_true];exact hP) (wbB _ Mu rfl) λv' h2 QF QG QH=>?_⟩
   ·exact(waR _ _ (λh:S=b=>nS (by rw[h];exact Ws))).trans e
   ·exact fin v' h2 QF QG λb o h1 h3 e=>QH b o h1 h3 ((waR _ _ (wb9 h3)).trans (kp b o h1 e))
  |false=>
   simp only[wbW,if_false];refine wa7 (wdm ?_);rw[nm];refine wax ⟨wce wbY _,ih (j+1) _ best c (by omega) more Sz (by simp only[argBest,hb,wbW,if_false];exact pb) Mu λv' h2 QF QG QH=>?_⟩;exact fin v' h2 QF QG λb o h1 h3 e=>QH b o h1 h3 (kp b o h1 e)
theorem vg(W:Walks P W0 B.in1 I fp wr n Pr St)(bt:Nat->Nat->Bool)(cmp:CmpOf P W0 B.in1 .Gt Pr bt)(S:Addr)(nS:S∉fp)(kw:List (Str×Value))(pos:0<n)(st:St 0 z.heap)(gS:z.heap.get? S=some {cls:=.type "list",dict:=none,data:=.seq #[] c,slots:=#[]})
 (fin:∀v h' tk,Pr (argBest bt (n-1)) v->(∀b o,b∉wr->b≠S->z.heap.get? b=some o->h'.get? b=some o)->R (.ok (.ret v)) {z with heap:=h',toks:=tk}):codeAny (model P W0) B (.builtin "max.loop" ⟨[.ref I,.none,.ref S],kw⟩) R z:=by
 have Sy:S∉wr:=λh=>nS (W.sub _ h);have nm:(toString "max"++toString ".loop":String)="max.loop":=by decide
 refine wbG weg ?_;rw[wbx wbY _];show wpAny _ B.in1 (wem (.ref S) >>= _) _ _ z;refine wa7 (wcU gS rfl ?_);show wpAny _ B.in1 (tryCatch (pyNext (.ref I)) _ >>= _) _ _ z;refine wa7 (wbM (W.item 0 z _ _ pos st λv h' tk hP Sz kp=>?_));have Mu:=kp S _ Sy gS;show wpAny _ B.in1 (wha S (λ_=>#[v,v]) >>= _) _ _ _;refine wa7 (wdg Mu rfl ?_);rw[nm];refine wax ⟨wce wbY _,wU W bt cmp S nS kw _ 0 _ v _ rfl pos (W.frame _ _ _ Sz λb Ws o e=>?_) hP (wbB _ Mu rfl) λv' h2 QF QG QH=>?_⟩
 ·exact(waR _ _ (λh:S=b=>nS (by grind))).trans e
 ·exact fin v' h2 QF QG λb o h1 h3 e=>QH b o h1 h3 ((waR _ _ (wb9 h3)).trans (kp b o h1 e))
theorem wV(W:Walks P W0 B.in1 I fp wr n Pr St)(S:Addr)(nS:S∉fp)(dv:Value)(QI:n=0)(st:St 0 z.heap)(gS:z.heap.get? S=some {cls:=.type "list",dict:=none,data:=.seq #[] c,slots:=#[]})
 (fin:∀h' tk,(∀b o,b∉wr->b≠S->z.heap.get? b=some o->h'.get? b=some o)->R (.ok (.ret dv)) {z with heap:=h',toks:=tk}):codeAny (model P W0) B (.builtin "max.loop" ⟨[.ref I,.none,.ref S],[(wcs "default",dv)]⟩) R z:=by
 refine wbG weg ?_;rw[wbx wbY _];show wpAny _ B.in1 (wem (.ref S) >>= _) _ _ z;refine wa7 (wcU gS rfl ?_);show wpAny _ B.in1 (tryCatch (pyNext (.ref I)) _ >>= _) _ _ z;refine wa7 (wbM (W.done z _ _ (QI ▸ st) λh' tk kp=>?_));have done:=fin h' tk λb o h1 _ e=>kp b o h1 e
 wp_walk
 exact done
end
section
variable{P:wau}{W0:World}{B:Around}{E:Value->Shared->Prop}{z:Shared}
theorem wW(a v:Value):argsOk "max" ⟨[a],[(wcs "default",v)]⟩:=by unfold argsOk;kernel_rfl
theorem wX{Q:Value->Shared->Prop}(hh:B.handled=none)(il:z.heap.IsList l (intItems xs))
 (he:xs.size=0->∀h' tk,(∀b o,z.heap.get? b=some o->h'.get? b=some o)->Q dv {z with heap:=h',toks:=tk})
 (hn:0<xs.size->∀v h' tk,(intItems xs)[argBest (λi j=>decide (numAt xs i>numAt xs j)) (xs.size-1)]?=some v->(∀b o,z.heap.get? b=some o->h'.get? b=some o)->Q v {z with heap:=h',toks:=tk}) :
 wpAny (model P W0) B (call (.builtin "max") [.ref l] [(wcs "default",dv)]) Q E z:=by
 have nm:(toString "max"++toString ".loop":String)="max.loop":=by decide
 refine whV F.kind_max F.plain_max F.entry_max (wW _ _) ?_;show wpAny _ B.in1 (wcF "max" ["key","default"] 0 ⟨[],[(wcs "default",dv)]⟩ >>= _) _ _ z;refine wa7 (whv (show wcF "max" ["key","default"] 0 ⟨[],[(wcs "default",dv)]⟩=pure [none,some dv] from rfl) ?_);refine wa7 (wax (wa7 (iter_intList il λs₂ e st YR QJ=>?_)));subst e;refine wa7 (wfb ?_);rw[nm];have W:=wfi (prog:=P) (w:=W0) (A:=B.in1) hh z.heap.objs.size l QJ (intItems xs);have nS:(z.heap.push {cls:=.type "list_iterator",data:=.fields #[.ref l,.int 0 0]}).objs.size∉[z.heap.objs.size,l]:=λhm=>wbh _ (YR _ hm)
 have keep:∀{h':Heap},(∀b o,b∉[z.heap.objs.size]->b≠(z.heap.push {cls:=.type "list_iterator",data:=.fields #[.ref l,.int 0 0]}).objs.size->((z.heap.push {cls:=.type "list_iterator",data:=.fields #[.ref l,.int 0 0]}).push {cls:=.type "list",data:=.seq #[]}).get? b=some o->h'.get? b=some o)->∀b o,z.heap.get? b=some o->h'.get? b=some o:=λ{h'} hk b o e=>by
  have lt:=wae e;refine hk b o (λhm=>?_) (λh=>?_) (wa8 _ (wa8 _ e))
  ·rw[wat.mp hm]at lt;exact wbh _ lt
  ·rw[wbL]at h;rw[h]at lt;exact absurd (show z.heap.objs.size+1<z.heap.objs.size from lt) (by omega)
 by_cases h0:xs.size=0
 ·refine wax ⟨wce wbY _,wV W _ nS dv (by simp[intItems,h0]) (W.frame _ _ _ st λb _ o e=>wa8 _ e) (waq _ rfl) λh' tk hk=>?_⟩;exact he h0 h' tk (keep hk)
 ·refine wax ⟨wce wbY _,vg W _ (CmpOf.ints_gt (numAt xs) (λ_ _=>whu)) _ nS _ (by simp[intItems];omega) (W.frame _ _ _ st λb _ o e=>wa8 _ e) (waq _ rfl) λv h' tk hP hk=>?_⟩;exact hn (by omega) v h' tk (by simpa [intItems] using hP) (keep hk)
end
end PySem
namespace L2
open PySem PySem.Spec PyProof.Rows Sx
section
variable{X:Cx}{e e2:Expr}{te t2:TE}{p kp pos:Pos}
theorem FG(hc:X.calm=true)(I:Inv X g σ H s)(l:RelV (.int d) v)(C:aM X.K H a (wdl V.int ns))(h0:ns=[]->Q (.int d) H)(J:∀M,M∈ns->(∀a∈ns,a<=M)->Q (.int M) H) :
 wpAny (model X.prog X.w) X.A (call (.builtin "max") [.ref a] [(wcs "default",v)]) (EP X g σ Q) X.xe s:=by
 obtain⟨f,r,pl,q⟩:=I.list C;obtain⟨c,e,rfl⟩:=kA r
 have hl:s.heap.IsList a (intItems c.toArray):=by
  have:intItems c.toArray=f.toArray:=by rw[e];unfold intItems;simp
  rw[this];exact pl.isList
 refine wX (I.ok.hd hc) hl (λh i k hk=>?_) (λh u i k m hk=>?_)
 ·have:c=[]:=by
   rw[waE]at h;exact wbz h
  subst this;exact⟨.int d,H,I.kept hk,l,h0 rfl⟩
 ·obtain⟨t,rfl⟩:=whu m;obtain⟨x,n⟩:=argBest_gt (numAt c.toArray) (c.toArray.size-1);refine⟨.int _,H,I.kept hk,⟨t,rfl⟩,J _ ?_ λb o=>?_⟩
  ·rw[numAt_eq];exact getD_mem (by rw[wa0];simp only[waE]at *;omega)
  ·obtain⟨j,p,rfl⟩:=mem_getD o;rw[wa0]at p;have:=n j (by simp only[waE]at *;omega);rw[numAt_eq]at this;exact this
end
section
variable{X:Cx}{e e2:Expr}{t:TA}{t2:TE}{p kp pos:Pos}
def QK(K:wa2)(t:TA)(t2:TE):TE:=λσ H Q=>t σ H λvs H1=>t2 σ H1 λy H2=>∃a ns d,vs=[.ref a]/\y=.int d/\aM K H2 a (wdl V.int ns)/\(ns=[]->Q (.int d) H2)/\(∀M,M∈ns->(∀a∈ns,a<=M)->Q (.int M) H2)
theorem Lg(hc:X.calm=true)(g:Gl X "max")(j:X.mg "max"=none)(ha:PA X [e] t)(hd:PE X e2 t2)(hs:starEach [e] X.env=[(false,eval e X.env)]:=by rfl):PE X (.Call (.Name "max" p) [e] [⟨some "default",e2,kp⟩] pos) (QK X.K t t2):=by
 intro b s σ H Q I h;refine wbv (gv I g j (show waV "max"=some (.builtin "max") from Ie) ?_ (by decide) (by decide));refine wfE (bO (ha pos b s σ H _ I h) λx c ⟨z,f,i,k,l⟩=>?_) (by rw[hs];rfl) (by rw[hs];rfl);refine wen (bO (hd b c σ f _ i l) λv A ⟨y,B,m,n,o⟩=>weC ?_);obtain⟨a,ns,d,rfl,rfl,q,h0,r⟩:=o;obtain⟨u,rfl,w⟩:=vals1 k;cases w;exact FG hc m n q h0 r
end
end L2
namespace L2
open PySem PySem.Spec PyProof.Rows Sx Bs
def Lh(K:wa2)(wi:TI)(ix:List Nat)(tt:TT)(te:TE)(i:Nat):TS:=λD σ H=>wi σ H λJ H1=>∀l,H1 l=none->kC K J l (pick σ ix) tt te H1 (λH2=>D.nx (σ.set i (some (.ref l))) H2)
section
variable{X:Cx}{scope:wd6}{x x2:Str}{ys:List Str}{ix:List Nat}
theorem sH(hc:X.calm=true)(B:bV X scope x ys ix)(hN:X.N.Nodup)(hy:X.N[i]?=some y)(t:X.env.scope.names.lookup y=some .local)(B2:bV X scope x2 ys ix)(I:x≠x2)(hi:PI X (.Tuple [.Name x U,.Name x2 g] kt pt) iter wi)
 (ht:∀cl L s H ex pn,JX (bD X scope (x::x2::ys) cl L s H ex pn) j tt) (he:∀cl L s H ex pn,PE (bD X scope (x::x2::ys) cl L s H ex pn) p te)
 (T:wc6 (.ListComp p [⟨.Tuple [.Name x U,.Name x2 g] kt pt,iter,j,0⟩] scope pos) (some (.Name y py)) r.line X.env=pure true:=by rfl)
 (hs:∀v,wc4 iter X.env v=pure v:=by intro _;rfl):PS X (.Assign [.Name y py] (.ListComp p [⟨.Tuple [.Name x U,.Name x2 g] kt pt,iter,j,0⟩] scope pos) r) (Lh X.K wi ix tt te i):=
 sj (C:=λJ l a H Q=>kC X.K J l a tt te H Q) (xs:=[x,x2]) hc B hN hy t (AO hc B B2 I) (λ_ _ _ _ _=>AQ) hi ht he T hs
inductive QL(x y:V)(H:Hp)(Q:VK):Prop
 |mk (l b xs zs) (_:x=.ref l) (_:y=.ref b) (_:Rd H l (.lst xs)) (_:Rd H b (.lst zs)) (_:xs.length+zs.length<=sizeLine) (_:∀p,H p=none->Q (.ref p) (upd H p (.lst (xs++zs))))
theorem zh:nA X (binaryOp .Add) QL:=by
 intro d s σ H x y v u Q I g i h;obtain⟨l,b,t,w,rfl,rfl,j,k,A,q⟩:=h;cases g;cases i;obtain⟨z,c,n,r,e⟩:=j.ok I.b4;obtain⟨B,a,C,f,m⟩:=k.ok I.b4;have hl:=r.length;have o:=f.length;refine whz e m ?_ (by grind);have p:c.toArray++a.toArray=(c++a).toArray:=by simp
 rw[p];exact⟨.ref _,_,I.N8 (t':=s.toks) (r.append f) (by grind),rfl,q _ I.fresh⟩
theorem wY{K:wa2}(g:X.K=K):eF X (.type "list") (λxs H Q=>∃p ys,xs=[.ref p]/\(aM K H p ys\/gL K H p ys)/\∀l,H l=none->Q (.ref l) (upd H l (.lst ys))):=by
 subst g;exact dI
end
noncomputable def bj{α:Type}(p:Nat->Bool):Nat->List α->List α
 |_,[]=>[]
 |i,x::xs=>if p i then x::bj p (i+1) xs else bj p (i+1) xs
theorem oE{α:Type}(p:Nat->Bool)(x:α):∀(k:Nat) (xs:List α),bj p k (xs++[x])=bj p k xs++(if p (k+xs.length) then[x] else[])
 |k,[]=>by
  show (if p k then x::[] else[])=[]++_;rw[wdJ];rfl
 |k,y::xs=>by
  have e:k+(y::xs).length=k+1+xs.length:=by grind
  rw[e];show (if p k then y::bj p (k+1) (xs++[x]) else bj p (k+1) (xs++[x]))=(if p k then y::bj p (k+1) xs else bj p (k+1) xs)++_;rw[oE p x (k+1) xs];cases p k<;>rfl
theorem nF{α:Type}(p:Nat->Bool):∀(k:Nat) (xs:List α),(bj p k xs).length<=xs.length
 |_,[]=>waa _
 |k,x::xs=>by
  have:=nF p (k+1) xs;show (if p k then x::bj p (k+1) xs else bj p (k+1) xs).length<=xs.length+1
  cases p k with
  |true=>grind
  |false=>grind
theorem yj{α β:Type}(f:α->β)(p:Nat->Bool):∀(k:Nat) (xs:List α),bj p k (xs.map f)=(bj p k xs).map f
 |_,[]=>rfl
 |k,x::xs=>by
  show (if p k then f x::bj p (k+1) (xs.map f) else bj p (k+1) (xs.map f))=(if p k then x::bj p (k+1) xs else bj p (k+1) xs).map f;rw[yj f p (k+1) xs];cases p k<;>rfl
theorem ro{α:Type}(p:Nat->Bool):∀(k:Nat) (xs:List α),(bj p k xs).Sublist xs
 |_,[]=>wff _
 |k,x::xs=>by
  show (if p k then x::bj p (k+1) xs else bj p (k+1) xs).Sublist (x::xs)
  cases p k with
  |true=>exact(ro p (k+1) xs).cons₂ x
  |false=>exact(ro p (k+1) xs).cons x
theorem dX{α:Type}{p:Nat->Bool}{k:Nat}{xs:List α}{x:α}(h:x∈bj p k xs):x∈xs:=(ro p k xs).subset h
theorem bo.pick{K:wa2}{H:Hp}(p:Nat->Bool):∀(k:Nat) (g:List kF) (xs:List V),bo K H g xs->bo K H (bj p k g) (bj p k xs)
 |_,[],xs,h=>by
  have e:xs=[]:=h;subst e;rfl
 |k,d::g,_,h=>by
  obtain⟨v,a,rfl,c,hl⟩:=h;have b:=bo.pick p (k+1) g a hl;show bo K H (if p k then d::bj p (k+1) g else bj p (k+1) g) (if p k then v::bj p (k+1) a else bj p (k+1) a)
  cases p k with
  |true=>exact⟨v,_,rfl,c,b⟩
  |false=>exact b
theorem bo.set{K:wa2}{H:Hp}{d:kF}{v:V}:∀{g:List kF} {xs:List V},bo K H g xs->∀i:Nat,bL K H d v->bo K H (g.set i d) (xs.set i v)
 |[],xs,h,i,r=>by
  have e:xs=[]:=h;subst e;exact h
 |c::g,_,h,0,r=>by
  obtain⟨v0,a,rfl,b,hl⟩:=h;exact⟨v,a,rfl,r,hl⟩
 |c::g,_,h,i+1,r=>by
  obtain⟨v0,a,rfl,b,hl⟩:=h;exact⟨v0,a.set i v,rfl,b,bo.set hl i r⟩
theorem yk{K:wa2}{a l:Addr}{xs:List V}{r:St}{I:TT}{J:TE}{H:Hp}{Q:Hp->Prop}(p:Nat->Bool)(C:aM K H a xs)(hl:H l=none)(hz:xs.length<=sizeLine)
 (U:∀(i:Nat) (x:V) j t,xs[i]?=some x->a8 H j->(∀g,a8 j g->t (p i) g)->I (some (.int (i:Nat))::some x::r) j t)
 (he:∀(i:Nat) (x:V) j t,xs[i]?=some x->a8 H j->(∀g,a8 j g->t x g)->J (some (.int (i:Nat))::some x::r) j t)
 (hd:∀g,a8 H g->g l=some (.lst (bj p 0 xs))->Q g):kC K (OZ K a) l r I J H Q:=by
 refine⟨λi m u f=>m=xs.length-i/\i<=xs.length/\a8 H f/\f l=some (.lst u)/\u=bj p 0 (xs.take i),⟨xs.length,by simp,waB _,a8.upd hl,a6,rfl⟩,?_⟩;rintro i m u f ⟨rfl,hi,c,v,k⟩;refine⟨v,?_⟩
 by_cases d:i<xs.length
 ·refine .inr ⟨⟨xs,xs[i],c.seq C,wa1 d⟩,?_,λx j y=>?_⟩
  ·rw[k];refine wbe (nF p 0 _) ?_;rw[wak];omega
  ·obtain⟨T,h,E,G,L,y⟩:=y;subst G L;have w:xs[i]?=some h:=y xs (c.seq C);have n:a8 f (upd f T (.tup [.int (i:Nat),h])):=a8.upd E;have z:xs.take (i+1)=xs.take i++[h]:=by rw[waN,w];rfl
   have q:(xs.take i).length=i:=by rw[wak];omega
   refine⟨T,.int (i:Nat),h,rfl,gL.of a6,U i h _ _ w (c.trans n) λM s=>?_⟩;have A:=s _ _ (n _ _ v)
   cases B:p i with
   |false=>
    rw[if_neg wap];exact⟨xs.length-(i+1),by omega,rfl,d,(c.trans n).trans s,A,by rw[z,oE,q,whb,B,if_neg wap,waY];exact k⟩
   |true=>
    rw[if_pos rfl];refine he i h _ _ w ((c.trans n).trans s) λN D=>⟨D _ _ A,xs.length-(i+1),by omega,rfl,d,λb o e=>?_,a6,?_⟩
    ·rw[ae (af e hl)];exact D _ _ (s _ _ (n _ _ (c _ _ e)))
    ·rw[z,oE,q,whb,B,if_pos rfl,k]
 ·have e:i=xs.length:=by omega
  subst e;rw[waI]at k;exact .inl ⟨⟨xs,c.seq C,waa _⟩,hd f c (by rw[v,k])⟩
theorem vh(y:Int)(ns:List Int):p7 (.int y) (ns.map V.int)=decide (y∈ns):=by
 unfold p7;rw[wfy]
 induction ns with
 |nil=>rfl
 |cons a l b=>
  rw[wd3,b];show ((a==y) ||decide (y∈l))=decide (y∈a::l)
  by_cases e:a=y
  ·subst e;simp
  ·grind
theorem iI(ns:List Int):(ns.map V.int).all eh=true:=by grind [eh]
end L2
namespace Bs
open PySem L2 Sx
noncomputable def fg(i:Int)(n:Nat):Bool:=decide (0<=i)&&decide (i<(n:Int))
noncomputable def b9(ws:List Int)(qs:List (Str×Nat)):Int:=(qs.map λq=>ws.getD q.2 0).sum
noncomputable def f7(ws:List Int)(many:Int)(qs:List (Str×Nat))(w:Int):Bool:=!qs.isEmpty&&(decide (1<=w)&&decide (many*w<=b9 ws qs))
noncomputable def aZ{α:Type}(ns:List Int)(l:List α):List α:=bj (λi=>decide ((i:Int)∈ns)) 0 l
noncomputable def aW{α:Type}(ns:List Int)(l:List α):List α:=bj (λi=>!decide ((i:Int)∈ns)) 0 l
noncomputable def eS(d t:Nat)(l:List (Str×Nat)):List (Str×Nat):=l.flatMap λq=>if q.2=d then[q,(q.1,t)] else[q]
noncomputable def eu(ws:List Int)(lns:List (List (Str×Nat)))(many tL:Int)(ns:List Int)(w:Int):Bool:=
 fg tL lns.length&&(ns.all (λi=>fg i (lns.getD tL.toNat []).length)&&(f7 ws many (aZ ns (lns.getD tL.toNat [])) w&&f7 ws many (aW ns (lns.getD tL.toNat [])) (ws.getD tL.toNat 0-w)))
noncomputable def cR(hs:List Str)(d:Nat):List Str:=hs++[hs.getD d ""]
noncomputable def cx(ws:List Int)(d:Nat)(w:Int):List Int:=(ws++[ws.getD d 0-w]).set d w
noncomputable def dN(lns:List (List (Str×Nat)))(d:Nat)(ns:List Int):List (List (Str×Nat)):=((lns++[aW ns (lns.getD d [])]).set d (aZ ns (lns.getD d []))).map (eS d lns.length)
theorem rp(d t:Nat):∀l:List (Str×Nat),(eS d t l).length<=2*l.length
 |[]=>waa _
 |q::l=>by
  have:=rp d t l;show ((if q.2=d then[q,(q.1,t)] else[q])++eS d t l).length<=2*(l.length+1);rw[wa5];split
  ·grind
  ·grind
theorem vi(d t:Nat)(l:List (Str×Nat))(q:Str×Nat):eS d t (l++[q])=eS d t l++(if q.2=d then[q,(q.1,t)] else[q]):=by simp_all [eS,weJ,congr,waY]
theorem B5(p:Nat->Bool)(h:bo K H (g.map lF) xs):bo K H ((bj p 0 g).map lF) (bj p 0 xs):=by
 rw[<-yj];exact h.pick p 0 _ _
theorem zi{α:Type}{K:wa2}{H:Hp}(f:α->V):∀(g:List α) (xs:List V),bo K H (g.map λz=>kF.at (f z)) xs->xs=g.map f
 |[],xs,h=>h
 |z::g,_,h=>by
  obtain⟨v,a,rfl,⟨rfl,_⟩,hl⟩:=h;rw[zi f g a hl];rfl
theorem uh(h:bL K H (sE hs) (.ref a)):Rd H a (.lst (hs.map V.str)):=by
 obtain⟨d,b,e,c,hl⟩:=h;cases e;rwa[zi V.str hs b hl]at c
theorem Li(h:bL K H (nP ws) (.ref a)):Rd H a (.lst (ws.map V.int)):=by
 obtain⟨d,b,e,c,hl⟩:=h;cases e;rwa[zi V.int ws b hl]at c
theorem dY(h:bL K H (bY j) v):∃a rs,v=.ref a/\aM K H a (rs.map V.ref)/\b8 H rs ((j.map eI).map jF):=by
 obtain⟨a,d,rfl,m,b,k⟩:=kJ h
 have ex:d=(d.map λv=>match v with |.ref r=>r |_=>0).map V.ref:=by
  rw[wah];refine(wdX d).symm.trans (wb7 λv n=>?_);obtain⟨i,hi,rfl⟩:=wbR n;obtain⟨r,l,_⟩:=k i _ (wa1 (by rw[<-b];exact hi));rw[wa1 hi]at l;rw[wag l];rfl
 refine⟨a,_,rfl,by rw[<-ex];exact m,by rw[wa0,wa0,b],λi r p f c=>?_⟩;rw[wa4]at f c
 cases e:(j.map eI)[i]? with
 |none=>rw[e]at c;cases c
 |some q=>
  rw[e]at c;cases c;obtain⟨s,g,o⟩:=k i q e;rw[g]at f;cases f;exact o
structure Mv(hs:List Str)(ws:List Int)(lns:List (List (Str×Nat))):Prop where
 w:ws.length=hs.length
 l:lns.length=hs.length
 e:∀l∈lns,∀q∈l,q.2<hs.length
 n:hs.length<=1000
 m:∀l∈lns,l.length<=5000
end Bs
namespace Sx
open PySem L2 Bs
inductive Lj(K:wa2)(vs:List V)(H:Hp)(Q:VK)(eE:XK):Prop
 |mk (i a xs) (_:vs=[.int i,.ref a]) (_:aM K H a xs) (_:Q (.bl (fg i xs.length)) H)
inductive NY(K:wa2)(CS CN:Addr)(vs:List V)(H:Hp)(Q:VK)(E:XK):Prop
 |mk (x many v w hs ws lns qs) (_:vs=[.ref x,.int many,v,.int w]) (_:cg K CS H x hs ws lns) (_:bL K H (bY qs) v) (_:qs.length<=10000) (_:(∀q∈qs,q.2<ws.length)) (_:0<=many) (_:many<=1000) (_:((f7 ws many qs w=true/\∀H',a8 H H'->Q .non H')\/(f7 ws many qs w=false/\∀H',a8 H H'->E (.ref CN) none H')))
inductive Ln(K:wa2)(vs:List V)(H:Hp)(Q:VK)(eE:XK):Prop
 |mk (v:V) (d t:Nat) (qs:List (Str×Nat)) (_:vs=[v,.int (d:Int),.int (t:Int)]) (_:bL K H (bY qs) v) (_:qs.length<=5000) (_:∀y H',a8 H H'->bL K (aJ H H') (bY (eS d t qs)) y->Q y H')
inductive Lp(K:wa2)(CS CN:Addr)(vs:List V)(H:Hp)(Q:VK)(E:XK):Prop
 |mk (x a many tL w ns hs ws lns) (_:vs=[.ref x,.int many,.int tL,.ref a,.int w]) (_:cg K CS H x hs ws lns) (_:aM K H a (ns.map V.int)) (_:ns.length<=10000) (_:Mv hs ws lns) (_:0<=many) (_:many<=1000) (_:((eu ws lns many tL ns w=true/\∀y H',a8 H H'->cg K CS (aJ H H') y (cR hs tL.toNat) (cx ws tL.toNat w) (dN lns tL.toNat ns)->Q (.ref y) H')\/(eu ws lns many tL ns w=false/\∀H',a8 H H'->E (.ref CN) none H')))
end Sx
namespace L2
open PySem PySem.Spec PyProof.Rows Sx Bs
section
variable{X:Cx}
end
end L2
namespace Bs
open PySem L2 Sx
end Bs
namespace Sx
open PySem L2 Bs
end Sx
namespace Bs
open PySem L2 Sx
end Bs
namespace Sx
open PySem L2 Bs
end Sx
namespace Bs
open PySem L2 Sx
theorem pB(hi:i<ws.length)(g:i≠d):(cx ws d w).getD i 0=ws.getD i 0:=by grind [cx,wcP,waF]
theorem sI(hd:d<ws.length):(cx ws d w).getD d 0=w:=by
 unfold cx;rw[wa3,wdj (by rw[wa5];omega)];rfl
theorem sJ(hd:d<ws.length):(cx ws d w).getD ws.length 0=ws.getD d 0-w:=by
 unfold cx;rw[wa3,wcP (by omega),waD (waa _),wbC];rfl
theorem Dc(ws:List Int)(d:Nat)(w:Int):(cx ws d w).length=ws.length+1:=by
 unfold cx;rw[wcq,wa5];rfl
theorem cE(ws:List Int)(q:Str×Nat)(g:List (Str×Nat)):b9 ws (q::g)=ws.getD q.2 0+b9 ws g:=rfl
theorem vj(ws:List Int)(ps g:List (Str×Nat)):b9 ws (ps++g)=b9 ws ps+b9 ws g:=by
 unfold b9;rw[wao,whT]
theorem nQ(hd:d<ws.length):∀g:List (Str×Nat),(∀q∈g,q.2<ws.length)->b9 (cx ws d w) (eS d ws.length g)=b9 ws g
 |[],_=>rfl
 |q::g,h=>by
  have c:=nQ (w:=w) hd g λq b=>h q (wac _ b);have b:=h q (waf ..);have e:eS d ws.length (q::g)=(if q.2=d then[q,(q.1,ws.length)] else[q])++eS d ws.length g:=rfl;rw[e,vj,c,cE]
  by_cases a:q.2=d
  ·rw[if_pos a,cE,cE,a,sI hd];have f:(cx ws d w).getD ((q.1,ws.length):Str×Nat).2 0=ws.getD d 0-w:=sJ hd;rw[f];show w+(ws.getD d 0-w+0)+_=_;omega
  ·rw[if_neg a,cE,pB b a];show ws.getD q.2 0+0+_=_;omega
theorem Ei:∀(ws:List Int) (d:Nat) (w:Int),d<ws.length->(ws.set d w).sum=ws.sum-ws.getD d 0+w
 |[],_,_,h=>absurd h (wcJ _)
 |x::ws,0,w,_=>by
  show w+ws.sum=x+ws.sum-x+w;omega
 |x::ws,d+1,w,h=>by
  have a:=Ei ws d w (by simpa using h);show x+(ws.set d w).sum=x+ws.sum-ws.getD d 0+w;rw[a];omega
theorem Dd(hd:d<ws.length):(cx ws d w).sum=ws.sum:=by grind [cx,Ei,wa5,waF]
structure jb(many:Int)(hs:List Str)(ws:List Int)(lns:List (List (Str×Nat))):Prop where
 w:ws.length=hs.length
 l:lns.length=hs.length
 p:∀w∈ws,1<=w
 e:∀l∈lns,∀q∈l,q.2<hs.length
 b:∀(i:Nat) (l:List (Str×Nat)),lns[i]?=some l->many*ws.getD i 0<=b9 ws l
theorem De(h:q∈eS d t l):q.2=t\/q∈l:=by grind [eS]
theorem vk(h:f7 ws many g w=true):g≠[]/\1<=w/\many*w<=b9 ws g:=by simp_all [f7,wbV,of_decide_eq_true]
theorem jb.split{many:Int}{hs:List Str}{ws:List Int}{lns:List (List (Str×Nat))}(S:jb many hs ws lns){d:Nat}{ns:List Int}{w:Int}(h:eu ws lns many (d:Int) ns w=true):jb many (cR hs d) (cx ws d w) (dN lns d ns)/\d<hs.length:=by
 unfold eu at h;simp only[wbV]at h;obtain⟨n,A,v,x⟩:=h;rw[waG]at A v x;obtain⟨c1,E,B⟩:=vk v;obtain⟨G,H,C⟩:=vk x;have j:=S.w;have o:=S.l
 have hd:d<lns.length:=by
  unfold fg at n;rw[wbV]at n;have:=of_decide_eq_true n.2;omega
 have f:d<ws.length:=by omega
 have r:(cR hs d).length=hs.length+1:=by unfold cR;rw[wa5];rfl
 have a:lns.getD d []∈lns:=by
  rw[wa3,wa1 hd];exact waL hd
 have k:=S.e _ a
 have c:∀l∈(lns++[aW ns (lns.getD d [])]).set d (aZ ns (lns.getD d [])),∀q∈l,q.2<hs.length:=λl hl=>by
  rcases wcS hl with z |z
  ·rcases waA.mp z with z |z
   ·exact S.e l z
   ·rw[wat.mp z];exact λq a=>k q (dX a)
  ·rw[z];exact λq a=>k q (dX a)
 refine⟨⟨by rw[r,Dc,j],?_,λz y=>?_,λl hl q a=>?_,λi l hl=>?_⟩,by omega⟩
 ·unfold dN;rw[r,wa0,wcq,wa5,o];rfl
 ·unfold cx at y;rcases wcS y with q |q
  ·rcases waA.mp q with q |q
   ·exact S.p z q
   ·rw[wat.mp q];omega
  ·rw[q];omega
 ·rw[r];unfold dN at hl;obtain⟨m,s,rfl⟩:=wab.mp hl;rcases De a with e |e
  ·omega
  ·have:=c m s q e;omega
 ·unfold dN at hl;rw[wa4]at hl
  cases e:((lns++[aW ns (lns.getD d [])]).set d (aZ ns (lns.getD d [])))[i]? with
  |none=>rw[e]at hl;cases hl
  |some m=>
   rw[e]at hl;cases hl;have D:=c m (wa9 e);rw[show lns.length=ws.length by omega,nQ f m (λq a=>by rw[j];exact D q a)]
   by_cases g:i=d
   ·subst g;rw[wdj (by rw[wa5];omega)]at e;cases e;rw[sI f];exact B
   ·rw[wcP (λz=>g z.symm)]at e
    by_cases t:i<lns.length
    ·rw[waF t]at e;rw[pB (by omega) g];exact S.b i m e
    ·have u:i=lns.length:=by
      have:=(wa6.mp e).1;rw[wa5]at this;simp at this;omega
     subst u;rw[waD (waa _),wbC]at e;cases e;rw[show lns.length=ws.length by omega,sJ f];exact C
noncomputable def pre(ls:List Int)(k:Nat):Int:=(ls.take k).sum
end Bs
namespace L2
open PySem PySem.Spec PyProof.Rows
section
variable{prog:wau}{w:World}{κ:Type}[DecidableEq κ]{knd:HeapKind prog w κ}{A:Around}{E:Value->Shared->Prop}{s:Shared}
end
section
variable{X:Cx}
end
end L2
namespace Bs
open PySem L2 Sx
theorem SA{a b:Prop}[Decidable a][Decidable b]{α:Type}{x y:α}(h:a↔b):(if a then x else y)=if b then x else y:=by simp_all [if_pos,if_neg]
noncomputable def hH(p:Str)(z:Str×Nat):List Str->List (List (Str×Nat))->Nat
 |h::hs,l::lns=>(if h=p then l.count z else 0)+hH p z hs lns
 |_,_=>0
theorem ym(p:Str)(z:Str×Nat)(h:Str)(l:List (Str×Nat)):∀(hs:List Str) (lns:List (List (Str×Nat))),hs.length=lns.length->hH p z (hs++[h]) (lns++[l])=hH p z hs lns+(if h=p then l.count z else 0)
 |[],[],_=>by
  show (if h=p then l.count z else 0)+0=0+_;omega
 |[],_::_,e=>by cases e
 |_::_,[],e=>by cases e
 |x::hs,y::lns,e=>by
  show (if x=p then y.count z else 0)+hH p z (hs++[h]) (lns++[l])=_;rw[ym p z h l hs lns (by simpa using e)];show _=(if x=p then y.count z else 0)+hH p z hs lns+_;omega
theorem B6(p:Str)(z:Str×Nat)(g:List (Str×Nat)):∀(hs:List Str) (lns:List (List (Str×Nat))) (d:Nat),hs.length=lns.length->d<lns.length ->
 hH p z hs (lns.set d g)+(if hs.getD d ""=p then(lns.getD d []).count z else 0)=hH p z hs lns+(if hs.getD d ""=p then g.count z else 0)
 |_,[],d,_,h=>absurd h (wcJ _)
 |[],_::_,_,e,_=>by cases e
 |x::hs,y::lns,0,_,_=>by
  show (if x=p then g.count z else 0)+hH p z hs lns+(if x=p then y.count z else 0)=(if x=p then y.count z else 0)+hH p z hs lns+(if x=p then g.count z else 0);omega
 |x::hs,y::lns,d+1,e,h=>by
  have a:=B6 p z g hs lns d (by simpa using e) (by simpa using h);show (if x=p then y.count z else 0)+hH p z hs (lns.set d g)+(if hs.getD d ""=p then(lns.getD d []).count z else 0)=(if x=p then y.count z else 0)+hH p z hs lns+(if hs.getD d ""=p then g.count z else 0);omega
theorem B8(p:Str){f:List (Str×Nat)->List (Str×Nat)}:∀(hs:List Str) (lns:List (List (Str×Nat))),(∀l∈lns,(f l).count z=l.count z')->hH p z hs (lns.map f)=hH p z' hs lns
 |_,[],_=>by cases ‹List Str›<;>rfl
 |[],_::_,_=>rfl
 |x::hs,y::lns,h=>by
  show (if x=p then(f y).count z else 0)+hH p z hs (lns.map f)=(if x=p then y.count z' else 0)+hH p z' hs lns;rw[B8 p hs lns λl hl=>h l (wac _ hl),h y (waf ..)]
theorem kK:∀{hs:List Str} {lns:List (List (Str×Nat))} {i:Nat} {l:List (Str×Nat)},hs[i]?=some p->lns[i]?=some l->l.count z<=hH p z hs lns
 |y::hs,x::lns,0,l,a,b=>by
  cases a;cases b;show _<=(if p=p then x.count z else 0)+_;rw[if_pos rfl];omega
 |h::hs,x::lns,i+1,l,a,b=>by
  have:=kK (z:=z) (hs:=hs) (lns:=lns) (i:=i) (by simpa using a) (by simpa using b);show _<=_+hH p z hs lns;omega
 |[],_,_,_,a,_=>by simp at a
 |_::_,[],_,_,_,b=>by simp at b
theorem cnt_cons(q z:Str×Nat)(l:List (Str×Nat)):(q::l).count z=l.count z+if q=z then 1 else 0:=by simp_all [List.count_cons,if_pos,beq_self_eq_true,if_neg]
theorem oF(f:Nat->Bool)(z:Str×Nat):∀(k:Nat) (l:List (Str×Nat)),(bj f k l).count z+(bj (λi=>!f i) k l).count z=l.count z
 |_,[]=>rfl
 |k,q::l=>by
  have a:=oF f z (k+1) l;show (if f k then q::bj f (k+1) l else bj f (k+1) l).count z+(if !f k then q::bj (λi=>!f i) (k+1) l else bj (λi=>!f i) (k+1) l).count z=_;rw[cnt_cons]
  cases f k with
  |true=>
   grind
  |false=>
   grind
theorem sL(hd:d<t)(w:Str)(e:Nat):∀l:List (Str×Nat),(∀q∈l,q.2<t)->(eS d t l).count (w,e)=l.count (w,if e=t then d else e)
 |[],_=>rfl
 |q::l,h=>by
  have f:=sL hd w e l λq c=>h q (wac _ c);have c:=h q (waf ..);have g:eS d t (q::l)=(if q.2=d then[q,(q.1,t)] else[q])++eS d t l:=rfl;rw[g,List.count_append,f,cnt_cons];obtain⟨a,b⟩:=q;have c:b<t:=c;show (if b=d then[(a,b),(a,t)] else[(a,b)]).count (w,e)+_=_
  by_cases i:b=d
  ·grind
  ·grind
def wZ(B:Str->List (Str×Str))(hs:List Str)(lns:List (List (Str×Nat))):Prop:=
 ∀(p w:Str) (e:Nat),hH p (w,e) hs lns=if e<hs.length/\p∈hs/\(w,hs.getD e "")∈B p then 1 else 0
theorem wZ.split{B:Str->List (Str×Str)}(h:wZ B hs lns)(hl:lns.length=hs.length)(r:∀l∈lns,∀q∈l,q.2<hs.length)(hd:d<hs.length)(ns:List Int):wZ B (cR hs d) (dN lns d ns):=by
 intro p w e
 have u:lns.getD d []∈lns:=by
  rw[wa3,wa1 (by omega)];exact waL _
 have k:∀l∈(lns++[aW ns (lns.getD d [])]).set d (aZ ns (lns.getD d [])),∀q∈l,q.2<lns.length:=λl b=>by
  rw[hl];rcases wcS b with z |z
  ·rcases waA.mp z with z |z
   ·exact r l z
   ·rw[wat.mp z];exact λq c=>r _ u q (dX c)
  ·rw[z];exact λq c=>r _ u q (dX c)
 have n:(hs++[hs.getD d ""]).getD d ""=hs.getD d "":=by
  rw[wa3,waF hd,<-wa3]
 have o:(lns++[aW ns (lns.getD d [])]).getD d []=lns.getD d []:=by
  rw[wa3,waF (by omega),<-wa3]
 unfold cR dN;rw[B8 p (z':=(w,if e=lns.length then d else e)) _ _ λl b=>sL (by omega) w e l (k l b)];have s:=B6 p (w,if e=lns.length then d else e) (aZ ns (lns.getD d [])) (hs++[hs.getD d ""]) (lns++[aW ns (lns.getD d [])]) d (by rw[wa5,wa5];simp[hl]) (by rw[wa5];omega);rw[n,o,ym p _ _ _ hs lns hl.symm]at s;have v:=oF (λi=>decide ((i:Int)∈ns)) (w,if e=lns.length then d else e) 0 (lns.getD d []);have A:(aZ ns (lns.getD d [])).count (w,if e=lns.length then d else e)+(aW ns (lns.getD d [])).count (w,if e=lns.length then d else e)=(lns.getD d []).count (w,if e=lns.length then d else e):=v;have x:=h p w (if e=lns.length then d else e)
 have y:hH p (w,if e=lns.length then d else e) (hs++[hs.getD d ""]) ((lns++[aW ns (lns.getD d [])]).set d (aZ ns (lns.getD d [])))=hH p (w,if e=lns.length then d else e) hs lns:=by
  by_cases j:hs.getD d ""=p
  ·rw[if_pos j,if_pos j,if_pos j]at s;omega
  ·rw[if_neg j,if_neg j,if_neg j]at s;omega
 rw[y,x]
 have m:p∈hs++[hs.getD d ""]↔p∈hs:=by
  rw[waA,wat];refine⟨λz=>z.elim id λz=>?_,.inl⟩;rw[z,wa3,wa1 hd];exact waL _
 have a:(hs++[hs.getD d ""]).length=hs.length+1:=by rw[wa5];rfl
 by_cases f:e=lns.length
 ·rw[if_pos f]
  have t:(hs++[hs.getD d ""]).getD e ""=hs.getD d "":=by
   rw[f,hl,wa3,waD (waa _),wbC];rfl
  rw[t,a];refine SA ⟨λz=>⟨by omega,m.mpr z.2.1,z.2.2⟩,λz=>⟨hd,m.mp z.2.1,z.2.2⟩⟩
 ·rw[if_neg f]
  by_cases g:e<hs.length
  ·have t:(hs++[hs.getD d ""]).getD e ""=hs.getD e "":=by
    rw[wa3,waF g,<-wa3]
   rw[t,a];refine SA ⟨λz=>⟨by omega,m.mpr z.2.1,z.2.2⟩,λz=>⟨g,m.mp z.2.1,z.2.2⟩⟩
  ·rw[if_neg (λz=>g z.1),if_neg (λz=>by have:=z.1;omega)]
theorem wZ.line{B:Str->List (Str×Str)}(h:wZ B hs lns)(hl:lns.length=hs.length)(g:∀p,(B p).length<=b):∀l∈lns,l.length<=b*hs.length:=by
 intro l j;obtain⟨i,hi,e⟩:=wbR j;have f:lns[i]?=some l:=by rw[wa1 hi,e]
 have a:hs[i]?=some (hs[i]'(by omega)):=wa1 _;generalize hs[i]'(by omega)=p at a
 have one:∀z,l.count z<=1:=λz=>by
  have c:=kK (z:=z) a f;have d:=h p z.1 z.2;rw[show ((z.1,z.2):Str×Nat)=z from rfl]at d;rw[d]at c;split at c<;>omega
 have nd:l.Nodup:=List.nodup_iff_count.mpr one
 have sub:∀z∈l,z∈((B p).map (·.1)).flatMap λw=>(waH hs.length).map λe=>(w,e):=λz k=>by
  have c:=kK (z:=z) a f;have d:=h p z.1 z.2;rw[show ((z.1,z.2):Str×Nat)=z from rfl]at d;rw[d]at c;have m:0<l.count z:=wbZ.mpr k
  by_cases hc:z.2<hs.length/\p∈hs/\(z.1,hs.getD z.2 "")∈B p
  ·exact wcB.mpr ⟨z.1,wab.mpr ⟨_,hc.2.2,rfl⟩,wab.mpr ⟨z.2,wb5.mpr hc.1,rfl⟩⟩
  ·rw[if_neg hc]at c;omega
 have c:=uR nd sub
 have d:(((B p).map (·.1)).flatMap λw=>(waH hs.length).map λe=>(w,e)).length<=(B p).length*hs.length:=by
  have:=uS (λw=>(waH hs.length).map λe=>((w,e):Str×Nat)) hs.length ((B p).map (·.1)) λw _=>by rw[wa0,waO];exact waa _
  rwa[wa0]at this
 exact waj c (waj d (weA _ (g p)))
theorem vm(p:Str)(z:Str×Nat)(f:Str->List (Str×Nat)):∀hs:List Str,hs.Nodup->hH p z hs (hs.map f)=if p∈hs then(f p).count z else 0
 |[],_=>rfl
 |h::hs,nd=>by
  rw[wbF]at nd;show (if h=p then(f h).count z else 0)+hH p z hs (hs.map f)=_;rw[vm p z f hs nd.2]
  by_cases e:h=p
  ·grind
  ·grind
theorem jn{f:Str->Option (Str×Str)}(g:∀r x,f r=some x->x.1=r):∀L:List Str,((L.filterMap f).map (·.1)).Sublist L
 |[]=>.slnil
 |r::L=>by
  rw[wbg]
  cases e:f r with
  |none=>exact(jn g L).cons _
  |some x=>
   show (x.1::(L.filterMap f).map (·.1)).Sublist _;rw[g r x e];exact(jn g L).cons₂ _
theorem zj(nd:(ch g).Nodup)(l:ss.Perm (bQ ws "" ws))(hw:∀w∈ws,1<=w.length)(j:p∈ss)(n:Nat):((aT g ws ss ls n p).map (·.1)).Nodup:=by
 rw[<-D7 l hw j n];refine List.Nodup.sublist (jn (λr x e=>?_) _) (by rw[uf];exact yg nd n);unfold Ld at e;split at e
 ·cases e
 ·grind
theorem zk:∀{l:List (Str×Str)},(l.map (·.1)).Nodup->l.Nodup:=by intro l;induction l<;>grind [wdn,wbF]
theorem Df{g:List (Str×Str)}{hs:List Str}(nd:g.Nodup)(hn:hs.Nodup)(w:Str)(e:Nat) :
 (((g.filter λq=>decide (q.2∈hs)).map λq=>(q.1,hs.idxOf q.2)):List (Str×Nat)).count (w,e)=if e<hs.length/\(w,hs.getD e "")∈g then 1 else 0:=by
 have inj:∀q∈g.filter (λq=>decide (q.2∈hs)),((q.1,hs.idxOf q.2):Str×Nat)=(w,e)↔(e<hs.length/\q=(w,hs.getD e "")):=λq a=>by
  grind
 have gen:∀L:List (Str×Str),L.Nodup->(∀q∈L,((q.1,hs.idxOf q.2):Str×Nat)=(w,e)↔(e<hs.length/\q=(w,hs.getD e "")))->(L.map λq=>((q.1,hs.idxOf q.2):Str×Nat)).count (w,e)=if e<hs.length/\(w,hs.getD e "")∈L then 1 else 0:=by
  intro L
  induction L with
  |nil=>grind
  |cons q L b=>
   grind
 rw[gen _ (nd.filter _) inj];refine SA ⟨λz=>⟨z.1,(wav.mp z.2).1⟩,λz=>⟨z.1,wav.mpr ⟨z.2,decide_eq_true ?_⟩⟩⟩;rw[wa3,wa1 z.1];exact waL _
theorem wZ.first{g:Str}{ws ss ls:List Str}{n:Nat}{hs:List Str}(nd:(ch g).Nodup)(l:ss.Perm (bQ ws "" ws))(hw:∀w∈ws,1<=w.length)(j:∀p∈hs,p∈ss)(hn:hs.Nodup):wZ (aT g ws ss ls n) hs (bB g ws ss ls n hs):=by
 intro p w e;unfold bB;rw[vm p (w,e) _ hs hn]
 by_cases h:p∈hs
 ·rw[if_pos h];unfold gD;rw[Df (zk (zj nd l hw (j p h) n)) hn];exact SA ⟨λz=>⟨z.1,h,z.2⟩,λz=>⟨z.1,z.2.2⟩⟩
 ·rw[if_neg h,if_neg (λz=>h z.2.1)]
theorem pC{α:Type}(f:α->Int):∀l:List α,(∀x∈l,0<=f x)->(l.map f).sum=((l.filter λx=>decide (0<f x)).map f).sum:=by intro l;induction l<;>grind [wac,waf,wb3,decide_eq_true,wba,decide_eq_false]
theorem yn{f:Str->Int}(h:∀p∈ls,0<=f p):((ao ls f).map f).sum=(ls.map f).sum:=(pC f ls h).symm
theorem IC{f:Str->Int}(hn:∀p∈ls,0<=f p)(p:Str):b9 ((ao ls f).map f) (gD g ws ss ls n (ao ls f) p)=iw g ws ss ls n f p:=by
 unfold iw;rw[pC (λq:Str×Str=>f q.2) (aT g ws ss ls n p) λq a=>hn _ (dM a)];unfold b9 gD;rw[wah]
 have e:(aT g ws ss ls n p).filter (λq=>decide (q.2∈ao ls f))=(aT g ws ss ls n p).filter λq=>decide (0<f q.2):=whk λq a=>by
  unfold ao;exact decide_eq_decide.mpr (by rw[wav];exact⟨λz=>of_decide_eq_true z.2,λz=>⟨dM a,decide_eq_true z⟩⟩)
 rw[e];refine congrArg List.sum (wb7 λq a=>?_)
 have b:q.2∈ao ls f:=by
  unfold ao;have:=wav.mp a;exact wav.mpr ⟨dM this.1,this.2⟩
 show ((ao ls f).map f).getD ((ao ls f).idxOf q.2) 0=f q.2;rw[wa3,wa4,(rm b).1];rfl
theorem jb.first{f:Str->Int}(hn:∀p∈ls,0<=f p)(j:GA g ws ss ls many n f):jb many (ao ls f) ((ao ls f).map f) (bB g ws ss ls n (ao ls f)):=by
 have a:∀p∈ao ls f,p∈ls/\0<f p:=λp b=>⟨(wav.mp b).1,of_decide_eq_true (wav.mp b).2⟩;refine⟨wa0 _,wa0 _,λw hw=>?_,λl hl q c=>?_,λi l hl=>?_⟩
 ·obtain⟨p,b,rfl⟩:=wab.mp hw;have:=(a p b).2;omega
 ·obtain⟨p,b,rfl⟩:=wab.mp hl;obtain⟨z,d,rfl⟩:=wab.mp c;exact List.idxOf_lt_length_of_mem (of_decide_eq_true (wav.mp d).2)
 ·unfold bB at hl;rw[wa4]at hl
  cases e:(ao ls f)[i]? with
  |none=>rw[e]at hl;cases hl
  |some p=>
   rw[e]at hl;cases hl;rw[IC hn,wa3,wa4,e];exact j p (a p (wa9 e)).1
end Bs
namespace L2
open PySem PySem.Calls PySem.Spec PyProof.Rows
theorem sM:∀ns:List Int,preSum (λi=>ns.getD i 0) ns.length=ns.sum
 |[]=>rfl
 |n::ns=>by
  show preSum (λi=>(n::ns).getD i 0) (ns.length+1)=n+ns.sum;rw[PySem.W.kdu_shift,<-sM ns];rfl
section
variable{X:Cx}
theorem FH(hc:X.calm=true):eF X (.builtin "sum") (λxs H Q=>∃v d kvs ns,xs=[.ref v]/\H v=some (mc v d)/\H d=some (.dK kvs)/\kvs.map (·.2)=wdl V.int ns/\Q (.int ns.sum) H):=by
 intro m s σ H xs U Q I r h;obtain⟨v,d,kvs,ns,rfl,D,hd,hn,q⟩:=h;obtain⟨u,rfl,E⟩:=vals1 r;cases E;obtain⟨Y,lo,c,rel,G⟩:=p8 I.b4 hd;obtain⟨ep,f⟩:=G.dictAt;obtain⟨a,_⟩:=(show cb X.prog X.w H s.heap v (mc v d) from I.b4 v _ D);have J:=I.ok.hd hc
 have g:c.length=ns.length:=by
  have:=congrArg wdE hn;rw[wa0,wa0]at this;rw[<-rel.length];exact this
 have L:∀{kvs:List (Key×V)} {c:List (Key×Value)} {ns:List Int},KV kvs c->kvs.map (·.2)=ns.map V.int->∀(i:Nat) (k:Key) (x:Value),c[i]?=some (k,x)->∃t,x=.int (ns.getD i 0) t:=by
  intro kvs c ns r
  induction r generalizing ns with
  |nil=>intro _ i k x e;simp at e
  |@cons p q ps Z h t M=>
   intro e i k x j
   cases ns with
   |nil=>cases e
   |cons n ns=>
    rw[waz,waz]at e;injection e with N O
    cases i with
    |zero=>
     simp at j;have y:=h.2;rw[N,j]at y;exact y
    |succ i=>exact M O i k x (by simpa using j)
 have z:=wh8 (prog:=X.prog) (w:=X.w) (r:=v) (d:=d) (knd:=bc X.prog X.w) (kvs:=c) (ep:=ep);refine call_sum_walkAnyS ?_;obtain⟨R,St,hit,S,st⟩:=z.iter X.A.in1 s J ⟨a,f⟩;refine hit _ _ ⟨s.heap.objs.size,_,_,_,c.length,_,_,λi=>ns.getD i 0,rfl,S.toS,st,λb l=>?_,λi x ⟨k,e⟩=>L rel hn i k x e,λB t' C=>?_⟩
 ·show b<(s.heap.push R).objs.size;rw[size_push'];rcases waC.mp l with e |l
  ·rw[e];exact wbI _
  ·rw[wat.mp l];exact we5 (z.there _ ⟨a,f⟩).2
 ·have hk:∀b o,s.heap.get? b=some o->B.heap.get? b=some o:=λb o e=>
   C.heap b o (λT=>absurd (wae e) (by rw[wat.mp T];exact wbh _)) (wa8 _ e)
  rw[Moved.eq_with C];refine⟨.int ns.sum,H,I.kept (t':=B.toks) hk,⟨t',?_⟩,q⟩;rw[g,sM]
end
section
variable{prog:wau}{w:World}{A:Around}{E:Value->Shared->Prop}{s:Shared}{l I S:Addr}{vs:List Value}{R:wd8->Shared->Prop}{Q:Value->Shared->Prop}
theorem hO{h h':Heap}{p:Addr}{g:Array Value}(e:h.IsList p g)(hk:∀b o,h.get? b=some o->h'.get? b=some o):h'.IsList p g:=let ⟨o,a,r⟩:=e;⟨o,hk _ _ a,r⟩
theorem zm(kf:Nat->Int)(hh:A.handled=none)(hl:s.heap.IsList l vs.toArray)(hI:I=s.heap.objs.size)(NZ:S≠I)(YS:s.heap.objs.size<=S)
 (turn:∀(i:Nat) (v:Value),vs[i]?=some v->∃p items,v=.ref p/\s.heap.IsList p items/\(items.size:Int)=kf i/\(items.size:Int)<2^63)
 (hR:∀(v:Value) (h':Heap) (Dg:Nat),v∈vs->(∀b o,s.heap.get? b=some o->h'.get? b=some o)->R (.ok (.ret v)) {s with heap:=h',toks:=Dg}) :
 ∀(r j i:Nat) (h:Heap) (tk:Nat) (vb:Value) (tb:Tok) (c:Nat),vs.length-(j+1)=r->j+1<=vs.length->(∀b o,s.heap.get? b=some o->h.get? b=some o) ->
  h.get? S=some (seqObj "list" #[vb,.int (kf i) tb] c)->h.IsListIter I l (j+1)->vs[i]?=some vb ->
  codeAny (model prog w) A (.builtin "min.loop" ⟨[.ref I,.builtin "len",.ref S],[]⟩) R {s with heap:=h,toks:=tk}:=by
 have B9:(toString "min"++toString ".loop":String)="min.loop":=by decide
 have Dh:l<s.heap.objs.size:=let ⟨o,ho,_⟩:=hl;wae ho
 have QJ:l≠I:=by rw[hI];exact war Dh
 have W:=wfi (prog:=prog) (w:=w) (A:=A.in1) hh I l QJ vs.toArray;have hsz:vs.toArray.size=vs.length:=waE ..
 have old:∀{b:Addr} {o:Obj},s.heap.get? b=some o->b≠S/\b≠I:=λ{b o} e=>by
  have hb:b<s.heap.objs.size:=wae e;exact⟨war (waw hb YS),by rw[hI];exact war hb⟩
 intro r
 induction r with
 |zero=>
  intro j i h tk vb tb c hr hj mono nS hit Ua;have YT:j+1=vs.length:=by omega
  refine wbG we9 ?_;rw[wbx wbN _];show wpAny _ A.in1 (wem (.ref S) >>= _) _ _ _;refine wa7 (wcU nS rfl ?_);show wpAny _ A.in1 (tryCatch (pyNext (.ref I)) _ >>= _) _ _ _;refine wa7 (wbM (W.done _ _ _ ⟨by rw[hsz,<-YT];exact hit,hO hl mono⟩ λh' Dg K0=>?_));have YV:=K0 S _ (by simpa using NZ) nS;have s1:=weK h' S (wcQ λ_=>(#[]:Array Value));show wpAny _ A.in1 (wha S (λ_=>#[]) >>= _) _ _ _;refine wa7 ?_;refine wdg YV rfl (wa7 (wdm (wax ?_)));exact hR vb _ _ (wa9 Ua) λb o e=>(s1.2 b (old e).1).trans (K0 b o (by simpa using(old e).2) (mono b o e))
 |succ r ih=>
  intro j i h tk vb tb c hr hj mono nS hit Ua;have O0:j+1<vs.length:=by omega
  refine wbG we9 ?_;rw[wbx wbN _];show wpAny _ A.in1 (wem (.ref S) >>= _) _ _ _;refine wa7 (wcU nS rfl ?_);show wpAny _ A.in1 (tryCatch (pyNext (.ref I)) _ >>= _) _ _ _;refine wa7 (wbM (W.item (j+1) _ _ _ (by rw[hsz];exact O0) ⟨hit,hO hl mono⟩ λv h' Dg hP Lq K0=>?_));have hv:vs[j+1]?=some v:=by simpa using hP
  have yo:∀b o,s.heap.get? b=some o->h'.get? b=some o:=λb o e=>K0 b o (by simpa using(old e).2) (mono b o e);have P5:=K0 S _ (by simpa using NZ) nS;obtain⟨p,items,rfl,hp,Ub,FI⟩:=turn (j+1) v hv;show wpAny _ A.in1 (tryCatch (holding [wan p] (call (.builtin "len") [.ref p])) _ >>= _) _ _ _;refine wa7 (wbM (wbm (weH (hO hp yo) FI ?_)));rw[Ub];show wpAny _ A.in1 (tryCatch (holding [wan p,.int (kf (j+1)) _] (richCompare .Lt (.int (kf (j+1)) _) (.int (kf i) tb) >>= _)) _ >>= _) _ _ _;refine wa7 (wbM (wbm (wa7 (CmpOf.ints_lt (prog:=prog) (w:=w) (A:=A.in1) (P:=λi v=>∃t,v=.int (kf i) t) kf (λi v h=>h) (j+1) i _ _ _ _ _ ⟨_,rfl⟩ ⟨tb,rfl⟩ ?_))));refine wa7 (wbm (wbO ?_));refine wa7 (wdm (wax ?_))
  by_cases IE:kf (j+1)<kf i
  ·simp only[IE,decide_true,if_true];refine wa7 ?_;refine wdg P5 rfl (wa7 (wdm ?_));rw[B9];have s1:=weK h' S (wcQ λ_=>#[wan p,.int (kf (j+1)) (Dg+1)]);obtain⟨c2,Uc⟩:∃c2,(h'.update S (wcQ λ_=>#[wan p,.int (kf (j+1)) (Dg+1)])).get? S=some (seqObj "list" #[wan p,.int (kf (j+1)) (Dg+1)] c2):=⟨_,get?_update_seq P5 λ_=>#[wan p,.int (kf (j+1)) (Dg+1)]⟩;refine wax ⟨wce wbN _,ih (j+1) (j+1) _ _ _ _ c2 (by omega) O0 (λb o e=>(s1.2 b (old e).1).trans (yo b o e)) Uc ?_ hv⟩;obtain⟨Ud,O1,Ue⟩:=id Lq.1;exact⟨Ud,(s1.2 I NZ.symm).trans O1,Ue⟩
  ·simp only[IE,decide_false,wbW,if_false];refine wa7 (wdm ?_);rw[B9];exact wax ⟨wce wbN _,ih (j+1) i _ _ vb tb c (by omega) O0 yo P5 Lq.1 Ua⟩
theorem Lr(kf:Nat->Int)(hh:A.handled=none)(hl:s.heap.IsList l vs.toArray)(Aq:0<vs.length)
 (turn:∀(i:Nat) (v:Value),vs[i]?=some v->∃p items,v=.ref p/\s.heap.IsList p items/\(items.size:Int)=kf i/\(items.size:Int)<2^63)
 (hQ:∀(v:Value) (h':Heap) (Dg:Nat),v∈vs->(∀b o,s.heap.get? b=some o->h'.get? b=some o)->Q v {s with heap:=h',toks:=Dg}) :
 wpAny (model prog w) A (call (.builtin "min") [.ref l] [(wcs "key",.builtin "len")]) Q E s:=by
 have B9:(toString "min"++toString ".loop":String)="min.loop":=by decide
 have Dh:l<s.heap.objs.size:=let ⟨o,ho,_⟩:=hl;wae ho
 refine whV PySem.F.kind_min PySem.F.plain_min PySem.F.entry_min (kmk_min_key _ _) ?_;show wpAny _ A.in1 (wcF "min" ["key","default"] 0 ⟨[],[(wcs "key",.builtin "len")]⟩ >>= _) _ _ s;refine wa7 (whv (show wcF "min" ["key","default"] 0 ⟨[],[(wcs "key",.builtin "len")]⟩=pure [some (.builtin "len"),none] from rfl) ?_);refine wa7 (wax ?_);refine wa7 (wcM hl ?_);refine wa7 (wpAny_newList ?_ (waB _));rw[B9];have hS:(s.heap.push {cls:=.type "list_iterator",data:=.fields #[.ref l,.int 0 0]}).objs.size=s.heap.objs.size+1:=size_push' ..;have QJ:l≠s.heap.objs.size:=war Dh;have NZ:(s.heap.push {cls:=.type "list_iterator",data:=.fields #[.ref l,.int 0 0]}).objs.size≠s.heap.objs.size:=by rw[hS];exact wbU (wbI _)
 refine wax ⟨wce wbN _,?_⟩
 have gI:((s.heap.push {cls:=.type "list_iterator",data:=.fields #[.ref l,.int 0 0]}).push (seqObj "list" #[] 0)).get? s.heap.objs.size=some {cls:=.type "list_iterator",data:=.fields #[.ref l,.int 0 0]}:=
  wa8 _ (waq _ rfl)
 have gS:((s.heap.push {cls:=.type "list_iterator",data:=.fields #[.ref l,.int 0 0]}).push (seqObj "list" #[] 0)).get? (s.heap.push {cls:=.type "list_iterator",data:=.fields #[.ref l,.int 0 0]}).objs.size=some (seqObj "list" #[] 0):=waq _ rfl;have Mw:∀b o,s.heap.get? b=some o->((s.heap.push {cls:=.type "list_iterator",data:=.fields #[.ref l,.int 0 0]}).push (seqObj "list" #[] 0)).get? b=some o:=λb o e=>wa8 _ (wa8 _ e)
 have old:∀{b:Addr} {o:Obj},s.heap.get? b=some o->b≠s.heap.objs.size+1/\b≠s.heap.objs.size:=λ{b o} e=>by
  have hb:b<s.heap.objs.size:=wae e;exact⟨war (we5 hb),war hb⟩
 have W:=wfi (prog:=prog) (w:=w) (A:=A.in1) hh s.heap.objs.size l QJ vs.toArray;have hsz:vs.toArray.size=vs.length:=waE ..;refine wbG we9 ?_;rw[wbx wbN _];show wpAny _ A.in1 (wem (.ref _) >>= _) _ _ _;refine wa7 (wcU gS rfl ?_);show wpAny _ A.in1 (tryCatch (pyNext (.ref s.heap.objs.size)) _ >>= _) _ _ _;refine wa7 (wbM (W.item 0 _ _ _ (by rw[hsz];exact Aq) ⟨⟨_,gI,rfl,rfl⟩,hO hl Mw⟩ λv h' Dg hP Lq K0=>?_));have hv:vs[0]?=some v:=by simpa using hP
 have yo:∀b o,s.heap.get? b=some o->h'.get? b=some o:=λb o e=>K0 b o (by simpa using(old e).2) (Mw b o e);have P5:=K0 _ _ (by simpa using NZ) gS;obtain⟨p,items,rfl,hp,Ub,FI⟩:=turn 0 v hv;show wpAny _ A.in1 (tryCatch (holding [wan p] (call (.builtin "len") [.ref p])) _ >>= _) _ _ _;refine wa7 (wbM (wbm (weH (hO hp yo) FI ?_)));rw[Ub];have s1:=weK h' (s.heap.push {cls:=.type "list_iterator",data:=.fields #[.ref l,.int 0 0]}).objs.size (wcQ λ_=>#[wan p,.int (kf 0) (Dg+1)]);obtain⟨c2,Uc⟩:∃c2,(h'.update (s.heap.push {cls:=.type "list_iterator",data:=.fields #[.ref l,.int 0 0]}).objs.size (wcQ λ_=>#[wan p,.int (kf 0) (Dg+1)])).get? (s.heap.push {cls:=.type "list_iterator",data:=.fields #[.ref l,.int 0 0]}).objs.size=some (seqObj "list" #[wan p,.int (kf 0) (Dg+1)] c2):=⟨_,get?_update_seq P5 λ_=>#[wan p,.int (kf 0) (Dg+1)]⟩;show wpAny _ A.in1 (wha (s.heap.push {cls:=.type "list_iterator",data:=.fields #[.ref l,.int 0 0]}).objs.size (λ_=>#[wan p,.int (kf 0) (Dg+1)]) >>= _) _ _ _;refine wa7 ?_;refine wdg P5 rfl ?_;rw[B9];obtain⟨Ud,O1,Ue⟩:=id Lq.1;refine wax ⟨wce wbN _,zm kf hh hl rfl NZ (by rw[hS];exact wc1 _) turn hQ _ 0 0 _ _ _ _ c2 rfl Aq (λb o e=>(s1.2 b (by rw[hS];exact(old e).1)).trans (yo b o e)) Uc ⟨Ud,(s1.2 _ NZ.symm).trans O1,Ue⟩ hv⟩
end
section
variable{X:Cx}{e:Expr}{t:TA}{p p2 kp pos:Pos}
def QM(K:wa2)(t:TA):TE:=λσ H Q=>t σ H λvs H1=>∃(a:Addr) (ps:List Addr),vs=[.ref a]/\aM K H1 a (ps.map V.ref)/\ps≠[]/\(∀q∈ps,∃ys,aM K H1 q ys)/\∀q∈ps,Q (.ref q) H1
theorem Ls(hc:X.calm=true)(J:Gl X "min")(T:X.mg "min"=none)(l:Gl X "len")(C:X.mg "len"=none)(ha:PA X [e] t)(hs:starEach [e] X.env=[(false,eval e X.env)]:=by rfl):PE X (.Call (.Name "min" p) [e] [⟨some "key",.Name "len" p2,kp⟩] pos) (QM X.K t):=by
 intro f s σ H Q I h;refine wbv (gv I J T (show waV "min"=some (.builtin "min") from Sx.NI) ?_ (by decide) (by decide));refine wfE (bO (ha pos f s σ H _ I h) λO z ⟨R,A,g,B,D⟩=>?_) (by rw[hs];rfl) (by rw[hs];rfl);refine wen (gv g l C (show waV "len"=some (.builtin "len") from waM) (weC ?_) (by decide) (by decide));obtain⟨a,ps,rfl,E,m,n,q⟩:=D;obtain⟨u,rfl,G⟩:=vals1 B;cases G;obtain⟨b,k,pl,w⟩:=g.list E;have hl:b.length=ps.length:=by have:=k.length;rw[wa0]at this;exact this.symm
 have j:∀{ps:List Addr} {b:List Value},Vals (ps.map V.ref) b->b=ps.map wan:=by
  intro ps
  induction ps with
  |nil=>intro b r;cases r;rfl
  |cons x ps L=>
   intro b r
   cases r with
   |cons h t=>rw[L t];cases h;rfl
 have e:=j k;subst e
 have sz:∀q∈ps,∃b:List Value,z.heap.IsList q b.toArray/\b.length<=sizeLine:=λq c=>by
  obtain⟨S,M⟩:=n q c;obtain⟨b,k,pl,w⟩:=g.list M;exact⟨b,pl.isList,by rw[<-k.length];exact w⟩
 have hn:=oo;refine Lr (kf:=λi=>match ps[i]? with |some q=>if c:q∈ps then((whF (sz q c)).length:Int) else 0 |none=>0) (g.ok.hd hc) pl.isList (by rw[wa0];cases ps with |nil=>exact absurd rfl m |cons _ _=>exact Nat.succ_pos _) (λi v d=>?_) λv U o d hk=>?_
 ·rw[wa4]at d
  cases e:ps[i]? with
  |none=>rw[e]at d;cases d
  |some q=>
   rw[e]at d;cases d;have c:q∈ps:=wa9 e;obtain⟨N,Y⟩:=wgu (sz q c);refine⟨q,_,rfl,N,?_,?_⟩
   ·show _=if c:q∈ps then _ else _
    rw[dif_pos c,waE]
   ·rw[waE];omega
 ·obtain⟨y,c,rfl⟩:=wab.mp d;exact⟨.ref y,A,g.kept (t':=o) hk,rfl,q y c⟩
end
open AutoSeq1 (wpAny_loadPart')
noncomputable abbrev Mx(t:Tok):List (Str×Value):=[(wcs "start",.int 1 t)]
theorem FJ(l:Addr)(items:Array Value)(n:Nat)(j:Option Addr)(sl:Array (Option Value))(t:Tok) :
 Meets (weh.«enumerate.__new__» ⟨[.type "enumerate",.ref l],Mx t⟩) (λ_ R s=>s.heap.get? l=some {cls:=.type "list",dict:=j,data:=.seq items n,slots:=sl} /\
  R (.ok (.ret (.ref (s.heap.objs.size+1)))) {s with heap:=(s.heap.push {cls:=.type "list_iterator",data:=.fields #[.ref l,.int 0 0]}).push {cls:=.type "enumerate",data:=.fields #[.none,.bool false,.ref s.heap.objs.size,rawInt 1,.none,.none]}}):=
 .of_wp λprog w A R s h=>by
  obtain⟨a,g,d,i,os⟩:=s;obtain⟨hl,h⟩:=h;have b:(a.push {cls:=.type "list_iterator",data:=.fields #[.ref l,.int 0 0]}).objs.size=a.objs.size+1:=wbL ..;have e:=sub_enumerate;have f:Heap.IsList (Shared.heap ⟨a,g,d,i,os⟩) l items:=⟨_,hl,rfl,n,rfl⟩
  wp_walk using wpAny_loadPart' hl
  refine wpAny_stack_any λst=>wax ?_;split
  ·rename_i c _ _ _ _ _;cases(c==wep "enumerate")<;>(wp_walk using wpAny_loadPart' hl,wcM f;exact⟨_,rfl,by rw[b];exact h⟩)
  ·wp_walk using wpAny_loadPart' hl,wcM f
   exact⟨_,rfl,by rw[b];exact h⟩
section
variable{prog:wau}{w:World}{A:Around}{E:Value->Shared->Prop}{s:Shared}
theorem IG(l:Addr)(t:Tok):checkTypeCall "enumerate" ⟨[.ref l],Mx t⟩=pure ():=by kernel_rfl
theorem IH(l:Addr)(t:Tok):wef "enumerate.__new__" ⟨[.type "enumerate",.ref l],Mx t⟩=pure ():=by kernel_rfl
theorem Di(o l:Addr)(t:Tok):argsOk "object.__init__" ⟨[.ref o,.ref l],Mx t⟩:=by unfold argsOk;kernel_rfl
theorem Dj(o l:Addr)(t:Tok):Meets (weh.«object.__init__» ⟨[.ref o,.ref l],Mx t⟩) (λ_ R s=>s.TypeIs (.ref o) "enumerate"/\R (.ok (.ret .none)) s):=by
 have hl:=weX.init.lookup;have c:=weX.made;have a:(some "enumerate.__new__" != some "object.__new__")=true:=by decide
 refine Meets.of_wp λprog w A R s ⟨d,b⟩=>?_
 repeat (any_goals (first |assumption |wp_step))
 exact⟨_,rfl,b⟩
theorem Dk{Q:Value->Shared->Prop}(C:s.heap.IsList l items)
 (h:∀h',IsEnum h' (s.heap.objs.size+1) s.heap.objs.size 1 .none->h'.IsListIter s.heap.objs.size l 0->(∀b o,s.heap.get? b=some o->h'.get? b=some o)->Q (.ref (s.heap.objs.size+1)) {s with heap:=h'}) :
 wpAny (model prog w) A (call (.type "enumerate") [.ref l] (Mx t)) Q E s:=by
 obtain⟨⟨c,f,x,sl⟩,hl,hc,n,hd⟩:=C;have y:c=.type "list":=hc;have z:x=.seq items n:=hd;subst y z;have B:(s.heap.push {cls:=.type "list_iterator",data:=.fields #[.ref l,.int 0 0]}).objs.size=s.heap.objs.size+1:=wbL ..;have a:=weX;obtain⟨c,J,k⟩:=a.mro;have g:=a.made;have m:=a.sub;have L:=a.notType;have M:=a.canCreate;have D:=IG l t;refine wda (wfY (show wpAny _ _ (callAny (.type "enumerate") _) _ _ _ from wax ⟨wdV _ (by decide+kernel),wbG wgF ?_⟩));rw[wh9 (wgo "enumerate" [.ref l] (Mx t)) (units_type_call_type "enumerate" [.ref l] (Mx t))]
 repeat (any_goals (first |assumption |wp_step))
 have p:((s.heap.push {cls:=.type "list_iterator",data:=.fields #[.ref l,.int 0 0]}).push {cls:=.type "enumerate",data:=.fields #[.none,.bool false,.ref s.heap.objs.size,rawInt 1,.none,.none]}).get? (s.heap.objs.size+1)=some {cls:=.type "enumerate",data:=.fields #[.none,.bool false,.ref s.heap.objs.size,rawInt 1,.none,.none]}:=by
  rw[<-B];exact waq _ rfl
 refine wcc (wcR a.plain F.entry_enumerate_new (whv (IH l t) ((FJ l items n f sl t) prog w A.in1 (wants (λv i=>v=.ref (s.heap.objs.size+1)/\i={s with heap:=(s.heap.push {cls:=.type "list_iterator",data:=.fields #[.ref l,.int 0 0]}).push {cls:=.type "enumerate",data:=.fields #[.none,.bool false,.ref s.heap.objs.size,rawInt 1,.none,.none]}}) E) s ⟨hl,rfl,rfl⟩))) λr q j=>?_
 cases r with
 |error e=>exact j
 |ok fl=>
  cases fl with
  |ret obj=>
   obtain⟨rfl,rfl⟩:=j;have u:whZ {s with heap:=(s.heap.push {cls:=.type "list_iterator",data:=.fields #[.ref l,.int 0 0]}).push {cls:=.type "enumerate",data:=.fields #[.none,.bool false,.ref s.heap.objs.size,rawInt 1,.none,.none]}} (.ref (s.heap.objs.size+1)) "enumerate":=⟨_,p,rfl⟩;have G:=a.init.lookup;have H:=a.init.bind (.ref (s.heap.objs.size+1));have N:=h _ p ⟨_,wa8 _ (waq _ rfl),rfl,rfl⟩ λb o e=>wa8 _ (wa8 _ e)
   repeat (any_goals (first |assumption |wp_step))
   refine wcc (wcR a.init.plain F.entry_object_init (a.init.check _ _ _ _ _ _ _ _ u (Di _ l t) ((Dj (s.heap.objs.size+1) l t) prog w A.in1 (wants (λv i=>v=.none/\i={s with heap:=(s.heap.push {cls:=.type "list_iterator",data:=.fields #[.ref l,.int 0 0]}).push {cls:=.type "enumerate",data:=.fields #[.none,.bool false,.ref s.heap.objs.size,rawInt 1,.none,.none]}}) E) _ ⟨u,rfl,rfl⟩))) λI O d=>?_
   cases I with
   |error e=>exact d
   |ok P4=>
    cases P4 with
    |ret r=>
     obtain⟨rfl,rfl⟩:=d
     repeat (any_goals (first |assumption |wp_step))
    |_=>exact d.elim
  |_=>exact j.elim
theorem Dl{P:Nat->Value->Prop}{St:Nat->Heap->Prop}(D:Draws prog w A it g n P St):Draws prog w A it g (n+1) (λj v=>∃i,j=i+1/\P i v) (λj h=>∃i,j=i+1/\St i h) where
 live:=λ_ _ ⟨i,_,st⟩=>D.live i _ st
 frame:=λ_ h a ⟨i,e,st⟩ hk=>⟨i,e,D.frame i h a st hk⟩
 item:=λ_ s Q E l ⟨i,e,st⟩ b=>D.item i s Q E (by omega) st λx a c d f sb=>b x a c ⟨i,e,d⟩ ⟨i+1,by omega,f⟩ sb
 done:=λs Q E ⟨i,e,st⟩ k=>D.done s Q E ((show n=i by omega) ▸ st) k
theorem FK(g:A.handled=none)(it l:Addr)(items:Array Value)(i:Nat)(p:items[i]?=none):Draws prog w A it [it,l] (i+1) (λ_ _=>False) (λj h=>j=i+1/\h.IsListIter it l i/\h.IsList l items) where
 live:=λ_ _ ⟨_,st,_⟩=>let ⟨o,a,_⟩:=st;⟨o,a⟩
 frame:=λ_ _ _ ⟨e,st,sl⟩ hk=>⟨e,st.at λo q=>hk it (by simp) o q,sl.at λo q=>hk l (by simp) o q⟩
 item:=λ_ _ _ _ b ⟨e,_⟩ _=>absurd e (war b)
 done:=λ_ _ _ ⟨_,st,sl⟩ c=>wpAny_nextOf_list_end g st sl p c
end
noncomputable def II(K:wa2)(a:Addr):It:=
 ⟨λi H=>∃xs x,aM K H a xs/\xs[i]?=some x,λi H x H'=>∃T xv,H T=none/\x=.ref T/\H'=upd H T (.tup [.int ((i+1:Nat):Int),xv])/\∀xs,aM K H a xs->xs[i]?=some xv,λi H=>∃xs,aM K H a xs/\xs.length<=i⟩
theorem Dm{P:wau}{w:World}{K:wa2}{T:List Expr}{k:Nat}{pos:Pos}(a e it:Addr)(C:e≠it)(U:a≠it):Turn P w K (.Tuple T k pos) (II K a) [e,it] e (λi h=>(∃old,IsEnum h e it ((i+1:Nat):Int) old)/\h.IsListIter it a i) where
 mem:=by simp
 obj:=λi h st b d=>by
  obtain⟨⟨old,f⟩,o,G,hc,hd⟩:=st;rcases waC.mp d with z |d
  ·exact⟨_,z ▸ f,λv q=>by
    have q':wdC _=weU v:=q
    cases q'⟩
  ·exact⟨o,wat.mp d ▸ G,λv q=>by rw[hd]at q;cases q⟩
 keep:=λi h h' st k=>⟨st.1.imp λold f=>k e (by simp) _ f,st.2.at λo q=>k it (by simp) o q⟩
 item:=by
  intro X V hw Y hc i B s σ H E I M st Z;subst V hw Y;obtain⟨xs,x,S,hx⟩:=Z;obtain⟨g,rv,p,hz⟩:=I.list S;obtain⟨u,hu,ru⟩:=rv.get hx;obtain⟨⟨old,f⟩,hit⟩:=st;obtain⟨f0,f1,f2,f3,f4,f5⟩:=M e (by simp);obtain⟨g0,g1,g2,g3,g4,g5⟩:=M it (by simp)
  have Aq:e≠a:=λz=>by
   obtain⟨o,G,YW,_⟩:=p.isList;have j:=f;rw[z]at j;rw[j]at G;cases G;have q:wep "enumerate"=.type "list":=YW;injection q with q
   exact absurd q (by decide)
  have YX:i<g.length:=(wa6.mp hu).1;refine wfL (i:=i+1) (Dl (Draws.list (A:=X.A.in1) (I.ok.hd hc) it a U g.toArray)) f ⟨i,rfl,hit,p.isList⟩ (by rw[waE];omega) C (by simp[C,Aq]) λy h' tk J G Ug hT hsz hk=>?_;obtain⟨N,e1,J⟩:=J;obtain⟨i2,e2,O,YY⟩:=Ug;have e1:N=i:=by omega
  have e2:i2=i+1:=by omega
  subst e1 e2
  have ey:y=u:=by
   rw[wgv,hu]at J;exact(wag J).symm
  subst ey;refine⟨_,rfl,wdA G λl j D=>?_⟩;have kp:∀b o,b≠e->b≠it->s.heap.get? b=some o->l.get? b=some o:=λb o h1 h2 q=>(D.2 b h1).trans (hk b o h1 h2 q);have Q:e<s.heap.objs.size:=wae f;have Ks:s.heap.objs.size≠e:=wbU Q;have Kt:l.get? s.heap.objs.size=some {cls:=.type "tuple",data:=.seq #[.int ((N+1:Nat):Int) tk,y]}:=(D.2 _ Ks).trans hT;have L:=I.b4.fresh (waa s.heap.objs.size);have t:∀b o,H b=some o->b≠e/\b≠it:=λb o q=>⟨(λz=>by rw[z,f0]at q;cases q),(λz=>by rw[z,g0]at q;cases q)⟩
  have R:jt X.prog X.w (upd H s.heap.objs.size (.tup [.int ((N+1:Nat):Int),x])) l:=by
   intro b o q
   by_cases d:b=s.heap.objs.size
   ·subst d;rw[a6]at q;cases q;exact⟨by show 2<=sizeLine;decide,[.int ((N+1:Nat):Int) tk,y],.cons ⟨_,rfl⟩ (.cons ru .nil),⟨_,Kt,rfl,_,rfl⟩⟩
   ·rw[ae d]at q;refine(I.b4 b o q).qN (λc v hc r=>?_) (λc r=>by rw[ae (af r L)];exact r) λc ys r=>by rw[ae (af r L)];exact r
    rcases hc with z |z
    ·rw[z]at r ⊢;exact kp b v (t b o q).1 (t b o q).2 r
    ·exact kp c v (t c _ z).1 (t c _ z).2 r
  have I1:Inv X B σ (upd H s.heap.objs.size (.tup [.int ((N+1:Nat):Int),x])) {s with heap:=l,gens:=s.gens,drawn:=s.drawn,toks:=tk+1}:=by
   refine I.step (ch:=[e,it]) (λb d=>?_) (λb o _ _ hc q _=>kp b o (λz=>hc (by simp[z])) (λz=>hc (by simp[z])) q) (λb o _ _ hc q _=>⟨o.slots,kp b o (λz=>hc (by simp[z])) (λz=>hc (by simp[z])) q⟩)
    (λb o _ q n=>by rw[ae (war (wae q))];exact n) (λb o hc q=>⟨o,kp b o (λz=>hc (by simp[z])) (λz=>hc (by simp[z])) q⟩)
    (λb ys r=>by rw[ae (af r L)];exact r) (λb o u r=>by rw[ae (af r L)];exact r) (λb ps r=>⟨#[],by rw[ae (af r L),r];simp⟩)
    (λm ⟨o,es,ep,Nj,r⟩=>⟨o,es,ep,kp _ o (wb9 f1) (wb9 g1) Nj,r⟩) R I.bare
   rcases waC.mp d with rfl |d
   ·exact⟨f3,f1,f4,f5⟩
   ·have e':b=it:=by simpa using d
    subst e';exact⟨g3,g1,g4,g5⟩
  refine⟨.ref s.heap.objs.size,_,I1,rfl,⟨s.heap.objs.size,x,L,rfl,rfl,λys J=>by rw[I.p0 J S];exact hx⟩,⟨⟨y,by simpa using j⟩,?_⟩,λb d=>?_⟩
  ·exact O.at λo q=>(D.2 it (wb9 C)).trans q
  ·have:b<s.heap.objs.size:=by
    rcases waC.mp d with rfl |d
    ·exact Q
    ·have e':b=it:=by simpa using d
     subst e';obtain⟨o,q,_⟩:=hit;exact wae q
   rw[ae (war this)];exact(M b d).1
 done:=by
   intro X V hw Y hc i B s σ H E I M st Z;subst V hw Y;obtain⟨xs,S,hx⟩:=Z;obtain⟨g,rv,p,hz⟩:=I.list S;have hl:=rv.length;obtain⟨⟨old,f⟩,hit⟩:=st;obtain⟨g0,g1,g2,g3,g4,g5⟩:=M it (by simp);exact wgd (FK (A:=X.A.in1) (I.ok.hd hc) it a g.toArray i (wga (by simp;omega))) f ⟨rfl,hit,p.isList⟩ λh' eb=>⟨rfl,I.turned (t':=s.toks) (λb o d e=>eb b o d e) g0 g1 g3 g4 g5⟩
 self:=λ_ _ _ _ _ st h=>let ⟨⟨_,f⟩,_⟩:=st;wcN f h
theorem zo{E:Value->Shared->Prop}{Q:Value->Shared->Prop}(l:args.any (·.1)=false)(p:j.any (·.1.isNone)=false)
 (h:wpAny M A (evalArgs (.type T) true args j) (λa g=>wpAny M A (call (.type T) (first++a.pos) a.kw) Q E g) E s):wpAny M A (callWith pos (.type T) first args j) Q E s:=by
 unfold callWith;refine wa7 (wbm (wb8 h (λa g b=>wa7 (wdz ?_)) λ_ _ x=>x));simp only[l,p,Bool.or_false];exact wa7 (wax (wa7 (wb8 b (λr c d=>wa7 (wbm (wpAny_point (wax d)))) λ_ _ x=>x)))
section
variable{X:Cx}
def O2(K:wa2)(ta:TA):TI:=λσ H R=>ta σ H λvs H1=>∃a xs,vs=[.ref a]/\aM K H1 a xs/\R (II K a) H1
theorem IJ{g:List Expr}{k j:Nat}{r:Pos}{l:Expr}{C:TA}{p J kp pos:Pos}(T:Gl X "enumerate")(U:X.mg "enumerate"=none)(ha:PA X [l] C)(hs:starEach [l] X.env=[(false,eval l X.env)]:=by rfl) :
 PI X (.Tuple g k r) (.Call (.Name "enumerate" p) [l] [⟨some "start",.Constant (.int 1) j J,kp⟩] pos) (O2 X.K C):=by
 intro c s σ H R I h;refine wbv (gv I T U hZ ?_ (by decide) (by decide));refine zo (by rw[hs];rfl) rfl ?_
 have w:backTo pos (starEach [l] X.env)=(false,(backTo pos (starEach [l] X.env)).head (by rw[hs];exact λz=>nomatch z) |>.2)::[]:=by
  simp only[hs];rfl
 rw[w];refine evalArgs_kwB rfl ?_;rw[<-w];refine bO (ha pos c s σ H _ I h) λus E ⟨vs,A,G,L,M⟩=>?_;refine wen (bO (aq (X:=X) (i:=1) c E σ A (λx m=>x=.int 1/\m=A) G ⟨rfl,rfl⟩) λv d ⟨y,m,n,N,O,Q⟩=>weC ?_);subst O Q;obtain⟨t,rfl⟩:=N;obtain⟨a,xs,e,S,q⟩:=M;subst e;obtain⟨u,rfl,V⟩:=vals1 L;cases V;obtain⟨Y,rv,pl,hz⟩:=n.list S;refine Dk pl.isList λZ B hit kp=>wcN B ?_;have I3:Inv X c σ m {d with heap:=Z}:=n.kept (t':=d.toks) kp;have o:a<d.heap.objs.size:=let ⟨_,ho,_⟩:=pl.isList;wae ho
 refine⟨d.heap.objs.size+1,[d.heap.objs.size+1,d.heap.objs.size],_,_,m,rfl,I3,Dm a _ _ (wbU (wbI _)) (war o),⟨⟨_,B⟩,hit⟩,λb D=>?_,q⟩
 have f:d.heap.objs.size<=b:=by
  rcases waC.mp D with rfl |D
  ·grind
  ·grind
 exact n.wK f (n.b4.fresh f)
end
theorem FL{K:wa2}{a:Addr}{xs:List V}{g:TG}{C:TS}{D:Ends}{σ:St}{H:Hp}(Pv:Nat->St->Hp->Prop)(h0:Pv 0 σ H)(hl:∀i σ H,i<=xs.length->Pv i σ H->aM K H a xs)
 (hs:∀i x σ H T,xs[i]?=some x->Pv i σ H->H T=none->g (.ref T) σ (upd H T (.tup [.int ((i+1:Nat):Int),x])) λj t=>C {D with nx:=Pv (i+1),ct:=Pv (i+1),bk:=D.nx} j t) (hd:∀σ H,Pv xs.length σ H->D.nx σ H) :
 ∃W:Nat->Nat->St->Hp->Prop,(∃m,W 0 m σ H)/\∀i m σ H,W i m σ H ->
  ((II K a).stop i H/\D.nx σ H)\/((II K a).go i H/\∃N:St->Hp->Prop,(∀l r,N l r->∃I,I<m/\W (i+1) I l r)/\∀x r,(II K a).u0 i H x r->g x σ r λj t=>C {D with nx:=N,ct:=N,bk:=D.nx} j t):=by
 refine⟨λi m σ H=>m=xs.length-i/\i<=xs.length/\Pv i σ H,⟨xs.length,by simp,waB _,h0⟩,?_⟩;rintro i m σ H ⟨rfl,hi,p⟩;have q:=hl i σ H hi p
 by_cases b:i<xs.length
 ·refine .inr ⟨⟨xs,xs[i],q,by simp[b]⟩,Pv (i+1),λl r c=>⟨xs.length-(i+1),by omega,rfl,b,c⟩,λx r y=>?_⟩;obtain⟨T,d,f,h,k,y⟩:=y;subst h k;exact hs i d σ _ T (y xs q) p f
 ·have e:i=xs.length:=by omega
  subst e;exact .inl ⟨⟨xs,q,waa _⟩,hd σ H p⟩
end L2
namespace L2
open PySem PySem.Spec PyProof.Rows
def vn(K:wa2)(J:It)(l:Addr)(σf:St)(tt:TT)(te:TE)(H:Hp)(Q:Hp->Prop):Prop:=
 ∃W:Nat->Nat->List V->Hp->Prop,(∃m,W 0 m [] (upd H l (.lst [])))/\∀i m ys H2,W i m ys H2->H2 l=some (.lst ys) /\
  ((J.stop i H2/\Q H2)\/(J.go i H2/\ys.length<sizeLine/\∀x H3,J.u0 i H2 x H3->∃p a b c,x=.ref p/\gL K H3 p [a,b,c]/\tt (some a::some b::some c::σf) H3 λok H4=>
    if ok=true then te (some a::some b::some c::σf) H4 λy H5=>H5 l=some (.lst ys)/\∃m',m'<m/\W (i+1) m' (ys++[y]) (upd H5 l (.lst (ys++[y])))
    else ∃m',m'<m/\W (i+1) m' ys H4))
def O3(K:wa2)(wi:TI)(ix:List Nat)(tt:TT)(te:TE):TE:=λσ H Q=>wi σ H λJ H1=>∀l,H1 l=none->vn K J l (pick σ ix) tt te H1 (λH2=>Q (.ref l) H2)
section
variable{X:Cx}{pins:List (Addr×Obj)}{σ:St}{H:Hp}{s₂:Shared}{scope:wd6}{x x2 x3:Str}{ys:List Str}{ix:List Nat}{cl:List (Str×Addr)}{fp:List Addr}{L:Addr}
theorem IK(hc:X.calm=true)(B:bV X scope x ys ix)(g:bV X scope x2 ys ix)(j:bV X scope x3 ys ix)(l:x≠x2/\x≠x3/\x2≠x3)(cl L s H ex pn):PG (bD X scope ([x,x2,x3]++ys) cl L s H ex pn) (.Tuple [.Name x t,.Name x2 p,.Name x3 r] C pt) (GP X.K 3 (m4 (dD 0) (m4 (dD 1) (m4 (dD 2) GO)))):=by
 have d:(relabel scope X.env).names.lookup x=some .local:=wcr B.var;have b:(relabel scope X.env).names.lookup x2=some .local:=wcr g.var;have c:(relabel scope X.env).names.lookup x3=some .local:=wcr j.var
 have a:(x::x2::x3::ys).Nodup:=by
  have:=B.nd;have:=g.nd;have:=j.nd
  grind
 exact dG hc (aK (jZ a rfl (.inl d) (.inr d)) (aK (jZ a rfl (.inl b) (.inr b)) (aK (jZ a rfl (.inl c) (.inr c)) cB)))
theorem IL{K:wa2}{J:It}(h:vn K J l g j r H Q):xV (GP K 3 (m4 (dD 0) (m4 (dD 1) (m4 (dD 2) GO)))) 3 J l g j r H Q:=
 let ⟨W,a,t⟩:=h
 ⟨W,a,λi m ys k w=>let ⟨p,q⟩:=t i m ys k w;⟨p,q.imp id λ⟨a,b,c⟩=>⟨a,b,λx n o z y=>by revert o;refine j5 3 _ ?_;exact λ_ _ _=>let ⟨p,v,f,d,e,u,s⟩:=c x n y;⟨p,[v,f,d],e,u,rfl,v,[f,d],rfl,f,[d],rfl,d,[],rfl,rfl,⟨[some v,some f,some d],rfl,rfl⟩,s⟩⟩⟩⟩
theorem IM(hc:X.calm=true)(B:bV X scope x ys ix)(U:bV X scope x2 ys ix)(B3:bV X scope x3 ys ix)(g:x≠x2/\x≠x3/\x2≠x3)(hi:PI X (.Tuple [.Name x px,.Name x2 j,.Name x3 p] kt pt) iter wi)
 (ht:∀cl L s H ex pn,JX (bD X scope (x::x2::x3::ys) cl L s H ex pn) r I) (he:∀cl L s H ex pn,PE (bD X scope (x::x2::x3::ys) cl L s H ex pn) t T)
 (hs:∀v,wc4 iter X.env v=pure v:=by intro _;rfl):PE X (.ListComp t [⟨.Tuple [.Name x px,.Name x2 j,.Name x3 p] kt pt,iter,r,0⟩] scope pos) (O3 X.K wi ix I T):=
 uF (C:=λJ l a H Q=>vn X.K J l a I T H Q) (xs:=[x,x2,x3]) hc B (IK hc B U B3 g) (λ_ _ _ _ _=>IL) hi ht he hs
end
end L2
namespace Bs
open PySem L2 Sx
noncomputable def cS(ds:List Nat)(qs:List (Str×Nat)):List (Str×Nat):=qs.filter λq=>decide (q.2∈ds)
theorem yp(h:∀d∈S,d∈T):∀g:List (Str×Nat),(cS S g).length<=(cS T g).length
 |[]=>waa _
 |q::g=>by
  have a:=yp h g;unfold cS at a ⊢
  by_cases b:q.2∈S
  ·rw[wb3 (by exact decide_eq_true b),wb3 (by exact decide_eq_true (h _ b))];exact Nat.succ_le_succ a
  ·rw[wba (by simpa using b)]
   by_cases c:q.2∈T
   ·rw[wb3 (by exact decide_eq_true c)];exact whl a
   ·rw[wba (by simpa using c)];exact a
theorem IP(j:List Nat)(g:List (Str×Nat)):(cS j g).length<=g.length:=wb4 _ _
noncomputable def vo(lns:List (List (Str×Nat)))(many:Int)(ds:List Nat):List Nat:=ds.filter λd=>decide (many<=((cS ds (lns.getD d [])).length:Int))
def Ej(lns:List (List (Str×Nat)))(many:Int)(S:List Nat):Prop:=∀d∈S,d<lns.length/\many<=((cS S (lns.getD d [])).length:Int)
structure Above(lns:List (List (Str×Nat)))(many:Int)(ks:List Nat):Prop where
 sub:ks.Sublist (waH lns.length)
 top:∀S,Ej lns many S->∀d∈S,d∈ks
theorem Above.start(lns:List (List (Str×Nat)))(many:Int):Above lns many (waH lns.length):=⟨wff _,λS h d hd=>wb5.mpr (h d hd).1⟩
theorem Above.next(h:Above lns many g):Above lns many (vo lns many g):=by
 refine⟨wdF.trans h.sub,λS a d hd=>wav.mpr ⟨h.top S a d hd,decide_eq_true ?_⟩⟩;have b:=(a d hd).2;have c:=yp (h.top S a) (lns.getD d []);omega
theorem Above.stays(h:Above lns many g)(e:vo lns many g=g):Ej lns many g:=λd hd=>by
 refine⟨wb5.mp (h.sub.subset hd),?_⟩;rw[<-e]at hd;exact of_decide_eq_true (wav.mp hd).2
theorem IQ(e:vo lns many g≠g):(vo lns many g).length<g.length:=by
 have a:(vo lns many g).Sublist g:=wdF;exact Nat.lt_of_le_of_ne a.length_le λz=>e (a.eq_of_length z)
structure oG(lns:List (List (Str×Nat)))(many:Int)(ks:List Nat):Prop where
 ab:Above lns many ks
 st:Ej lns many ks
theorem oH:∀g:List (Str×Nat),(∀q∈g,ws.getD q.2 0<=h)->b9 ws g<=(g.length:Int)*h
 |[],_=>by show (0:Int)<=(0:Nat)*h;simp
 |q::g,a=>by
  have c:=oH g λp b=>a p (wac _ b);have h0:=a q (waf ..);rw[cE,waK,wcK,wgf];show _<=_+1*h;omega
theorem getD_mem{ws:List Int}{i:Nat}(h:i<ws.length):ws.getD i 0∈ws:=by
 grind
theorem Ba{many h:Int}{hs:List Str}{ws:List Int}{lns:List (List (Str×Nat))}(S:jb many hs ws lns)(K:oG lns many [])(t:h∈ws)(C:∀w∈ws,w<=h)(m1:1<=many) :
 ∃(d i:Nat) (g:List (Str×Nat)) (q:Str×Nat),lns[d]?=some g/\g[i]?=some q/\ws.getD d 0=h/\ws.getD q.2 0<h:=by
 have f:=S.w;have v:=S.l
 by_cases s:∃(d i:Nat) (g:List (Str×Nat)) (q:Str×Nat),lns[d]?=some g/\g[i]?=some q/\ws.getD d 0=h/\ws.getD q.2 0<h
 ·exact s
 exfalso
 have all:∀(d:Nat) (g:List (Str×Nat)),lns[d]?=some g->ws.getD d 0=h->∀q∈g,ws.getD q.2 0=h:=λd g hd hw q c=>by
  obtain⟨i,hi,e⟩:=wbR c;have x:¬ws.getD q.2 0<h:=λz=>s ⟨d,i,g,q,hd,by rw[wa1 hi,e],hw,z⟩;have o:=C _ (getD_mem (ws:=ws) (i:=q.2) (by rw[f];exact S.e g (wa9 hd) q c));omega
 obtain⟨y,j,A⟩:=wbR t;have x:1<=h:=S.p h t
 have r:Ej lns many ((waH ws.length).filter λd=>decide (ws.getD d 0=h)):=λd hd=>by
  obtain⟨u,n⟩:=wav.mp hd;have u:=wb5.mp u;have n:ws.getD d 0=h:=of_decide_eq_true n;have k:d<lns.length:=by omega
  have c:lns[d]?=some (lns.getD d []):=by rw[wa3,wa1 k];rfl
  refine⟨k,?_⟩;have m:=all d _ c n;have B:cS ((waH ws.length).filter λd=>decide (ws.getD d 0=h)) (lns.getD d [])=lns.getD d []:=wb6.mpr λq a=>decide_eq_true (wav.mpr ⟨wb5.mpr (by rw[f];exact S.e _ (wa9 c) q a),decide_eq_true (m q a)⟩);rw[B];have o:=S.b d _ c;have D:=oH (lns.getD d []) λq a=>Int.le_of_eq (m q a);rw[n]at o;have E:many*h<=((lns.getD d []).length:Int)*h:=wdY o D;exact wf5 E (by omega)
 have:=K.ab.top _ r y (wav.mpr ⟨wb5.mpr j,decide_eq_true (by rw[wa3,wa1 j,A];rfl)⟩);cases this
theorem yq(f:Nat->Bool)(ws:List Int):∀(k:Nat) (g:List (Str×Nat)),b9 ws (bj f k g)=(((wgc k g.length).filter f).map λi=>ws.getD (g.getD (i-k) ("",0)).2 0).sum
 |_,[]=>rfl
 |k,q::g=>by
  have a:=yq f ws (k+1) g
  have e:((wgc (k+1) g.length).filter f).map (λi=>ws.getD ((q::g).getD (i-k) ("",0)).2 0)=((wgc (k+1) g.length).filter f).map λi=>ws.getD (g.getD (i-(k+1)) ("",0)).2 0:=wb7 λi hi=>by
   have:=(whm.mp (wav.mp hi).1).1;rw[show i-k=(i-(k+1))+1 by omega];rfl
  show b9 ws (if f k then q::bj f (k+1) g else bj f (k+1) g)=_;rw[waK,whE]
  cases b:f k with
  |true=>
   rw[if_pos rfl,wb3 b,waz,e,cE,a,wbt,wbC];rfl
  |false=>
   rw[if_neg (by decide),wba (by grind),e,a]
theorem IU{a b:List Int}(h:a.Perm b):a.sum=b.sum:=by
 induction h with
 |nil=>rfl
 |cons x _ c=>grind
 |swap x y l=>grind
 |trans _ _ d e=>grind
theorem Dn{a b:List Nat}(na:a.Nodup)(g:b.Nodup)(h:∀x,x∈a↔x∈b):a.Perm b:=by grind [whP]
theorem Dp(ws:List Int)(g:List (Str×Nat)){ns:List Nat}(nd:ns.Nodup)(j:∀n∈ns,n<g.length):b9 ws (aZ (ns.map λn:Nat=>(n:Int)) g)=(ns.map λi=>ws.getD (g.getD i ("",0)).2 0).sum:=by
 unfold aZ;rw[yq];refine IU (List.Perm.map _ (Dn ((List.nodup_range' ..).filter _) nd λx=>?_));rw[wav,whm,decide_eq_true_eq,wab];constructor
 ·grind
 ·grind
theorem FN(ws:List Int)(ns:List Int)(g:List (Str×Nat)):b9 ws (aZ ns g)+b9 ws (aW ns g)=b9 ws g:=by
 have gen:∀(f:Nat->Bool) (k:Nat) (l:List (Str×Nat)),b9 ws (bj f k l)+b9 ws (bj (λi=>!f i) k l)=b9 ws l:=by
  intro f k l
  induction l generalizing k with
  |nil=>rfl
  |cons q l a=>
   have a:=a (k+1);show b9 ws (if f k then q::bj f (k+1) l else bj f (k+1) l)+b9 ws (if !f k then q::bj (λi=>!f i) (k+1) l else bj (λi=>!f i) (k+1) l)=_;rw[cE]
   cases f k with
   |true=>
    rw[if_pos (by decide),if_neg (by decide),cE];omega
   |false=>
    rw[if_neg (by decide),if_pos (by decide),cE];omega
 exact gen _ 0 g
theorem oI{f:Nat->Int}:∀ns:List Nat,(∀n∈ns,f n<=h)->(ns.map f).sum<=(ns.length:Int)*h
 |[],_=>by show (0:Int)<=(0:Nat)*h;simp
 |n::ns,a=>by
  have c:=oI ns λp b=>a p (wac _ b);have h0:=a n (waf ..);rw[waz,wbt,waK,wcK,wgf];show _<=_+1*h;omega
theorem vp{f:Nat->Int}:∀ns:List Nat,(∀n∈ns,f n<=h)->x∈ns->f x<h->(ns.map f).sum<(ns.length:Int)*h
 |[],_,a,_=>nomatch a
 |n::ns,c,a,b=>by
  have h0:=c n (waf ..);rw[waz,wbt,waK,wcK,wgf];show _<_+1*h;rcases waC.mp a with e |a
  ·have g:=oI ns λp d=>c p (wac _ d);rw[e]at b;omega
  ·have g:=vp ns (λp d=>c p (wac _ d)) a b;omega
theorem vq{f:Nat->Int}:∀ns:List Nat,(∀n∈ns,1<=f n)->ns≠[]->1<=(ns.map f).sum
 |[],_,h=>absurd rfl h
 |[n],a,_=>by
  have:=a n (waf ..);show 1<=f n+0;omega
 |n::m::ns,a,_=>by
  have h0:=a n (waf ..);have c:=vq (m::ns) (λp b=>a p (wac _ b)) (λz=>nomatch z);rw[waz,wbt];omega
theorem FO{many h w:Int}{hs:List Str}{ws:List Int}{lns:List (List (Str×Nat))}(S:jb many hs ws lns){d i0:Nat}{g:List (Str×Nat)}{ns:List Nat}(T:∀w∈ws,w<=h)(hd:lns[d]?=some g)(hw:ws.getD d 0=h)(m1:1<=many)
 (nd:ns.Nodup) (t:∀n∈ns,n<g.length) (C:ns≠[]) (J:(ns.length:Int)<=many) (r:(ns.length:Int)=many->i0∈ns) (I:ws.getD (g.getD i0 ("",0)).2 0<h)
 (j:(ns.map λi=>ws.getD (g.getD i ("",0)).2 0).sum=many*w):eu ws lns many (d:Int) (ns.map λn:Nat=>(n:Int)) w=true:=by
 have k:=S.w;have q:=S.l;have s:d<lns.length:=(wa6.mp hd).1;have m:lns.getD d []=g:=by rw[wa3,hd];rfl
 have o:g∈lns:=wa9 hd
 have a:∀i,i<g.length->ws.getD (g.getD i ("",0)).2 0∈ws:=λi hi=>by
  have e:g.getD i ("",0)=g[i]:=by rw[wa3,wa1 hi];rfl
  rw[e];exact getD_mem (by rw[k];exact S.e g o _ (waL hi))
 have c:∀n∈ns,1<=ws.getD (g.getD n ("",0)).2 0:=λn hn=>S.p _ (a n (t n hn));have f:∀n∈ns,ws.getD (g.getD n ("",0)).2 0<=h:=λn hn=>T _ (a n (t n hn));have u:=vq ns c C;rw[j]at u
 have x:1<=w:=by
  by_cases z:1<=w
  ·exact z
  ·have:=Int.mul_nonpos_of_nonneg_of_nonpos (show 0<=many by omega) (show w<=0 by omega);omega
 have H:1<=h:=by rw[<-hw];exact S.p _ (getD_mem (by omega))
 have L:w<h:=by
  have lt:many*w<many*h:=by
   rw[<-j]
   by_cases z:(ns.length:Int)=many
   ·have:=vp ns f (r z) I;rw[z]at this;exact this
   ·have y:=oI ns f;have A:((ns.length:Int)+1)*h<=many*h:=Int.mul_le_mul_of_nonneg_right (by omega) (by omega);rw[wgf]at A;omega
  exact Int.lt_of_mul_lt_mul_left lt (by omega)
 have c1:=Dp ws g nd t;rw[j]at c1;have M:=FN ws (ns.map λn:Nat=>(n:Int)) g;have b:=S.b d g hd;rw[hw]at b
 have B:many*(h-w)<=b9 ws (aW (ns.map λn:Nat=>(n:Int)) g):=by
  rw[Int.mul_sub];omega
 have part:∀(l:List (Str×Nat)) (v:Int),1<=v->many*v<=b9 ws l->f7 ws many l v=true:=λl v D hl=>by
  have hn:l≠[]:=λz=>by
   rw[z]at hl;have y:many*v<=0:=hl;have:=whw (show 0<many by omega) (show 0<v by omega);omega
  unfold f7;rw[decide_eq_true D,decide_eq_true hl]
  cases l with
  |nil=>exact absurd rfl hn
  |cons _ _=>rfl
 unfold eu;rw[waG,m,hw,part _ w x (Int.le_of_eq c1.symm),part _ (h-w) (by omega) B];have E:fg (d:Int) lns.length=true:=by unfold fg;rw[decide_eq_true (by omega),decide_eq_true (by omega)];rfl
 have G:(ns.map λn:Nat=>(n:Int)).all (λi=>fg i g.length)=true:=waW.mpr λi hi=>by
  obtain⟨n,hn,rfl⟩:=wab.mp hi;have:=t n hn;unfold fg;rw[decide_eq_true (by omega),decide_eq_true (by omega)];rfl
 rw[E,G];rfl
noncomputable def nI(ds:List Nat):List Int:=ds.map λn:Nat=>(n:Int)
theorem O4{g:List Nat}{e:Nat}:(e:Int)∈nI g↔e∈g:=by grind [nI]
theorem Bb(e:Nat)(g:List Nat):p7 (.int (e:Int)) ((nI g).map V.int)=decide (e∈g):=by
 rw[vh];exact decide_eq_decide.mpr O4
theorem cJ(g:List Nat):(nI g).length=g.length:=wa0 _
theorem vr{g:List Nat}{i n:Nat}(h:g[i]?=some n):((nI g).map V.int)[i]?=some (.int (n:Int)):=by
 unfold nI;rw[wa4,wa4,h];rfl
theorem IV:∀{a b:List Nat},nI a=nI b->a=b
 |[],[],_=>rfl
 |[],_::_,h=>nomatch h
 |_::_,[],h=>nomatch h
 |x::a,y::b,h=>by
  unfold nI at h;rw[waz,waz]at h;injection h with d c
  rw[IV (a:=a) (b:=b) c,show x=y by omega]
theorem rq(a b:List Nat):nI (a++b)=nI a++nI b:=wao
structure Reach(lns:List (List (Str×Nat)))(rs:List Nat):Prop where
 cl:∀d∈rs,∀q∈lns.getD d [],q.2∈rs
 lt:∀d∈rs,d<lns.length
 ne:rs≠[]
 nd:rs.Nodup
noncomputable def d7(Hx:List Str)(f:Str->Int):Str->Int:=λp=>if p∈Hx then f p else 0
theorem vt{α:Type}{f g:α->Int}:∀l:List α,(∀x∈l,f x<=g x)->(l.map f).sum<=(l.map g).sum
 |[],_=>weR _
 |x::l,h=>by
  have:=h x (waf ..);have:=vt l λy a=>h y (wac _ a);rw[waz,waz,wbt,wbt];omega
theorem vv{α:Type}{f:α->Int}{x:α}:∀l:List α,(∀x∈l,0<=f x)->x∈l->0<f x->0<(l.map f).sum
 |y::l,h,a,c=>by
  have h0:=h y (waf ..);have hn:=uZ λz b=>h z (wac _ b);rw[waz,wbt];rcases waC.mp a with e |a
  ·rw[<-e];omega
  ·have:=vv l (λz b=>h z (wac _ b)) a c;omega
theorem vx{ls g:List Str}{f:Str->Int}(h:∀p∈ls,0<=f p):∀p∈ls,0<=d7 g f p:=λp a=>by
 unfold d7;split
 ·exact h p a
 ·grind
theorem Bc{ls g:List Str}{f:Str->Int}(h:∀p∈ls,0<=f p):∀p∈ls,d7 g f p<=f p:=λp a=>by
 unfold d7;split
 ·grind
 ·exact h p a
theorem FP{ls g:List Str}{f:Str->Int}(h:∀p∈ls,0<=f p):(ls.map (d7 g f)).sum<=(ls.map f).sum:=vt ls (Bc h)
theorem FQ{ls:List Str}{f:Str->Int}{rs:List Nat}(h:∀p∈ls,0<=f p)(hl:∀d∈rs,d<(ao ls f).length)(g:rs≠[]):0<(ls.map (d7 (rs.map λd=>(ao ls f).getD d "") f)).sum:=by
 cases rs with
 |nil=>exact absurd rfl g
 |cons d rs=>
  have hd:=hl d (waf ..)
  have a:(ao ls f).getD d ""∈ao ls f:=by
   grind
  obtain⟨b,c⟩:=wav.mp a;refine vv ls (vx h) b ?_;unfold d7;rw[if_pos (wab.mpr ⟨d,waf ..,rfl⟩)];exact of_decide_eq_true c
theorem FR{g:Str}{ws ss ls:List Str}{n:Nat}{many:Int}{f:Str->Int}{rs:List Nat}(hn:∀p∈ls,0<=f p)(l:GA g ws ss ls many n f)(R:Reach (bB g ws ss ls n (ao ls f)) rs) :
 GA g ws ss ls many n (d7 (rs.map λd=>(ao ls f).getD d "") f):=by
 intro p m
 by_cases h:p∈rs.map λd=>(ao ls f).getD d ""
 ·obtain⟨d,hd,rfl⟩:=wab.mp h;have b:=R.lt d hd;have c:d<(ao ls f).length:=by unfold bB at b;rwa[wa0]at b
  have j:(bB g ws ss ls n (ao ls f)).getD d []=gD g ws ss ls n (ao ls f) ((ao ls f).getD d ""):=by
   unfold bB;rw[wa3,wa4,wa1 c,wa3,wa1 c];rfl
  have e:iw g ws ss ls n (d7 (rs.map λd=>(ao ls f).getD d "") f) ((ao ls f).getD d "")=iw g ws ss ls n f ((ao ls f).getD d ""):=by
   unfold iw;refine congrArg List.sum (wb7 λq i=>?_);unfold d7
   by_cases a:q.2∈rs.map λd=>(ao ls f).getD d ""
   ·rw[if_pos a]
   ·rw[if_neg a]
    by_cases h0:0<f q.2
    ·exfalso;have k:q.2∈ao ls f:=wav.mpr ⟨dM i,decide_eq_true h0⟩
     have o:(q.1,(ao ls f).idxOf q.2)∈(bB g ws ss ls n (ao ls f)).getD d []:=by
      rw[j];unfold gD;exact wab.mpr ⟨q,wav.mpr ⟨i,decide_eq_true k⟩,rfl⟩
     have:=R.cl d hd _ o;refine a (wab.mpr ⟨_,this,?_⟩);show (ao ls f).getD ((ao ls f).idxOf q.2) ""=q.2;rw[wa3,(rm k).1];rfl
    ·have:=hn _ (dM i);omega
  rw[e];unfold d7;rw[if_pos h];exact l _ m
 ·have e:d7 (rs.map λd=>(ao ls f).getD d "") f p=0:=by unfold d7;rw[if_neg h]
  rw[e,Int.mul_zero];unfold iw;exact uZ λq i=>vx hn _ (dM i)
end Bs
namespace Sx
open PySem L2 Bs
inductive O5(K:wa2)(vs:List V)(H:Hp)(Q:VK)(eE:XK):Prop
 |mk (v a ds qs) (_:vs=[v,.ref a]) (_:bL K H (bY qs) v) (_:aM K H a ((nI ds).map V.int)) (_:qs.length<=10000) (_:∀y H',a8 H H'->bL K (aJ H H') (bY (cS ds qs)) y->Q y H')
inductive O6(K:wa2)(C:Addr)(vs:List V)(H:Hp)(Q:VK)(eE:XK):Prop
 |mk (x many hs ws lns) (_:vs=[.ref x,.int many]) (_:cg K C H x hs ws lns) (_:lns.length<=1000) (_:(∀l∈lns,l.length<=10000)) (_:∀(l:Addr) (ks:List Nat) (H':Hp),a8 H H'->H l=none->H' l=some (.lst ((nI ks).map V.int))->oG lns many ks->Q (.ref l) H')
inductive FT(K:wa2)(C:Addr)(vs:List V)(H:Hp)(Q:VK)(eE:XK):Prop
 |mk (x:Addr) (d:Nat) (hs:List Str) (ws:List Int) (lns:List (List (Str×Nat))) (_:vs=[.ref x,.int (d:Int)]) (_:cg K C H x hs ws lns) (_:d<lns.length) (_:(∀l∈lns,∀q∈l,q.2<lns.length)) (_:lns.getD d []≠[]) (_:lns.length<=1000) (_:∀(l:Addr) (rs:List Nat) (H':Hp),a8 H H'->H l=none->H' l=some (.lst ((nI rs).map V.int))->Reach lns rs->Q (.ref l) H')
structure Down(ws:List Int)(lns:List (List (Str×Nat)))(h:Int)(d i:Nat)(qs:List (Str×Nat))(q:Str×Nat):Prop where
 m:h∈ws
 t:∀w∈ws,w<=h
 l:lns[d]?=some qs
 s:qs[i]?=some q
 e:ws.getD d 0=h
 lt:ws.getD q.2 0<h
inductive O7(K:wa2)(C:Addr)(vs:List V)(H:Hp)(Q:VK)(eE:XK):Prop
 |mk (x hs ws lns) (_:vs=[.ref x]) (_:cg K C H x hs ws lns) (_:ws.length=lns.length) (_:(∀l∈lns,∀q∈l,q.2<ws.length)) (_:ws≠[]) (_:(∀h∈ws,(∀w∈ws,w<=h)->∃d i qs q,Down ws lns h d i qs q)) (_:∀(t:Addr) (h:Int) (d i:Nat) (qs:List (Str×Nat)) (q:Str×Nat) (H':Hp),a8 H H'->H' t=some (.tup [.int (d:Int),.int (i:Int)])->Down ws lns h d i qs q->Q (.ref t) H')
inductive QN(K:wa2)(vs:List V)(H:Hp)(Q:VK)(eE:XK):Prop
 |mk (a b:Addr) (many:Int) (wl:List Int) (nums:List Nat) (_:vs=[.ref a,.ref b,.int many]) (_:aM K H a (wl.map V.int)) (_:aM K H b ((nI nums).map V.int)) (_:1<=many) (_:many<=1000) (_:(nums.length:Int)=many) (_:(∀n∈nums,n<wl.length)) (_:∀(l:Addr) (i j:Nat) (H':Hp),a8 H H'->H l=none->i<j->j<=nums.length->(((nums.take j).drop i).map λn=>wl.getD n 0).sum%many=0->H' l=some (.lst ((nI ((nums.take j).drop i)).map V.int))->Q (.ref l) H')
inductive O8(K:wa2)(C:Addr)(vs:List V)(H:Hp)(Q:VK)(eE:XK):Prop
 |mk (x many hs ws lns) (_:vs=[.ref x,.int many]) (_:cg K C H x hs ws lns) (_:jb many hs ws lns) (_:oG lns many []) (_:hs≠[]) (_:hs.length<=1000) (_:(∀l∈lns,l.length<=10000)) (_:1<=many) (_:many<=1000) (_:∀(t l:Addr) (d:Nat) (ns:List Nat) (w:Int) (H':Hp),a8 H H'->H l=none->H t=none->H' t=some (.tup [.int (d:Int),.ref l,.int w])->H' l=some (.lst ((nI ns).map V.int))->eu ws lns many (d:Int) (nI ns) w=true->d<hs.length->ns.length<=1000->Q (.ref t) H')
end Sx
namespace Bs
open PySem L2 Sx
theorem yr:∀(a b:List Int),uG (a.map V.int) (b.map V.int)=decide (a=b)
 |[],[]=>rfl
 |[],_::_=>rfl
 |_::_,[]=>rfl
 |x::a,y::b=>by
  have d:=yr a b;show (se (.int x) (.int y)&&uG (a.map V.int) (b.map V.int))=_;rw[d]
  by_cases h:x=y
  ·subst h
   by_cases c:a=b
   ·subst c;have:se (.int x) (.int x)=true:=by simp[se]
    rw[this,decide_eq_true rfl,decide_eq_true rfl];rfl
   ·rw[decide_eq_false c,we1,decide_eq_false λz=>c (wgP z).2]
  ·have:se (.int x) (.int y)=false:=by simp[se,h]
   rw[this,wdp,decide_eq_false λz=>h (wgP z).1]
theorem yt(a b:List Nat):uG ((nI a).map V.int) ((nI b).map V.int)=decide (a=b):=by
 rw[yr];exact decide_eq_decide.mpr ⟨IV,λe=>by rw[e]⟩
theorem yu{p:V->Bool}{f:Nat->Bool}(h:∀n:Nat,p (.int (n:Int))=f n):∀g:List Nat,((nI g).map V.int).filter p=(nI (g.filter f)).map V.int:=by intro n;induction n<;>grind [nI,wb3,wba]
theorem vy(h:x∈(nI g).map V.int):∃n∈g,x=.int (n:Int):=by grind [nI]
theorem vz(n:Nat):((waH n).map λi=>V.int (i:Nat))=(nI (waH n)).map V.int:=by
 unfold nI;rw[wah];rfl
noncomputable def dB(rs:List Nat):List (Key×V):=rs.map λn:Nat=>((wb2 (n:Int):Key),V.bl true)
theorem zp(e:Nat):∀rs:List Nat,bA (dB rs) (wb2 (e:Int):Key)=if e∈rs then some (.bl true) else none
 |[]=>rfl
 |r::rs=>by
  have a:=zp e rs
  by_cases h:r=e
  ·subst h;rw[if_pos (waf ..)];exact cj (p:=((wb2 (r:Int):Key),V.bl true)) (r:=dB rs) rfl
  ·have hn:¬(wb2 (r:Int):Key)=wb2 (e:Int):=λz=>h (by grind);rw[show dB (r::rs)=((wb2 (r:Int):Key),V.bl true)::dB rs from rfl,ck hn,a]
   by_cases b:e∈rs
   ·grind
   ·grind
theorem IW{e:Nat}{rs:List Nat}(h:e∉rs):putK (dB rs) (wb2 (e:Int):Key) (.bl true)=dB (rs++[e]):=by
 rw[f9 _ (by rw[zp,if_neg h])];unfold dB;rw[wao];rfl
theorem Ek(rs:List Nat):((dB rs).map λg=>kV g.1)=(nI rs).map V.int:=by
 unfold dB nI;rw[wah,wah];rfl
theorem mw{n:Nat}{rs:List Nat}(nd:rs.Nodup)(h:∀r∈rs,r<n):rs.length<=n:=by
 have:=uR nd λr a=>wb5.mpr (h r a);rwa[waO]at this
theorem Lv(h:g≠[]):∃(z:Nat) (ys:List Nat),g=ys++[z]/\((nI g).map V.int)[((nI g).map V.int).length-1]?=some (.int (z:Int))/\((nI g).map V.int).dropLast=(nI ys).map V.int:=by
 refine⟨g.getLast h,g.dropLast,(wdq h).symm,?_,?_⟩
 ·have e:nI g=nI g.dropLast++[((g.getLast h:Nat):Int)]:=by
   conv=>lhs;rw[<-wdq h]
   exact rq _ _
  rw[e,wao,wa5];show (_++[V.int _])[_+1-1]?=_;rw[Nat.add_sub_cancel,waD (waa _),wbC];rfl
 ·unfold nI;rw[<-whn,<-whn]
noncomputable def kL(wl:List Int)(nums:List Nat)(j:Nat):Int:=((nums.take j).map λn=>wl.getD n 0).sum
theorem FU{wl:List Int}{g:List Nat}{j n:Nat}(h:g[j]?=some n):kL wl g (j+1)=kL wl g j+wl.getD n 0:=by
 unfold kL;rw[waN,h,wao,whT];show _+(wl.getD n 0+0)=_;omega
theorem IX(wl:List Int)(g:List Nat)(h:i<=j):(((g.take j).drop i).map λn=>wl.getD n 0).sum=kL wl g j-kL wl g i:=by grind [kL,wbT,wdI]
theorem IY{wl:List Int}{g:List Nat}{i j:Nat}{many:Int}(h:i<=j)(e:kL wl g i%many=kL wl g j%many):(((g.take j).drop i).map λn=>wl.getD n 0).sum%many=0:=by
 rw[IX wl g h];exact Int.emod_eq_emod_iff_emod_sub_eq_zero.mp e.symm
noncomputable def dR(many:Int)(p:Nat->Int)(n:Nat):List (Key×V):=(waH n).map λi:Nat=>((wb2 (p i%many):Key),V.int (i:Int))
theorem yv{κ:Type}[DecidableEq κ]{k:κ}{v:V}:∀{kvs:List (κ×V)},bA kvs k=some v->(k,v)∈kvs:=by intro kvs;induction kvs<;>grind [Hm,cj,waf,ck,wac]
theorem IZ(many:Int)(p:Nat->Int)(n:Nat)(r:Int):(bA (dR many p n) (wb2 r:Key)=none/\∀i,i<n->p i%many≠r)\/∃i,i<n/\p i%many=r/\bA (dR many p n) (wb2 r:Key)=some (.int (i:Int)):=by
 cases h:bA (dR many p n) (wb2 r:Key) with
 |none=>
  refine .inl ⟨rfl,λi hi e=>?_⟩;refine Hu h (wab.mpr ⟨((wb2 (p i%many):Key),V.int (i:Int)),wab.mpr ⟨i,wb5.mpr hi,rfl⟩,?_⟩);show (wb2 (p i%many):Key)=_;rw[e]
 |some v=>
  obtain⟨i,hi,e⟩:=wab.mp (yv h);have a:p i%many=r:=Sum.inl.inj (wc9 e).1;have b:V.int (i:Int)=v:=(wc9 e).2;exact .inr ⟨i,wb5.mp hi,a,by rw[b]⟩
theorem O9{p:Nat->Int}(h:bA (dR many p n) (wb2 (p n%many):Key)=none):putK (dR many p n) (wb2 (p n%many):Key) (.int (n:Int))=dR many p (n+1):=by
 rw[f9 _ h];unfold dR;rw[wde,wao];rfl
theorem Oa(many:Int)(p:Nat->Int)(n:Nat):(dR many p n).length=n:=by unfold dR;rw[wa0,waO]
theorem nodup_map_on{α β:Type}{f:α->β}:∀{l:List α},l.Nodup->(∀a∈l,∀b∈l,f a=f b->a=b)->(l.map f).Nodup:=by intro l;induction l<;>grind [wdn,wac,waf]
theorem Dq{many:Int}{p:Nat->Int}{n:Nat}(h0:0<many)(hn:(n:Int)=many)(hd:∀i k,i<k->k<=n->p i%many≠p k%many):False:=by
 have nd:((waH (n+1)).map λi=>(p i%many).toNat).Nodup:=nodup_map_on wfF λa ha b c e=>by
  have ha:=wb5.mp ha;have c:=wb5.mp c;have a0:=wbn (p a) (show many≠0 by omega);have f:=wbn (p b) (show many≠0 by omega);have g:p a%many=p b%many:=by grind
  rcases wfg a b with h |h |h
  ·grind
  ·exact h
  ·grind
 have:=mw (n:=n) nd λr d=>by
  obtain⟨i,_,rfl⟩:=wab.mp d;have a0:=wbn (p i) (show many≠0 by omega);have a1:=wbl (p i) h0;show (p i%many).toNat<n;omega
 rw[wa0,waO]at this;omega
theorem J0(xs:List Int)(g:i<=j)(l:j<=xs.length):m6 (xs.map V.int) (some (i:Int)) (some (j:Int))=((xs.take j).drop i).map V.int:=by grind [m6,HT.Kg,wa0,wdI,wea,wdB,wgw]
theorem El(ns:List Nat)(j:Nat):(nI ns).take j=nI (ns.take j):=by unfold nI;rw[wdB]
theorem Lw(ns:List Nat)(j:Nat):(nI ns).drop j=nI (ns.drop j):=by unfold nI;rw[wea]
noncomputable def restOf(m i0:Nat):List Nat:=(waH m).filter λn=>decide (n≠i0)
noncomputable def numsOf(m i0 k:Nat):List Nat:=i0::(restOf m i0).take k
theorem Bd:∀{m:Nat},i0<m->(restOf m i0).length=m-1
 |m+1,h=>by
  unfold restOf;rw[wde,wbw,wa5]
  by_cases e:i0=m
  ·subst e;have b:(waH i0).filter (λn=>decide (n≠i0))=waH i0:=wb6.mpr λn hn=>decide_eq_true (by grind);rw[b,wba (by simp),waO];rfl
  ·have a:=Bd (i0:=i0) (m:=m) (by omega);unfold restOf at a;rw[a,wb3 (by grind)];show m-1+1=_;omega
theorem Dr(m i0 k:Nat):(numsOf m i0 k).Nodup:=by
 unfold numsOf;refine wbF.mpr ⟨λh=>?_,(wfF.filter _).sublist (wbi _ _)⟩;have:=of_decide_eq_true (wav.mp ((wbi _ _).subset h)).2;exact this rfl
theorem zq(h:i0<m):∀n∈numsOf m i0 k,n<m:=λn hn=>by
 rcases waC.mp hn with rfl |hn
 ·exact h
 ·exact wb5.mp (wav.mp ((wbi _ _).subset hn)).1
theorem Be(h:i0<m)(hk:k+1<=m):(numsOf m i0 k).length=k+1:=by
 grind [numsOf,waK,Bd]
theorem yw(S:jb many hs ws lns)(D:Down ws lns h d i g q):many<=(g.length:Int):=by
 have a:g∈lns:=wa9 D.l;have c:=S.b d g D.l;have f:=oH (ws:=ws) (h:=h) g λp j=>D.t _ (getD_mem (by rw[S.w];exact S.e g a p j));rw[D.e]at c;have k:1<=h:=S.p h D.m;exact wf5 (wdY c f) (by omega)
theorem Ob(ws:List Int){g:List (Str×Nat)}{n:Nat}(h:n<g.length):(g.map λq=>ws.getD q.2 0).getD n 0=ws.getD (g.getD n ("",0)).2 0:=by
 rw[wa3,wa4,wa1 h,wa3 (l:=g),wa1 h];rfl
theorem Lx{many h:Int}{hs:List Str}{ws:List Int}{lns:List (List (Str×Nat))}(S:jb many hs ws lns)(m1:1<=many){d i0:Nat}{g:List (Str×Nat)}{q:Str×Nat}(D:Down ws lns h d i0 g q){i j:Nat}(p:i<j)(C:j<=(numsOf g.length i0 (many-1).toNat).length)
 (r:((((numsOf g.length i0 (many-1).toNat).take j).drop i).map λn=>(g.map λq=>ws.getD q.2 0).getD n 0).sum%many=0) :
 eu ws lns many (d:Int) (nI (((numsOf g.length i0 (many-1).toNat).take j).drop i)) (((((numsOf g.length i0 (many-1).toNat).take j).drop i).map λn=>(g.map λq=>ws.getD q.2 0).getD n 0).sum/many)=true:=by
 have b:i0<g.length:=(wa6.mp D.s).1;have hl:=yw S D;have u:=Be (k:=(many-1).toNat) b (by omega);have c:=Dr g.length i0 (many-1).toNat;have f:=zq (k:=(many-1).toNat) b;have m:i0∈numsOf g.length i0 (many-1).toNat:=waf ..;generalize numsOf g.length i0 (many-1).toNat=a at *;have sub:((a.take j).drop i).Sublist a:=(whp _ _).trans (wbi _ _);have len:((a.take j).drop i).length=j-i:=by rw[wbp,wak];omega
 have o:∀n∈(a.take j).drop i,n<g.length:=λn hn=>f n (sub.subset hn);have e:((a.take j).drop i).map (λn=>(g.map λq=>ws.getD q.2 0).getD n 0)=((a.take j).drop i).map λn=>ws.getD (g.getD n ("",0)).2 0:=wb7 λn hn=>Ob ws (o n hn);rw[e]at r ⊢;have v:g.getD i0 ("",0)=q:=by rw[wa3,D.s];rfl
 refine FO S (i0:=i0) D.t D.l D.e m1 (c.sublist sub) o (λz=>?_) ?_ (λz=>?_) (by rw[v];exact D.lt) ?_
 ·rw[z]at len;have:(0:Nat)=j-i:=len;omega
 ·rw[len];omega
 ·have w:(a.take j).drop i=a:=sub.eq_of_length (by grind);rw[w];exact m
 ·have:=wgx ((((a.take j).drop i).map λn=>ws.getD (g.getD n ("",0)).2 0).sum) many;omega
end Bs
namespace L2
open PySem
theorem Ly{X:Cx}(g:X.K=K):OY X (Q3 K):=by
 subst g;exact fI
end L2
namespace Bs
open PySem L2 Sx
structure ui(g:Str)(ws ss ls:List Str)(many:Int)(n:Nat)(f:Str->Int):Prop where
 gr:∃most:Int,1<=most/\most<=8/\nO g ws ss ls many n most f/\∀(m:Int) (h:Str->Int),1<=m->m<most->nO g ws ss ls many n m h->(ls.map h).sum=0
 ps:0<(ls.map f).sum
 le:(ls.map f).sum<=40
def zr(g:Str)(ws ss ls:List Str)(many:Int)(n:Nat):Prop:=∃most:Int,1<=most/\most<=9/\(∀(m:Int) (h:Str->Int),1<=m->m<most->nO g ws ss ls many n m h->(ls.map h).sum=0)/\(most=9\/∃f,nO g ws ss ls many n most f/\40<(ls.map f).sum)
theorem FV{f h:Str->Int}(a:nO g ws ss ls many n most f)(b:nO g ws ss ls many n most h):∀p∈ls,f p=h p:=λp c=>by
 have d:=a.top h b.le b.fit p c;have e:=b.top f a.le a.fit p c;omega
theorem FW{f h:Str->Int}(a:nO g ws ss ls many n most f)(b:nO g ws ss ls many n most h):(ls.map f).sum=(ls.map h).sum:=congrArg List.sum (wb7 λp c=>FV a b p c)
theorem Ds(f:Str->Int)(ls:List Str):(bG (cz f ls)).map (·.2)=(ls.map f).map V.int:=by simp_all [bG,cz,wah]
theorem Lz{R:Addr->Prop}:(∀y∈ys,∃q,y=.ref q/\R q)->∃ps:List Addr,ys=ps.map V.ref/\∀q∈ps,R q:=by
 induction ys with
 |nil=>exact λ_=>⟨[],rfl,λq h=>nomatch h⟩
 |cons y ys a=>
  intro h;obtain⟨q,rfl,c⟩:=h y (waf ..);obtain⟨ps,rfl,d⟩:=a λz b=>h z (wac _ b)
  exact⟨q::ps,rfl,λr e=>by
   grind⟩
end Bs
namespace Sx
open PySem L2 Bs
inductive J1(C CO:Addr)(vs:List V)(H:Hp)(Q:VK)(E:XK):Prop
 |mk (x:Addr) (many:Int) (n:Nat) (g:Str) (ws ss ls:List Str) (_:vs=[.ref x,.int many,.int (n:Int)]) (_:aX C H x g ws ss ls) (_:2<=g.length) (_:g.length<=10) (_:ss.length<=900) (_:gA g.length many n) (_:(∀(d:Addr) (f:Str->Int) (H':Hp),a8 H H'->H d=none->H' d=some (.dK (bG (cz f ls)))->ui g ws ss ls many n f->Q (.ref d) H')) (_:(zr g ws ss ls many n->∀H',a8 H H'->E (.ref CO) none H'))
inductive J4(C:Addr)(vs:List V)(H:Hp)(Q:VK)(eE:XK):Prop
 |mk (x d:Addr) (many:Int) (n:Nat) (f:Str->Int) (g:Str) (ws ss ls:List Str) (_:vs=[.ref x,.int many,.int (n:Int),.ref d]) (_:aX C H x g ws ss ls) (_:(∀w∈ws,1<=w.length)) (_:(ch g).Nodup) (_:2<=g.length) (_:g.length<=10) (_:ss.length<=900) (_:gA g.length many n) (_:H d=some (.dK (bG (cz f ls)))) (_:(∀p∈ls,0<=f p)) (_:GA g ws ss ls many n f) (_:0<(ls.map f).sum) (_:∀(dl:Addr) (f':Str->Int) (H':Hp),(∀c o,H c=some o->c≠d->H' c=some o)->H dl=none->H' dl=some (.dK (bG (cz f' ls)))->(∀p∈ls,0<=f' p)->GA g ws ss ls many n f'->0<(ls.map f').sum->(∀p∈ls,f' p<=f p)->(ls.map f').sum<=(ls.map f).sum->Q (.ref dl) H')
end Sx
namespace L2
open PySem Sx Bs
theorem FX{Ok:Hp->Prop}{Q:Hp->Prop}(R:Nat->V->Hp->Prop)(I:∀i y T g ys,R i y T->T l=some (.lst ys)->(∀b o,T b=some o->b≠l->g b=some o)->R i y g)(U:lY J Ok xs)(hl:H l=none)(hz:xs.length<=sizeLine)(t:∀r,a8 H r->Ok r)
 (he:∀i x C ys,xs[i]?=some x->a8 H C->C l=some (.lst ys)->∃p a b c,x=.ref p/\gL K C p [a,b,c]/\∀Q',(∀y r,a8 C r->R i y r->Q' y r)->te (some a::some b::some c::σf) C Q')
 (hd:∀ys r,a8 H r->r l=some (.lst ys)->ys.length=xs.length->(∀i y,ys[i]?=some y->R i y r)->Q r):vn K J l σf wO te H Q:=by
 refine⟨λi m d g=>m=xs.length-i/\i<=xs.length/\a8 H g/\g l=some (.lst d)/\d.length=i/\∀j y,d[j]?=some y->R j y g,⟨xs.length,by simp,waB _,a8.upd hl,a6,rfl,λj y h=>by simp at h⟩,?_⟩;rintro i m d g ⟨rfl,hi,n,q,f,E⟩;refine⟨q,?_⟩
 by_cases k:i<xs.length
 ·refine .inr ⟨U.go i g (t _ n) k,by rw[f];omega,λx C y=>?_⟩;obtain⟨e,G⟩:=U.u0 i g x C (t _ n) k y;subst e;obtain⟨p,a,b,c,rfl,L,M⟩:=he i x _ d G n q;refine⟨p,a,b,c,rfl,L,?_⟩;unfold wO;dsimp only;rw[if_pos rfl];refine M _ λy v w A=>⟨w _ _ q,xs.length-(i+1),by omega,rfl,k,λb o e=>?_,a6,by rw[wa5,f];rfl,λj z s=>?_⟩
  ·rw[ae (af e hl)];exact w _ _ (n _ _ e)
  ·have u:=w _ _ q;have kp:∀b o,v b=some o->b≠l->(upd v l (.lst (d++[y]))) b=some o:=λb o e N=>by rw[ae N];exact e
   by_cases B:j<d.length
   ·rw[waF B]at s;exact I j z v _ _ (I j z _ _ _ (E j z s) q λb o e _=>w _ _ e) u kp
   ·rw[waD (by omega)]at s
    have D:j-d.length=0:=by
     have:=(wa6.mp s).1;simp at this;omega
    rw[D]at s;cases s;have:j=i:=by omega
    rw[this];exact I i y v _ _ A u kp
 ·have e:i=xs.length:=by omega
  subst e;exact .inl ⟨U.stop g (t _ n),hd d g n q f E⟩
theorem J5{Ok:Hp->Prop}{Q:Hp->Prop}(t:List kF)(hJ:lY J Ok xs)(hl:H l=none)(hz:xs.length<=sizeLine)(C:t.length=xs.length)(T:∀g,a8 H g->Ok g)
 (he:∀(i:Nat) (x:V) (d:kF) j,xs[i]?=some x->t[i]?=some d->a8 H j->∃p a b c,x=.ref p/\gL K j p [a,b,c]/\∀I,(∀y g,a8 j g->bL K (aJ j g) d y->I y g)->te (some a::some b::some c::U) j I)
 (hd:∀g,a8 H g->bL K (aJ H g) (.lst t) (.ref l)->Q g):vn K J l U wO te H Q:=by
 refine FX (λi y g=>∀d,t[i]?=some d->∃j o,a8 H j/\j l=some o/\bL K (aJ j g) d y) ?_ hJ hl hz T (λi x j n s h k=>?_) (λn g q u m v=>?_)
 ·intro i y E G n r w kp d f;obtain⟨j,o,h,k,r⟩:=r d f;exact⟨j,o,h,k,bL.same (bR k kp) d y r⟩
 ·have hi:i<t.length:=by rw[C];exact(wa6.mp s).1
  obtain⟨p,a,b,c,e,z,A⟩:=he i x t[i] j s (wa1 hi) h;refine⟨p,a,b,c,e,z,λI B=>A I λy g q r=>B y g q λd f=>?_⟩;rw[wa1 hi]at f;cases f;exact⟨j,_,h,k,r⟩
 ·refine hd g q ⟨l,n,rfl,.inl (bX hl u),bo.rj t n (by rw[C,m]) λi d y f D=>?_⟩;obtain⟨j,o,h,k,r⟩:=v i y D d f;exact bL.same (eP h) d y r
end L2
namespace Bs
open PySem L2 Sx
noncomputable abbrev zt:=Nat×List Nat×Int
noncomputable def zu(s:zt):kF:=.tup [.at (.int (s.1:Int)),nP (nI s.2.1),.at (.int s.2.2)]
set_option genInjectivity true in
inductive Runs(many:Int)(SD:List Str)(SE:List Int)(LA:List (List (Str×Nat))):List zt->List Str->List Int->List (List (Str×Nat))->Prop
 |nil:Runs many SD SE LA [] SD SE LA
 |snoc {l:List zt} {hs:List Str} {ws:List Int} {lns:List (List (Str×Nat))} {d:Nat} {ns:List Nat} {w:Int}:Runs many SD SE LA l hs ws lns->eu ws lns many (d:Int) (nI ns) w=true->Runs many SD SE LA (l++[(d,ns,w)]) (cR hs d) (cx ws d w) (dN lns d (nI ns))
noncomputable def sN(a:Addr):List (Str×V):=[("weights",.ref a)]
noncomputable def pD(a b:Addr):List (Str×V):=[("weights",.ref a),("splits",.ref b)]
noncomputable def sP(a b c:Addr):List (Str×V):=[("weights",.ref a),("splits",.ref b),("kept",.ref c)]
noncomputable def vA(a b c d:Addr):List (Str×V):=[("weights",.ref a),("splits",.ref b),("kept",.ref c),("last",.ref d)]
theorem QO(a:Addr):cH "weights" (.ref a) []=sN a:=rfl
theorem My(a b:Addr):cH "splits" (.ref b) (sN a)=pD a b:=by
 show (if ("weights":Str)="splits" then _ else(("weights":Str),V.ref a)::cH "splits" (.ref b) [])=_;rw[if_neg (by decide+kernel)];rfl
theorem J6(a b c:Addr):cH "kept" (.ref c) (pD a b)=sP a b c:=by
 show (if ("weights":Str)="kept" then _ else(("weights":Str),V.ref a)::(if ("splits":Str)="kept" then _ else(("splits":Str),V.ref b)::cH "kept" (.ref c) []))=_;rw[if_neg (by decide+kernel),if_neg (by decide+kernel)];rfl
theorem Em(a b c d:Addr):cH "last" (.ref d) (sP a b c)=vA a b c d:=by
 show (if ("weights":Str)="last" then _ else(("weights":Str),V.ref a)::(if ("splits":Str)="last" then _ else(("splits":Str),V.ref b)::(if ("kept":Str)="last" then _ else(("kept":Str),V.ref c)::cH "last" (.ref d) [])))=_;rw[if_neg (by decide+kernel),if_neg (by decide+kernel),if_neg (by decide+kernel)];rfl
theorem Dt(a b c d:Addr):(vA a b c d).lookup ("last":Str)=some (.ref d):=by
 rw[<-Em,aE,if_pos rfl]
theorem Du(a b c d:Addr):(vA a b c d).lookup ("kept":Str)=some (.ref c):=by
 rw[<-Em,aE,if_neg (by decide+kernel),<-J6,aE,if_pos rfl]
theorem zv(a b c d:Addr):(vA a b c d).lookup ("splits":Str)=some (.ref b):=by
 rw[<-Em,aE,if_neg (by decide+kernel),<-J6,aE,if_neg (by decide+kernel),<-My,aE,if_pos rfl]
structure oJ(K:wa2)(C CS:Addr)(H:Hp)(x:Addr)(m:List (Str×Int))(qM:List zt)(ks:List Nat)(hs:List Str)(ws:List Int)(lns:List (List (Str×Nat))):Prop where
 ex:∃dx a b c d,H x=some (.ins C dx (vA a b c d))/\H a=some (.dK (bG m))/\bL K H (.lst (qM.map zu)) (.ref b)/\bL K H (nP (nI ks)) (.ref c)/\cg K CS H d hs ws lns
theorem oJ.same(h:oJ K C j H x m g l hs ws lns)(s:a8 H p):oJ K C j p x m g l hs ws lns:=by
 obtain⟨e,a,b,c,d,f,i,k,n,o⟩:=h;exact⟨e,a,b,c,d,s _ _ f,s _ _ i,bL.same s _ _ k,bL.same s _ _ n,o.same s⟩
theorem pE(s:a8 H g):a8 (fH H b) (fH g b):=λc o e=>by
 unfold fH at e ⊢
 by_cases h:c=b
 ·rw[if_pos h]at e;cases e
 ·rw[if_neg h]at e ⊢;exact s _ _ e
theorem LC:fH (upd H b o) b=fH H b:=by
 funext c;unfold fH
 by_cases h:c=b
 ·rw[if_pos h,if_pos h]
 ·rw[if_neg h,if_neg h,ae h]
theorem vB:a8 (fH H b) H:=fh λ_ _ e _=>e
theorem En(h:H b=some o):a8 (aJ H g) (fH g b):=by grind [a8,fH,bZ,gC,aJ]
theorem Bf(s:a8 H g)(h:H b=none):a8 H (fH g b):=λc o e=>gC (s _ _ e) (af e h)
theorem Eo(g:H t=some (.tup [.int (d:Int),.ref l,.int w]))(j:H l=some (.lst ((nI ns).map V.int))):bL K H (zu (d,ns,w)) (.ref t):=
 ⟨t,_,rfl,g,_,_,rfl,⟨rfl,rfl⟩,_,_,rfl,jH j,_,_,rfl,⟨rfl,rfl⟩,rfl⟩
structure i5(g:Str)(bw ss ls:List Str)(many:Int)(n:Nat)(f:Str->Int)(qM:List zt)(ks:List Nat)(hs:List Str)(ws:List Int)(lns:List (List (Str×Nat))):Prop where
 nn:∀p∈ls,0<=f p
 le:∀p∈ls,f p<=8
 fit:GA g bw ss ls many n f
 ps:0<(ls.map f).sum
 m:(ls.map f).sum<=40
 rn:Runs many (ao ls f) ((ao ls f).map f) (bB g bw ss ls n (ao ls f)) qM hs ws lns
 b:jb many hs ws lns
 cv:wZ (aT g bw ss ls n) hs lns
 ln:hs.length<=40
 ko:oG lns many ks
 ne:ks≠[]
 sl:qM.length<=40
 sb:∀p∈hs,p∈ls
end Bs
namespace Sx
open PySem L2 Bs
inductive J7(K:wa2)(C:Addr)(vs:List V)(H:Hp)(Q:VK)(eE:XK):Prop
 |mk (x hs ws lns) (_:vs=[.ref x]) (_:cg K C H x hs ws lns) (_:hs.length<=10000) (_:ws.length<=10000) (_:lns.length<=10000) (_:(∀l∈lns,l.length<=10000)) (_:∀y H',a8 H H'->cg K C (aJ H H') y hs ws lns->Q (.ref y) H')
inductive LD(K:wa2)(C CS:Addr)(vs:List V)(H:Hp)(Q:VK)(eE:XK):Prop
 |mk (x dx d z:Addr) (u v:V) (m:List (Str×Int)) (qM:List zt) (ks:List Nat) (hs:List Str) (ws:List Int) (lns:List (List (Str×Nat))) (_:vs=[.ref x,.ref d,u,v,.ref z]) (_:H x=some (.ins C dx [])) (_:Rd H d (.dK (bG m))) (_:bL K H (.lst (qM.map zu)) u) (_:bL K H (nP (nI ks)) v) (_:cg K CS H z hs ws lns) (_:hs.length<=10000) (_:ws.length<=10000) (_:lns.length<=10000) (_:(∀l∈lns,l.length<=10000)) (_:qM.length<=10000) (_:∀a b c y H',H' x=some (.ins C dx (vA a b c y))->H a=none->H' a=some (.dK (bG m))->bL K (aJ H H') (.lst (qM.map zu)) (.ref b)->bL K (aJ H H') (nP (nI ks)) (.ref c)->cg K CS (aJ H H') y hs ws lns->(∀b o,H b=some o->b≠x->H' b=some o)->Q .non H')
inductive FY(K:wa2)(C CS:Addr)(vs:List V)(H:Hp)(Q:VK)(eE:XK):Prop
 |mk (x m qM ks hs ws lns) (_:vs=[.ref x]) (_:oJ K C CS H x m qM ks hs ws lns) (_:hs.length<=10000) (_:ws.length<=10000) (_:lns.length<=10000) (_:(∀l∈lns,l.length<=10000)) (_:∀y H',a8 H H'->cg K CS (aJ H H') y hs ws lns->Q (.ref y) H')
end Sx
namespace L2
open PySem PySem.Spec PyProof.Rows
theorem under(n:Nat){P:Int->Prop}(h:∀k:Fin n,P ((k.val:Nat):Int))(d:Int)(a:0<=d)(b:d<(n:Int)):P d:=by
 obtain⟨k,rfl⟩:=wfM a;exact h ⟨k,Int.ofNat_lt.mp b⟩
theorem ax{X:Cx}(ys:List Str)(ix:List Nat)(h:oy X.env.scope scope X.N x ys ix=true:=by kernel_rfl):bV X scope x ys ix:=Cv rfl rfl h
end L2
namespace Bs
open PySem L2 Sx
theorem vC:∀{ws:List Int},(∀w∈ws,1<=w)->(ws.length:Int)<=ws.sum
 |[],_=>weR _
 |w::ws,h=>by
  have h0:=h w (waf ..);have b:=vC (ws:=ws) λx a=>h x (wac _ a);rw[wbt,waK];omega
structure fo(g:Str)(bw ss ls:List Str)(many:Int)(n:Nat)(f:Str->Int)(qM:List zt)(hs:List Str)(ws:List Int)(lns:List (List (Str×Nat))):Prop where
 rn:Runs many (ao ls f) ((ao ls f).map f) (bB g bw ss ls n (ao ls f)) qM hs ws lns
 b:jb many hs ws lns
 cv:wZ (aT g bw ss ls n) hs lns
 sm:ws.sum=(ls.map f).sum
 sl:qM.length+(ao ls f).length=hs.length
 sb:∀p∈hs,p∈ls
theorem fo.start{f:Str->Int}(nd:(ch g).Nodup)(j:ss.Perm (bQ bw "" bw))(hw:∀w∈bw,1<=w.length)(l:∀p∈ls,p∈ss)(hl:ls.Nodup)(hn:∀p∈ls,0<=f p)(r:GA g bw ss ls many n f) :
 fo g bw ss ls many n f [] (ao ls f) ((ao ls f).map f) (bB g bw ss ls n (ao ls f)):=
 ⟨.nil,jb.first hn r,wZ.first nd j hw (λp j=>l p (wav.mp j).1) (hl.filter _),yn hn,whb _,λp j=>(wav.mp j).1⟩
theorem fo.step{g:Str}{bw ss ls:List Str}{many:Int}{n:Nat}{f:Str->Int}{j:List zt}{hs:List Str}{ws:List Int}{lns:List (List (Str×Nat))}(h:fo g bw ss ls many n f j hs ws lns){d:Nat}{ns:List Nat}{w:Int}(ok:eu ws lns many (d:Int) (nI ns) w=true) :
 fo g bw ss ls many n f (j++[(d,ns,w)]) (cR hs d) (cx ws d w) (dN lns d (nI ns)):=by
 obtain⟨b,hd⟩:=h.b.split ok;have hw:=h.b.w;have hl:=h.b.l;refine⟨.snoc h.rn ok,b,h.cv.split hl h.b.e hd (nI ns),?_,?_,λp a=>?_⟩
 ·rw[Dd (by omega)];exact h.sm
 ·have:=h.sl;unfold cR;rw[wa5,wa5];show j.length+1+_=hs.length+1;omega
 ·unfold cR at a;rcases waA.mp a with a |a
  ·exact h.sb p a
  ·rw[wat.mp a,wa3,wa1 hd];exact h.sb _ (waL hd)
theorem fo.len{f:Str->Int}(h:fo g bw ss ls many n f j hs ws lns):(hs.length:Int)<=(ls.map f).sum:=by
 have:=vC h.b.p;have a:=h.sm;have c:=h.b.w;omega
theorem fo.whole{f:Str->Int}(h:fo g bw ss ls many n f r hs ws lns)(t:(ls.map f).sum<=40)(j:g.length^n<=64):Mv hs ws lns:=by
 have hl:=h.len;refine⟨h.b.w,h.b.l,h.b.e,by omega,λl a=>?_⟩;have c:=h.cv.line h.b.l (b:=64) (λp=>waj (gB g bw ss ls n p) j) l a;have d:64*hs.length<=64*40:=wc7 _ (by omega);omega
def FZ(g:Str)(bw ss:List Str)(many:Int)(n:Nat):Prop:=∀j:Nat,1<=j->(j:Int)<=24->¬iB g bw ss (j*n) "" < many^j
end Bs
namespace Sx
open PySem L2 Bs
def Uh(CX:Addr)(g:Str)(bw ss:List Str)(many:Int)(n:Nat)(H:Hp)(E:XK):Prop:=∀(k:Nat) (d:Addr) (H':Hp),Sw g bw ss many n 24 (.int (k:Nat))->a8 H H'->H d=none->H' d=some (.xd [("length",.int (k:Nat)),("rows",.int (iB g bw ss (k*n) ""))])->E (.ref CX) (some d) H'
inductive LI(C CX:Addr)(vs:List V)(H:Hp)(Q:VK)(E:XK):Prop
 |mk (x:Addr) (many:Int) (n:Nat) (g:Str) (bw ss ls:List Str) (_:vs=[.ref x,.int many,.int (n:Int)]) (_:aX C H x g bw ss ls) (_:g.length<=10) (_:ss.length<=900) (_:gA g.length many n) (_:(FZ g bw ss many n->∀H',a8 H H'->Q .non H')) (_:Uh CX g bw ss many n H E)
inductive J8(K:wa2)(C CP CS CX CO:Addr)(vs:List V)(H:Hp)(Q:VK)(E:XK):Prop
 |mk (x:Addr) (many:Int) (n:Nat) (g:Str) (bw ss ls:List Str) (_:vs=[.ref x,.int many,.int (n:Int)]) (_:aX C H x g bw ss ls) (_:(∀w∈bw,1<=w.length)) (_:(ch g).Nodup) (_:2<=g.length) (_:g.length<=10) (_:ss.length<=900) (_:gA g.length many n) (_:(FZ g bw ss many n->∀(y:Addr) (f0 f:Str->Int) (qM:List zt) (ks:List Nat) (hs:List Str) (ws:List Int) (lns:List (List (Str×Nat))) (H':Hp),a8 H H'->oJ K CP CS (aJ H H') y (cz f ls) qM ks hs ws lns->ui g bw ss ls many n f0->(∀p∈ls,f p<=f0 p)->i5 g bw ss ls many n f qM ks hs ws lns->Q (.ref y) H')) (_:Uh CX g bw ss many n H E) (_:(FZ g bw ss many n->zr g bw ss ls many n->∀H',a8 H H'->E (.ref CO) none H'))
end Sx
namespace K53
open PySem L2 Bs Sx
noncomputable def top(i:Nat):Stmt:=PySem.Challenge.pw_bandscribe_k53_whole_one_word_a_window.main.body.getD i (.Pass ⟨0,0,0,0⟩)
theorem dA{CX P w K mg base N q g f cd A o s H E}:(uz CX P w K mg base N q g f cd A o s H E).K=K:=rfl
theorem dC{X:Cx}{f}:(X.om f).K=X.K:=rfl
theorem yx{t u:TS}{n b c:St->Hp->Prop}{r:VK}{σ:St}{H:Hp}(h:∀R:St->Hp->Prop,(∀σ H,u ⟨n,r,b,c⟩ σ H->R σ H)->t ⟨R,r,b,c⟩ σ H):MZ t u ⟨n,r,b,c⟩ σ H:=h _ λ_ _ x=>x
theorem b6{x p y q e}:(wds [.Name x p,.Name y q] e).length=2:=rfl
theorem b7{x p y q z r e}:(wds [.Name x p,.Name y q,.Name z r] e).length=3:=rfl
structure Txt(mg:Str->Option Value):Prop where
 «all»:mg "all"=none
 «any»:mg "any"=none
 «bool»:mg "bool"=none
 «dict»:mg "dict"=none
 «enum»:mg "enumerate"=none
 «int»:mg "int"=none
 «LJ»:mg "isinstance"=none
 «len»:mg "len"=none
 «list»:mg "list"=none
 «max»:mg "max"=none
 «min»:mg "min"=none
 «range»:mg "range"=none
 «reversed»:mg "reversed"=none
 «set»:mg "set"=none
 «sorted»:mg "sorted"=none
 «str»:mg "str"=none
 «sum»:mg "sum"=none
structure J9(K:wa2)(C:Addr):Prop where
 cl:BV K C
 fN:bU K C "homes"
 dj:bU K C "weights"
 cN:bU K C "lines"
structure LK(K:wa2)(C:Addr):Prop where
 cl:BV K C
 dj:bU K C "weights"
 Bg:bU K C "splits"
 Ja:bU K C "kept"
 Jb:bU K C "last"
structure G0(K:wa2)(C:Addr):Prop where
 cl:BV K C
 pF:bU K C "scheme"
 vD:bU K C "band"
 Jc:bU K C "many"
 rx:bU K C "wide"
 fN:bU K C "homes"
 cN:bU K C "lines"
 ry:bU K C "opening"
 Ep:bU K C "first"
structure LL(K:wa2)(C:Addr):Prop where
 cl:BV K C
 pG:bU K C "signs"
 vE:bU K C "barred"
 kM:bU K C "moves"
 rz:bU K C "lasting"
structure G1(K:wa2)(C:Addr):Prop where
 cl:BV K C
 cK:bU K C "writer"
 Er:bU K C "pairs"
structure Lk(K:wa2)(mg:Str->Option Value) where
 T:Txt mg
 vF:Addr
 vG:wad
 iT:FnAt K mg "is_whole" (top 16) ["thing"] vF vG
 vH:Addr
 vI:wad
 oK:FnAt K mg "all_rows" (top 18) ["band","wide"] vH vI
 yy:Addr
 yz:wad
 rA:FnAt K mg "is_rate" (top 19) ["band","many","wide"] yy yz
 pH:Addr
 pI:wad
 eQ:FnAt K mg "check_rate" (top 20) ["band","many","wide"] pH pI
 nR:Addr
 nT:wad
 jo:FnAt K mg "longer_rows" (top 21) ["band","rows"] nR nT
 nU:Addr
 nV:wad
 gO:FnAt K mg "blocks_from" (top 22) ["band","place","wide"] nU nV
 sQ:Addr
 sR:wad
 mx:FnAt K mg "ends_from" (top 24) ["band","place"] sQ sR
 vJ:Addr
 vK:wad
 oM:FnAt K mg "all_ends" (top 25) ["band"] vJ vK
 my:Addr
 mz:wad
 fO:FnAt K mg "counts_up_to" (top 26) ["band","length"] my mz
 pJ:Addr
 pK:wad
 kP:FnAt K mg "count_from" (top 27) ["band","place","length"] pJ pK
 Es:Addr
 Et:wad
 zx:FnAt K mg "count" (top 28) ["band","length"] Es Et
 pL:Addr
 pM:wad
 kQ:FnAt K mg "block_ends" (top 30) ["band","wide"] pL pM
 sS:Addr
 sT:wad
 mB:FnAt K mg "weight_of" (top 31) ["places","weights"] sS sT
 yA:Addr
 yB:wad
 rB:FnAt K mg "lowered" (top 32) ["ends","many","weights"] yA yB
 oN:Addr
 vL:wad
 oO:FnAt K mg "greatest" (top 33) ["band","many","wide","most"] oN vL
 Bh:Addr
 Bi:wad
 vM:FnAt K mg "scarce" (top 34) ["band","many","wide","most"] Bh Bi
 mC:Addr
 mD:wad
 iU:FnAt K mg "copied_steps" (top 36) ["line"] mC mD
 gE:Addr
 jI:wad
 nW:Addr
 nX:wad
 gP:FnAt K mg "first_sheet" (top 38) ["band","many","wide","weights"] nW nX
 mE:Addr
 mF:wad
 fP:FnAt K mg "is_number_of" (top 39) ["number","things"] mE mF
 pN:Addr
 pO:wad
 d2:FnAt K mg "check_part" (top 40) ["sheet","many","steps","weight"] pN pO
 pP:Addr
 pQ:wad
 kR:FnAt K mg "with_twins" (top 41) ["line","desk","twin"] pP pQ
 Eu:Addr
 Ew:wad
 pR:FnAt K mg "split" (top 42) ["sheet","many","desk","numbers","weight"] Eu Ew
 mG:Addr
 mH:wad
 fQ:FnAt K mg "copied_sheet" (top 47) ["sheet"] mG mH
 i6:Addr
 lG:wad
 pT:Addr
 pU:wad
 iV:Addr
 iW:wad
 cL:FnAt K mg "check_not_scarce" (top 49) ["band","many","wide"] iV iW
 fB:Addr
 fC:wad
 bM:FnAt K mg "weights_of_least_most" (top 50) ["band","many","wide"] fB fC
 mI:Addr
 mJ:wad
 iX:FnAt K mg "reached_from" (top 51) ["sheet","desk"] mI mJ
 jJ:Addr
 jK:wad
 gF:FnAt K mg "closed_weights" (top 52) ["band","many","wide","weights"] jJ jK
 pV:Addr
 pW:wad
 iC:FnAt K mg "steps_into" (top 53) ["line","desks"] pV pW
 kT:Addr
 pX:wad
 iD:FnAt K mg "kept_desks" (top 54) ["sheet","many"] kT pX
 sU:Addr
 sV:wad
 mK:FnAt K mg "step_down" (top 55) ["sheet"] sU sV
 Bj:Addr
 Bk:wad
 vN:FnAt K mg "run_by" (top 56) ["weights","numbers","many"] Bj Bk
 pY:Addr
 pZ:wad
 kU:FnAt K mg "next_split" (top 57) ["sheet","many"] pY pZ
 yC:Addr
 yD:wad
 jL:FnAt K mg "plan_of" (top 58) ["band","many","wide"] yC yD
 lH:Addr
 lI:wad
 i7:FnAt K mg "blocks_behind" (top 60) ["band","wide"] lH lI
 fR:Addr
 fS:wad
 dO:FnAt K mg "steps_by_new_numbers" (top 61) ["line","kept","many"] fR fS
 q0:Addr
 q8:wad
 kW:FnAt K mg "check_data" (top 62) ["data","many"] q0 q8
 Bl:Addr
 Bm:wad
 q9:FnAt K mg "walked" (top 63) ["lines","desk","data"] Bl Bm
 fT:Addr
 jc:wad
 lJ:Addr
 lK:wad
 mL:Addr
 mM:wad
 vO:Addr
 vP:wad
 nY:Addr
 nZ:wad
 mN:Addr
 mO:wad
 jd:Addr
 je:wad
 mP:Addr
 mQ:wad
 mR:Addr
 mS:wad
 sW:Addr
 sX:wad
 jf:FnAt K mg "all_among" (top 67) ["text","signs"] sW sX
 sY:Addr
 sZ:wad
 mU:FnAt K mg "are_signs" (top 68) ["thing"] sY sZ
 yE:Addr
 yF:wad
 rD:FnAt K mg "is_word" (top 69) ["thing","signs"] yE yF
 mV:Addr
 mW:wad
 iY:FnAt K mg "check_barred" (top 70) ["barred","signs"] mV mW
 mX:Addr
 mY:wad
 eJ:FnAt K mg "bears_barred" (top 71) ["row","barred"] mX mY
 lL:Addr
 lM:wad
 i9:FnAt K mg "sorted_places" (top 72) ["barred"] lL lM
 o1:Addr
 o4:wad
 jq:FnAt K mg "longest_end" (top 73) ["row","places"] o1 o4
 qc:Addr
 qe:wad
 kX:FnAt K mg "moves_from" (top 74) ["place","signs","barred","places"] qc qe
 qf:Addr
 qg:wad
 kY:FnAt K mg "leads_into" (top 75) ["ends","lot"] qf qg
 kZ:Addr
 qh:wad
 lj:FnAt K mg "live_among" (top 76) ["moves"] kZ qh
 ia:Addr
 lN:wad
 jM:Addr
 jN:wad
 iZ:Addr
 j0:wad
 jg:Addr
 jh:wad
 mZ:Addr
 n0:wad
 o6:Addr
 o7:wad
 t5:Addr
 t6:wad
 lO:Addr
 lP:wad
 vQ:Addr
 vR:wad
 n6:Addr
 n7:wad
 lQ:Addr
 lR:wad
 ib:FnAt K mg "steps_by_word" (top 79) ["writer"] lQ lR
 qi:Addr
 qj:wad
 lq:FnAt K mg "desks_into" (top 80) ["pairs","ends"] qi qj
 fU:Addr
 ji:wad
 eT:Addr
 eU:wad
 fD:Addr
 fE:wad
 gn:Addr
 gp:wad
 jO:Addr
 jP:wad
 qk:Addr
 ql:wad
 x9:Addr
 xa:wad
 t7:Addr
 t8:wad
 hU:FnAt K mg "_law_here" (top 83) ["_law_script","_law_place"] t7 t8
 o8:Addr
 o9:wad
 gQ:FnAt K mg "_law_shaken" (top 84) ["_law_cell","_law_many"] o8 o9
 t9:Addr
 tf:wad
 n8:FnAt K mg "_law_band" (top 85) ["_law_script"] t9 tf
 tj:Addr
 tq:wad
 n9:FnAt K mg "_law_rate" (top 86) ["_law_script","_law_signs"] tj tq
 tu:Addr
 tD:wad
 nc:FnAt K mg "_law_told" (top 87) ["_law_signs","_law_words","_law_many","_law_wide"] tu tD
 aA:Addr
 uj:mg "Sheet"=some (.ref aA)
 ay:J9 K aA
 qm:Mk K aA gE
 aR:Addr
 Jd:mg "Plan"=some (.ref aR)
 df:LK K aR
 Ex:Mk K aR i6
 ak:Addr
 Bn:mg "Writer"=some (.ref ak)
 aj:G0 K ak
 yG:Mk K ak fT
 az:Addr
 Je:mg "Band"=some (.ref az)
 aG:LL K az
 Ey:Mk K az ia
 aL:Addr
 Bo:mg "Reader"=some (.ref aL)
 aF:G1 K aL
 yH:Mk K aL fU
 dm:cP K aA "__init__" "Sheet.__init__" (inClass (top 37) 0) ["self","homes","weights","lines"] gE jI
 ic:cP K aR "__init__" "Plan.__init__" (inClass (top 48) 0) ["self","weights","splits","kept","last"] i6 lG
 iE:cP K aR "sheet" "Plan.sheet" (inClass (top 48) 1) ["self"] pT pU
 fV:cP K ak "__init__" "Writer.__init__" (inClass (top 64) 0) ["self","band","many","wide"] fT jc
 b5:cP K ak "behind" "Writer.behind" (inClass (top 64) 1) ["self"] lJ lK
 cp:cP K ak "ahead" "Writer.ahead" (inClass (top 64) 2) ["self"] mL mM
 vS:cP K ak "start" "Writer.start" (inClass (top 64) 3) ["self"] vO vP
 gR:cP K ak "lead" "Writer.lead" (inClass (top 64) 4) ["self"] nY nZ
 cq:cP K ak "desks" "Writer.desks" (inClass (top 64) 5) ["self"] mN mO
 ez:cP K ak "place_at" "Writer.place_at" (inClass (top 64) 6) ["self","desk"] jd je
 dn:cP K ak "steps" "Writer.steps" (inClass (top 64) 7) ["self","desk"] mP mQ
 fW:cP K ak "write" "Writer.write" (inClass (top 64) 8) ["self","data"] mR mS
 ie:cP K az "__init__" "Band.__init__" (inClass (top 77) 0) ["self","signs","barred"] ia lN
 bN:cP K az "check_row" "Band.check_row" (inClass (top 77) 1) ["self","row"] jM jN
 c9:cP K az "check_place" "Band.check_place" (inClass (top 77) 2) ["self","place"] iZ j0
 eA:cP K az "check_live" "Band.check_live" (inClass (top 77) 3) ["self","place"] jg jh
 fX:cP K az "is_good" "Band.is_good" (inClass (top 77) 4) ["self","row"] mZ n0
 gT:cP K az "places" "Band.places" (inClass (top 77) 5) ["self"] o6 o7
 dE:cP K az "live" "Band.live" (inClass (top 77) 6) ["self"] t5 t6
 fi:cP K az "place_of" "Band.place_of" (inClass (top 77) 7) ["self","row"] lO lP
 gG:cP K az "led" "Band.led" (inClass (top 77) 8) ["self","place","sign"] vQ vR
 fY:cP K az "longest" "Band.longest" (inClass (top 77) 9) ["self"] n6 n7
 fZ:cP K aL "__init__" "Reader.__init__" (inClass (top 81) 0) ["self","writer"] fU ji
 bW:cP K aL "blocks_in_window" "Reader.blocks_in_window" (inClass (top 81) 1) ["self"] eT eU
 cw:cP K aL "desks_ahead_of" "Reader.desks_ahead_of" (inClass (top 81) 2) ["self","row"] fD fE
 cO:cP K aL "word_fitting" "Reader.word_fitting" (inClass (top 81) 3) ["self","window"] gn gp
 eR:cP K aL "word_of" "Reader.word_of" (inClass (top 81) 4) ["self","window"] jO jP
 qo:cP K aL "words_in" "Reader.words_in" (inClass (top 81) 5) ["self","length"] qk ql
 xc:cP K aL "read" "Reader.read" (inClass (top 81) 6) ["self","row"] x9 xa
 dF:Addr
 tE:mg "BandError"=some (.ref dF)
 XT:HX K dF "BandError"
 XB:HQ K dF
 fF:Addr
 iJ:mg "NoSplit"=some (.ref fF)
 iK:eZ K fF dF "NoSplit"
 G2:HY K fF
 gH:wbf K (.ref fF) "__init__"=some (some (.builtin "ValueError.__init__"))
 cA:Addr
 vT:mg "Scarce"=some (.ref cA)
 hV:eZ K cA dF "Scarce"
 Jf:HY K cA
 eB:Addr
 g7:wad
 qp:Al K "__init__" "Scarce.__init__" (inClass (top 12) 0) eB g7
 qt:Binds K g7 ["self","length","rows"] []
 yI:wbf K (.ref cA) "__init__"=some (some (.ref eB))
 yJ:wfp K (.ref eB)=true
 lS:wbf K (.ref cA) "length"=some none
 oa:wbf K (.ref cA) "rows"=some none
 oP:Addr
 zy:mg "Open"=some (.ref oP)
 vU:eZ K oP dF "Open"
 Oc:HY K oP
 zz:wbf K (.ref oP) "__init__"=some (some (.builtin "ValueError.__init__"))
 ng:∃t,mg "MOST_BLOCKS"=some (.int 24 t)
 nh:∃t,mg "MOST_WEIGHT"=some (.int 8 t)
 gq:∃t,mg "MOST_WEIGHT_IN_ALL"=some (.int 40 t)
 known:∃t,mg "KNOWN_SIGNS"=some (.str fK t)
section
variable{P:wau}{w:World}{K:wa2}{mg:Str->Option Value}{base:Heap}
theorem qu(L:Lk K mg):aS P w K mg base d8 1 L.sW L.sX ["text","signs"] Ky:=by
 have T:=L.T;refine L.jf.F.dQ (N:=["text","signs"]) (λf A outer s H n Q E nd o h=>?_);obtain⟨a,b,rfl,hl,k⟩:=h;refine⟨_,(ag (aB (aC (Ao rfl) (by rfl) T.all Qi (a5 (cD rfl (ax ["signs"] [1]) (z4 (pv 0)) (λ_ _ _ _ _ _=>bq) (λ_ _ _ _ _ _=>(k8 xK (pv 0) (pv 1) rfl))) a9)))),?_⟩
 try dsimp only[dC,dA,b6,b7]
 refine⟨_,rfl,a,rfl,λl e=>comp_map (Sl b) (p9 a) e (by unfold eY;rw[wa0];exact av (waj (wdN (aV a)) (by omega))) (λ_ _=>trivial) (λx g p i _ q=>?_) (λj m d=>?_)⟩
 ·obtain⟨c,_,rfl⟩:=wab.mp i;exact⟨_,rfl,_,rfl,_,_,rfl,rfl,q g (a8.refl _)⟩
 ·rw[Fd]at d;refine⟨l,_,rfl,aM.of d,?_⟩;have:=k j m;rw[wfw];exact this
theorem ig(L:Lk K mg):aS P w K mg base d8 1 L.mX L.mY ["row","barred"] (Kz K):=by
 have T:=L.T;refine L.eJ.F.dQ (N:=["row","barred"]) (λi A outer s H o Q E nd p h=>?_);obtain⟨r,a,j,rfl,f,hl,k⟩:=h;refine⟨_,(ag (aB (aC (An rfl) (by rfl) T.any Qj (a5 (cD rfl (ax ["row"] [0]) (aN (pv 1)) (λ_ _ _ _ _ _=>bq) (λ_ _ _ _ _ _=>(k8 xK (pv 0) (pv 1) rfl))) a9)))),?_⟩
 try dsimp only[dC,dA,b6,b7]
 refine⟨_,rfl,a,rfl,⟨_,f⟩,λl d=>comp_map (Sl r) (aP K a (j.map V.str)) d (by rw[wa0];exact av (by omega)) (λg e=>e.seq f) (λx m t n _ q=>?_) (λg e b=>?_)⟩
 ·obtain⟨c,_,rfl⟩:=wab.mp n;exact⟨_,rfl,_,rfl,_,_,rfl,rfl,q m (a8.refl _)⟩
 ·rw[HG]at b;refine⟨l,_,rfl,aM.of b,?_⟩;have:=k g e;rw[wfy];exact this
theorem zA(L:Lk K mg):aS P w K mg base d8 2 L.sY L.sZ ["thing"] Qk:=by
 have T:=L.T;refine L.mU.F.dQ (N:=["thing"]) (λd A outer s H l Q E nd m h=>?_);obtain⟨x,rfl,S,k⟩:=h;have a:x.length<=sizeLine:=av (by have:=S.hi;omega);obtain⟨f,b⟩:=L.known
 refine⟨_,(a7 (bK (PW.pt (j7 (eW (cQ (aC cZ (by rfl) T.LJ zb (a5 (pv 0) (a5 (iA (v:=.ty "str") (by rfl) T.str Kx rfl) a9))))) (j7 (aH nK (aC bJ (by rfl) T.len waM (a5 (pv 0) a9)) aq (aU _)) (m3 (aH nL (aC bJ (by rfl) T.len waM (a5 (pv 0) a9)) aq (aU _)))))) (ag (aB gX)) aQ)
  (ag (aB (C4 (k8 rY (aC As (by rfl) T.len waM (a5 (bH (Ar rfl) (by rfl) T.set TN (a5 (pv 0) a9)) a9)) (aC bJ (by rfl) T.len waM (a5 (pv 0) a9)) (aU _)) (C3 (au (qu L) L.jf (a5 (pv 0) (a5 (tZ (v:=.str fK) (by rfl) b ⟨f,rfl⟩) a9)))))))),?_⟩
 try dsimp only[dC,dA,b6,b7]
 refine⟨_,rfl,_,_,_,true,rfl,j4.str x,rfl,true,rfl,?_⟩;refine cm ?_;refine⟨_,rfl,x,rfl,a,_,_,rfl,rfl,_,rfl,?_⟩;refine HF (by have:=S.lo;simp;omega) ?_;refine⟨_,rfl,x,rfl,a,_,_,rfl,rfl,_,rfl,?_⟩;refine HF (by have:=S.hi;simp;omega) ?_;refine⟨_,rfl,x,rfl,?_,λp g=>?_⟩
 ·have:=S.hi;show x.length+1<wdT;unfold wdT;omega
 refine⟨p,_,rfl,a6,_,rfl,x,rfl,a,rfl,?_⟩;refine⟨_,rfl,?_⟩;refine TL (by rw[Ax S.nd];simp) ?_;refine⟨_,rfl,x,fK,rfl,by have:=S.hi;omega,λi j=>?_⟩;have e:((ch x).all λc=>decide (c∈ch fK))=true:=waW.mpr λc hc=>decide_eq_true (S.sub c hc);rw[e];exact k i ((a8.upd g).trans j)
theorem Dv(L:Lk K mg):aS P w K mg base d8 2 L.yE L.yF ["thing","signs"] Ql:=by
 have T:=L.T;refine L.rD.F.dQ (N:=["thing","signs"]) (λb A outer s H i Q E nd j h=>?_);obtain⟨x,g,rfl,S,k⟩:=h;have a:x.length<=sizeLine:=av (by have:=S.hi;omega)
 refine⟨_,(a7 (bK (PW.pt (j7 (eW (cQ (aC cZ (by rfl) T.LJ zb (a5 (pv 0) (a5 (iA (v:=.ty "str") (by rfl) T.str Kx rfl) a9))))) (j7 (aH nK (aC bJ (by rfl) T.len waM (a5 (pv 0) a9)) aq (aU _)) (m3 (aH nL (aC bJ (by rfl) T.len waM (a5 (pv 0) a9)) aq (aU _)))))) (ag (aB gX)) aQ)
  (ag (aB (au (qu L) L.jf (a5 (pv 0) (a5 (pv 1) a9)))))),?_⟩
 try dsimp only[dC,dA,b6,b7]
 refine⟨_,rfl,_,_,_,true,rfl,j4.str x,rfl,true,rfl,?_⟩;refine cm ?_;refine⟨_,rfl,x,rfl,a,_,_,rfl,rfl,_,rfl,?_⟩;refine HF (by have:=S.lo;simp;omega) ?_;refine⟨_,rfl,x,rfl,a,_,_,rfl,rfl,_,rfl,?_⟩;refine HF (by have:=S.hi;simp;omega) ?_;refine⟨_,rfl,_,rfl,x,g,rfl,by have:=S.hi;omega,λd f=>?_⟩;have e:((ch x).all λc=>decide (c∈ch g))=true:=waW.mpr λc hc=>decide_eq_true (S.sub c hc);rw[e];exact k d f
theorem tM(L:Lk K mg):aS P w K mg base d8 3 L.mV L.mW ["barred","signs"] (KA K):=by
 have T:=L.T;refine L.iY.F.dQ (N:=["barred","signs","number","thing"]) (λj A outer s H q Q E nd r h=>?_);obtain⟨a,g,d,rfl,c,hl,hw,k⟩:=h
 refine⟨_,(a7 (bK (aH nL (aC bx (by rfl) T.len waM (a5 (pv 0) a9)) aq (aU _)) dg aQ)
  (ag (b0 wal rfl (kj (by rfl) T.enum (a5 (pv 0) a9)) (dG rfl (aK (aw (i:=2)) (aK (aw (i:=3)) cB))) (ag (bK (eW (cQ (au (Dv L) L.rD (a5 (pv 3) (a5 (pv 1) a9))))) dg aQ))))),?_⟩
 try dsimp only[dC,dA,b6,b7]
 refine⟨_,rfl,a,_,rfl,.inl c,_,_,rfl,rfl,_,rfl,?_⟩;refine HF (by grind) ?_;refine⟨_,rfl,a,_,rfl,c,md (K:=K) (a:=a) (xs:=d.map V.str) (λi σ b=>a8 H b/\∃e f,σ=[some (.ref a),some (.str g),e,f]) ⟨a8.refl _,none,none,rfl⟩ (λi σ b _ p=>p.1.seq c) ?_ (λσ b p=>k b p.1)⟩;rintro i x σ b T u ⟨l,e,f,rfl⟩ m
 obtain⟨t,rfl,n⟩:∃t,x=.str t/\t∈d:=by
  grind
 refine⟨T,_,rfl,gL.of a6,rfl,_,_,rfl,_,_,rfl,rfl,?_⟩;refine⟨_,rfl,_,rfl,t,g,rfl,hw t n,λv o=>⟨true,rfl,?_⟩⟩;refine cm ?_;exact⟨(l.trans (a8.upd m)).trans o,_,_,rfl⟩
theorem rE(L:Lk K mg):aS P w K mg base d8 2 L.lL L.lM ["barred"] (HJ K):=by
 have T:=L.T;refine L.i9.F.dQ (N:=["barred","found","word","length","beginning"]) (λM A outer s H vs Q E nd O h=>?_);obtain⟨a,ws,rfl,y,hl,hw,k⟩:=h;have R:=fb O
 refine⟨_,(a7 (ai (i:=1) (E1 (Aj eV gX DZ) rfl rfl (by simp) (by decide)))
  (a7 (b0 wal rfl (aN (pv 0)) (aw (i:=2)) (ag (b0 wal rfl (qO rfl T.range (a5 aq (a5 (aC bJ (by rfl) T.len waM (a5 (pv 2) a9)) a9))) (aw (i:=3)) (a7 (ai (i:=4) (cy ki (pv 2) gM (bp (pv 3))))
  (ag (bK (eW (cQ (au (ig L) L.eJ (a5 (pv 4) (a5 (pv 0) a9))))) (ag (et R (pv 1) (pv 4) gX rfl)) aQ))))))
  (ag (aB (aC (z6 rfl) (by rfl) T.sorted Kw (a5 (pv 1) a9)))))),?_⟩
 try dsimp only[dC,dA,b6,b7]
 intro d hd;refine⟨a6,[((wai "":Key),V.bl true)],rfl,by decide,?_⟩
 have G:a8 H (upd (upd H d (.dK [])) d (.dK (kg [] [((wai "":Key),V.bl true)]))):=by
  rw[DS];exact a8.upd hd
 refine⟨_,rfl,a,rfl,⟨_,G.seq y⟩,dh (K:=K) (a:=a) (xs:=ws.map V.str) (λi σ m=>∃B c v4,σ=[some (.ref a),some (.ref d),B,c,v4]/\a8 H m/\m d=some (.dK (lE (bQ ws "" (ws.take i)))))
  ⟨none,none,none,rfl,G,a6⟩ (λi σ m _ ⟨_,_,_,_,f,_⟩=>f.seq y) ?_ ?_⟩
 ·rintro i x σ m g ⟨B,c,v4,rfl,f,t⟩;have hi:i<ws.length:=by have:=(wa6.mp g).1;rwa[wa0]at this
  obtain⟨wd,p,rfl⟩:∃wd,ws[i]?=some wd/\x=.str wd:=by
   rw[wa4]at g
   cases e:ws[i]? with
   |none=>rw[e]at g;cases g
   |some z=>rw[e]at g;exact⟨z,rfl,(wag g).symm⟩
  have S:wd∈ws:=wa9 p;have U:=hw wd S;have X:ws.take (i+1)=ws.take i++[wd]:=by rw[waN,p];rfl
  have Y:(bQ ws "" (ws.take i)).length<=30:=by
   have:=nC (ws:=ws) (e:="") (us:=ws.take i) λv Z=>hw v (wc2 Z);rw[wak]at this;omega
  refine⟨_,rfl,wd,rfl,av (by omega),1,_,rfl,⟨by decide,by decide,by omega,by omega⟩,?_⟩;have en:((wd.length:Int)-1).toNat=wd.length-1:=by omega
  refine cU (lo:=1) (n:=((wd.length:Int)-1).toNat) (λj σ u=>∃c v4,σ=[some (.ref a),some (.ref d),some (.str wd),c,v4]/\a8 H u/\u d=some (.dK (lE (upTo ws wd (bQ ws "" (ws.take i)) j))))
   ⟨c,v4,rfl,f,t⟩ ?_ ?_
  ·rintro j σ u hj ⟨c,v4,rfl,q,C⟩;have ec:(1+(j:Int))=((1+j:Nat):Int):=by omega
   refine⟨_,rfl,_,rfl,_,rfl,wd,rfl,av (by omega),?_⟩;rw[ec];have SG:=uJ ws wd (bQ ws "" (ws.take i)) j;refine⟨_,rfl,_,rfl,di wd (1+j),a,ws,rfl,q.seq y,by omega,λH4 D=>⟨_,rfl,?_⟩⟩;have I:=D _ _ C
   cases J:bears ws (di wd (1+j)) with
   |true=>
    refine cm ?_;refine⟨_,_,rfl,q.trans D,?_⟩;rw[I,gy];unfold qT;rw[if_pos J]
   |false=>
    refine fJ ?_;refine⟨_,rfl,_,rfl,d,_,rfl,ke.k (k:=wai (di wd (1+j))) I (by rw[Ff];exact bz (by omega)),?_⟩;refine⟨_,_,rfl,λb o e=>?_,?_⟩
    ·rw[ae (af e hd)];exact D _ _ (q _ _ e)
    ·rw[a6,Fe,gy];unfold qT;rw[if_neg (by rw[J];exact wap)]
  ·rintro σ u ⟨c,v4,rfl,q,C⟩;refine⟨_,c,v4,rfl,q,?_⟩;rw[C,X,Cr,en];rfl
 ·rintro σ m ⟨B,c,v4,rfl,f,t⟩;rw[wa0,waI]at t;have Wt:=nC (ws:=ws) (e:="") (us:=ws) hw;refine⟨_,rfl,d,_,_,rfl,t,Cw _,by omega,λl ss r hp hs=>?_⟩;exact k l ss _ (f.trans (a8.upd r)) (f.free r) a6 hp hs
theorem vV(L:Lk K mg):aS P w K mg base d8 1 L.o1 L.o4 ["row","places"] (Nm K):=by
 refine L.jq.F.dQ (N:=["row","places","cut"]) (λq A outer s H x Q E nd y h=>?_);obtain⟨r,a,ps,rfl,t,u,hl,k⟩:=h
 refine⟨_,(a7 (ai (i:=2) aq)
  (a7 (jw wal (aH kd (cy ki (pv 0) (bp (pv 2)) gM) (pv 1) rfl) (ag (ur (i:=2) nd rfl (wdR rfl) aq GU)))
  (ag (aB (cy ki (pv 0) (bp (pv 2)) gM))))),?_⟩
 try dsimp only[dC,dA,b6,b7]
 refine⟨λm σ c=>∃n:Nat,n<=r.length/\m=r.length-n/\σ=[some (.str r),some (.ref a),some (.int (n:Int))]/\a8 H c/\∀j,j<n->d9 r j∉ps,⟨r.length,0,waB _,rfl,rfl,a8.refl _,λj d=>absurd d (wcJ j)⟩,?_⟩;rintro m σ c ⟨n,hn,rfl,rfl,f,o⟩;refine⟨_,rfl,_,rfl,_,rfl,r,rfl,av (by omega),_,rfl,a,_,rfl,.inl (f.seq t),rfl,fv ps,_,rfl,?_⟩;rw[if_pos rfl,jz]
 by_cases h:d9 r n∈ps
 ·have e:decide (wb0 r (some (n:Int)) none∈ps)=true:=decide_eq_true h;rw[e];refine cm ?_;refine⟨_,rfl,_,rfl,_,rfl,r,rfl,av (by omega),?_⟩;have:=k c f;unfold lend at this;rw[uL h o hn]at this;exact this
 ·have e:decide (wb0 r (some (n:Int)) none∈ps)=false:=decide_eq_false h;rw[e];refine fJ ?_
  have g:n<r.length:=by
   rcases weY hn with z |z
   ·exact z
   ·subst z;rw[qU]at h;exact absurd u h
  refine⟨λb p=>∃l:Nat,l=n+1/\b=[some (.str r),some (.ref a),some (.int (l:Int))]/\a8 H p,?_,?_⟩
  ·rintro b p ⟨l,rfl,rfl,v⟩;refine⟨r.length-(n+1),by omega,n+1,g,rfl,rfl,v,λj d=>?_⟩;rcases weY (Nat.le_of_lt_succ d) with z |z
   ·exact o j z
   ·rw[z];exact h
  ·exact⟨_,rfl,_,_,rfl,rfl,n+1,rfl,rfl,f⟩
theorem xf(L:Lk K mg):aS P w K mg base d8 2 L.qc L.qe ["place","signs","barred","places"] (KB K):=by
 refine L.kX.F.dQ (N:=["place","signs","barred","places","moves","sign","row"]) (λR A outer s H vs Q E nd S h=>?_);obtain⟨p,g,a,b,l,ps,rfl,T,U,V,X,Y,B,C,k⟩:=h;have Z:=fb S
 refine⟨_,(a7 (ai (i:=4) cY)
  (a7 (b0 wal rfl (z4 (pv 1)) (aw (i:=5)) (a7 (ai (i:=6) (aO oq (pv 0) (pv 5)))
  (ag (et Z (pv 4) (pv 5) (A9 (cQ (au (ig L) L.eJ (a5 (pv 6) (a5 (pv 2) a9)))) gu (au (vV L) L.jq (a5 (pv 6) (a5 (pv 3) a9)))) rfl))))
  (ag (aB (pv 4))))),?_⟩
 try dsimp only[dC,dA,b6,b7]
 intro d hd
 refine⟨_,rfl,g,rfl,m9 (p9 g) (λi σ f=>∃r v6,σ=[some (.str p),some (.str g),some (.ref a),some (.ref b),some (.ref d),r,v6]/\a8 H f/\f d=some (.dK (((ch g).take i).map λc=>((wai (⟨#[c]⟩:Str):Key),ub l ps p c))))
  ⟨none,none,rfl,a8.upd hd,a6⟩ (λ_ _ _ _ _=>trivial) ?_ ?_⟩
 ·rintro i x σ f m ⟨r,v6,rfl,t,y⟩
  obtain⟨c,hc,rfl⟩:∃c,(ch g)[i]?=some c/\x=.str ⟨#[c]⟩:=by
   unfold eY at m;rw[wa4]at m
   cases e:(ch g)[i]? with
   |none=>rw[show g.cps.toList[i]?=none from e]at m;cases m
   |some z=>rw[show g.cps.toList[i]?=some z from e]at m;exact⟨z,rfl,(wag m).symm⟩
  have hi:i<(ch g).length:=(wa6.mp hc).1;have J:=aV g;have Dw:(p++(⟨#[c]⟩:Str)).length=p.length+1:=by rw[<-aV,aY,wa5,aV];rfl
  refine⟨_,rfl,_,rfl,p,⟨#[c]⟩,rfl,rfl,av (by show p.length+1<=_;omega),?_⟩
  have fin:∀u,a8 f u->Mi (K8 4) (K8 5) (λ_ D Q5=>Q5 (ub l ps p c) D) {nx:=λσ f=>∃r v6,σ=[some (.str p),some (.str g),some (.ref a),some (.ref b),some (.ref d),r,v6]/\a8 H f/\f d=some (.dK (((ch g).take (i+1)).map λc=>((wai (⟨#[c]⟩:Str):Key),ub l ps p c))),rt:=Q}
   [some (.str p),some (.str g),some (.ref a),some (.ref b),some (.ref d),some (.str ⟨#[c]⟩),some (.str (p++⟨#[c]⟩))] u:=by
   intro u n;have h4:=n _ _ y;refine⟨_,rfl,_,rfl,d,_,rfl,ke.k (k:=wai (⟨#[c]⟩:Str)) h4 (by rw[wa0,wak];exact bz (by omega)),?_⟩;refine⟨_,_,rfl,λb o e=>?_,?_⟩
   ·rw[ae (af e hd)];exact n _ _ (t _ _ e)
   ·rw[a6,f9]
    ·have:(ch g).take (i+1)=(ch g).take i++[c]:=by rw[waN,hc];rfl
     rw[this,wao];rfl
    ·cases q:bA (((ch g).take i).map λc=>((wai (⟨#[c]⟩:Str):Key),ub l ps p c)) (wai (⟨#[c]⟩:Str):Key) with
     |none=>rfl
     |some v=>
      have:=yZ q;rw[wah]at this;obtain⟨G,I,e⟩:=wab.mp this;have e':(⟨#[G]⟩:Str)=⟨#[c]⟩:=wca e
      have:G=c:=by
       have:=congrArg ch e';simpa [ch] using this
      subst this;obtain⟨j,hj,M⟩:=wdx.mp I;rw[wfe]at M;rw[wak]at hj;have e1:(ch g)[i]=G:=(wa6.mp hc).2;have:=(wcg B).mp (M.trans e1.symm);omega
  refine⟨_,rfl,_,rfl,_,a,l,rfl,t.seq T,C,λu n=>⟨_,rfl,?_⟩⟩
  cases O:bears l (p++⟨#[c]⟩) with
  |true=>
   refine fJ ?_;have:=fin u n;unfold ub at this;rw[if_pos O]at this;unfold ub;exact this
  |false=>
   refine cm ?_;refine⟨_,rfl,_,rfl,_,b,ps,rfl,(t.trans n).seq U,V,by omega,λD s5=>?_⟩;have:=fin D (n.trans s5);unfold ub at this;rw[if_neg (by rw[O];exact wap)]at this;unfold ub;exact this
 ·rintro σ f ⟨r,v6,rfl,t,y⟩;have e:(eY g).length=(ch g).length:=by unfold eY;rw[wa0]
  rw[e,waI]at y;exact⟨_,rfl,k d f t hd y⟩
theorem xg(L:Lk K mg):aS P w K mg base d8 1 L.qf L.qg ["ends","lot"] (KC K):=by
 have T:=L.T;refine L.kY.F.dQ (N:=["ends","lot"]) (λm A outer s H u Q E nd v h=>?_);obtain⟨a,b,d,ls,rfl,i,n,fa,o,hl,k⟩:=h;refine⟨_,(ag (aB (aC (An rfl) (by rfl) T.any Qj (a5 (cD rfl (ax ["lot"] [1]) (aN (pv 0)) (λ_ _ _ _ _ _=>bq) (λ_ _ _ _ _ _=>(k8 (iM (K:=K) rfl) (pv 0) (pv 1) rfl))) a9)))),?_⟩
 try dsimp only[dC,dA,b6,b7]
 refine⟨_,rfl,a,rfl,⟨_,i⟩,λl f=>comp_map (Qn ls) (aP K a d) f (av (by omega)) (λj g=>g.seq i) (λx p y r t q=>?_) (λj g c=>?_)⟩
 ·exact⟨_,rfl,_,rfl,b,ls,rfl,.inl (t.seq n),waW.mp fa x r,o,q p (a8.refl _)⟩
 ·have e:d.map (Qn ls)=(d.map λe=>p7 e ls).map V.bl:=by rw[wah];rfl
  rw[e]at c;refine⟨l,_,rfl,aM.of c,?_⟩;have:=k j g;rw[wfy];exact this
theorem xh(L:Lk K mg):aS P w K mg base d8 2 L.kZ L.qh ["moves"] (Np K):=by
 have T:=L.T;refine L.lj.F.dQ (N:=["moves","lot","left"]) (λY A outer s H vs Q E nd hr h=>?_);obtain⟨d,Z,o,rfl,hd,hl,hm,hf,YZ,k⟩:=h;have hu:=fb hr;have QP:(A.deeper (wdG "live_among" (aI (top 76)) s.heap.objs.size L.kZ Y)).units<wcI:=hr.yU
 refine⟨_,(a7 (ai (i:=1) (bH (kh rfl) (by rfl) T.list iN (a5 (pv 0) a9)))
  (ag (jw wal (cQ gX) (a7 (fj (i:=2) rfl (ax ["moves","lot"] [0,1]) nd rfl rfl (aN (pv 1)) (λ_ _ _ _ _ _=>gN (cQ (au (xg L) L.kY (a5 (bH (Cq rfl) (by rfl) T.list iN (a5 (E7 (K:=K) rfl wcv wdS wfG xZ (da hu (pv 1) (pv 0) (λ_ _=>rfl))) a9)) (a5 (pv 2) a9))))) (λ_ _ _ _ _ _=>(pv 0)))
  (a7 (bK (aH (HB QP) (pv 2) (pv 1) (aU _)) (ag (aB (pv 1))) aQ)
  (ag (ai (i:=1) (pv 2)))))))),?_⟩
 try dsimp only[dC,dA,b6,b7]
 refine⟨_,rfl,d,_,rfl,hd,λl0 t=>?_⟩
 refine⟨λm σ H2=>∃(l:Addr) (ls:List Str) (v:Option V),m=ls.length/\σ=[some (.ref d),some (.ref l),v]/\a8 H H2/\H l=none/\H2 l=some (.lst (ls.map V.str))/\ls.Sublist (Z.map (·.1)) /\
  ∀b:List Str,(∀k∈b,k∈Z.map (·.1)/\mh (o k) b=true)->∀k∈b,k∈ls,
  ⟨_,l0,Z.map (·.1),none,rfl,rfl,a8.upd t,t,by rw[a6,iO],wff _,λb h k hk=>(h k hk).1⟩,?_⟩
 rintro m σ H2 ⟨l,ls,v,rfl,rfl,S,G3,U,f,c⟩;refine⟨true,rfl,fJ ?_⟩;have Dh:ls.length<=1000:=by have:=f.length_le;rw[wa0]at this;omega
 let p:V->Bool:=λx=>match x with
  |.str k=>mh (o k) ls
  |_=>false
 let g:List Str:=ls.filter λk=>mh (o k) ls
 have u:(ls.map V.str).filter p=g.map V.str:=by
  rw[weD];rfl
 refine⟨λy r=>∃(B:Addr) (v:Option V),y=[some (.ref d),some (.ref B),v]/\a8 H r/\H B=none/\r B=some (.lst (g.map V.str))/\g.length<ls.length,?_,?_⟩
 ·rintro y r ⟨B,v,rfl,n,BW,C,O0⟩;refine⟨g.length,O0,B,g,v,rfl,rfl,n,BW,C,(wdF).trans f,λb h k hk=>?_⟩;have Z0:=c b h k hk;exact wav.mpr ⟨Z0,Cz (c b h) (h k hk).2⟩
 ·refine⟨_,rfl,l,rfl,⟨_,aM.of U⟩,λl2 D=>dU p (λx=>x) (aP K l (ls.map V.str)) D (by rw[wa0];exact av (by omega)) (λr n=>n.seq (aM.of U)) (λx G Q' hx s3 q=>?_) (λx G Q' hx _ s3 q=>⟨_,rfl,q G (a8.refl _)⟩) (λr n C=>?_)⟩
  ·obtain⟨X,Z1,rfl⟩:=wab.mp hx;obtain⟨a,ha,I⟩:=iG (f.subset Z1);have J:a8 H G:=S.trans s3;have SH:=J _ _ hd;have j:=J _ _ (hm _ ha);refine⟨_,rfl,_,rfl,d,.ref a,rfl,?_,?_⟩
   ·have:=eD.k (k:=(wai X:Key)) SH;rw[I]at this;exact this
   refine⟨.inr (.inr (.inl ⟨rfl,.inl ⟨_,j⟩⟩)),a,_,rfl,rfl,j,λvw M=>?_⟩;refine⟨vw,a,_,rfl,a6,by rw[ae (af j M)];exact j,λl3 Kr=>?_⟩;have s4:a8 G (upd (upd G vw (mc vw a)) l3 (.lst ((o X).map (·.2)))):=(a8.upd M).trans (a8.upd Kr);refine⟨_,rfl,l3,l,_,_,rfl,aM.of a6,aM.of (s4 _ _ (s3 _ _ U)),hf X,fv ls,by rw[wa0];exact YZ X,λH5 s5=>⟨_,rfl,?_⟩⟩;exact q H5 (s4.trans s5)
  ·rw[wdX,u]at C;have O:=n _ _ U;refine⟨_,rfl,_,rfl,l2,l,_,_,rfl,rfl,aM.of C,aM.of O,fv _,fv _,_,rfl,?_⟩;rw[y3];have R:H l2=none:=S.free D
   by_cases e:g=ls
   ·rw[decide_eq_true e];refine fJ ?_;refine⟨_,rfl,k l ls r (S.trans n) G3 O ⟨f,λkk hk=>?_,c⟩⟩;have:=e ▸ hk;exact(wav.mp this).2
   ·rw[decide_eq_false e];refine cm ?_;refine⟨_,rfl,l2,_,rfl,S.trans n,R,C,?_⟩;rcases weY (wb4 (λk=>mh (o k) ls) ls) with z |z
    ·exact z
    ·exact absurd ((wdF (p:=λk=>mh (o k) ls)).eq_of_length z) e
theorem rF(L:Lk K mg):aS P w K mg base d8 4 L.ia L.lN ["self","signs","barred"] (Nt K L.az):=by
 have T:=L.T;refine L.ie.F.dQ (N:=["self","signs","barred","places","place"]) (λhX A outer s H vs Q E nd hr h=>?_);obtain⟨x,t,g,a,ws,rfl,hx,hS,sg,hl,hw,k⟩:=h;have Z:∀w∈ws,w.length<=5:=λw h=>(hw w h).hi;have hu:=fb hr
 refine⟨_,(a7 (bK (eW (cQ (au (zA L) L.mU (a5 (pv 1) a9)))) dg aQ)
  (a7 (bu (au (tM L) L.iY (a5 (pv 2) (a5 (pv 1) a9))))
  (a7 (d4 (pv 0) (pv 1) rfl)
  (a7 (d4 (pv 0) (bH dI (by rfl) T.list iN (a5 (pv 2) a9)) rfl)
  (a7 (d4 (pv 0) cY rfl)
  (a7 (ai (i:=3) (au (rE L) L.i9 (a5 (pv 2) a9)))
  (a7 (b0 wal rfl (aN (pv 3)) (aw (i:=4)) (ag (et hu (aD (pv 0) rfl) (pv 4) (au (xf L) L.kX (a5 (pv 4) (a5 (pv 1) (a5 (pv 2) (a5 (pv 3) a9))))) rfl)))
  (ag (d4 (pv 0) (au (xh L) L.lj (a5 (aD (pv 0) rfl) a9)) rfl))))))))),?_⟩
 try dsimp only[dC,dA,b6,b7]
 refine⟨_,rfl,g,rfl,sg,λH1 s1=>⟨true,rfl,cm ?_⟩⟩;refine⟨_,rfl,_,rfl,a,g,ws,rfl,s1.seq hS,hl,hw,λH2 s2=>?_⟩;have D:a8 H H2:=s1.trans s2;have Z2:=D _ _ hx;refine⟨_,rfl,_,rfl,x,L.az,t,_,rfl,Z2,L.aG.cl,L.aG.pG,by decide,?_⟩;rw[Nr];have QQ:∀(o:HO) b ob,H b=some ob->b≠x->(upd H2 x o) b=some ob:=λo b ob e hb=>by rw[ae hb];exact D _ _ e
 have G:∀{H':Hp} (h:∀b o,H b=some o->b≠x->H' b=some o),aM K H' a (ws.map V.str):=λ{H'} h=>by
  have Wu:∀o,H a=some o->(∀fs,o≠.ins L.az t fs)->a≠x:=λo e ne z=>by
   subst z;rw[hx]at e;exact ne [] (wag e).symm
  rcases hS with(e |⟨o,e⟩) |e
  ·exact .inl (.inl (h _ _ e (Wu _ e (λ_ z=>by cases z))))
  ·exact .inl (.inr ⟨o,h _ _ e (Wu _ e (λ_ z=>by cases z))⟩)
  ·exact .inr e
 refine⟨_,rfl,a,_,rfl,.inl (G (QQ _)),λb hb=>?_⟩;have v:x≠b:=af a6 hb;have Ui:H2 b=none:=by rw[ae v.symm]at hb;exact hb
 refine⟨_,rfl,x,L.az,t,Sn g,rfl,by rw[ae v,a6],L.aG.cl,L.aG.vE,(show 1<1000 by decide),?_⟩;rw[put2];intro d hd;have r:x≠d:=af a6 hd
 have QR:b≠d:=by
  intro z;subst z;rw[ae v.symm,a6]at hd;cases hd
 have I:H2 d=none:=by rw[ae r.symm,ae QR.symm,ae r.symm]at hd;exact hd
 refine⟨_,rfl,x,L.az,t,P4 g b,rfl,by rw[ae r,a6],L.aG.cl,L.aG.kM,(show 2<1000 by decide),?_⟩;rw[put3];generalize J:upd (upd (upd (upd (upd H2 x (.ins L.az t (Sn g))) b (.lst (ws.map V.str))) x (.ins L.az t (P4 g b))) d (.dK [])) x (.ins L.az t (Nq g b d))=H3;have x3:H3 x=some (.ins L.az t (Nq g b d)):=by rw[<-J,a6]
 have d3:H3 d=some (.dK []):=by rw[<-J,ae r.symm,a6]
 have b3:H3 b=some (.lst (ws.map V.str)):=by rw[<-J,ae v.symm,ae QR,ae v.symm,a6]
 have k3:∀c o,H c=some o->c≠x->H3 c=some o:=λc o e hc=>by
  have e2:=D _ _ e;rw[<-J,ae hc,ae (af e2 I),ae hc,ae (af e2 Ui),ae hc];exact e2
 clear J;refine⟨_,rfl,a,ws,rfl,G k3,hl,Z,λl ss H4 s4 R h4 hp Z3=>?_⟩;have TX:ss.Nodup:=hp.nodup_iff.mpr (su ws);have Ez:ss.length<=25:=by have:=nC (ws:=ws) (e:="") (us:=ws) Z;rw[hp.length_eq];omega
 have QS:∀p∈ss,p.length<=5:=λp Dx=>Fj Z p (hp.mem_iff.mp Dx);have Uj:("":Str)∈ss:=hp.mem_iff.mpr (cn ws);have SJ:l≠d:=λz=>by rw[z,d3]at R;cases R
 have nlx:l≠x:=λz=>by rw[z,x3]at R;cases R
 refine⟨_,rfl,l,rfl,⟨_,aM.of h4⟩,dh (K:=K) (a:=l) (xs:=ss.map V.str) (λi σ S=>∃v4 B,σ=[some (.ref x),some (.str g),some (.ref a),some (.ref l),v4]/\S d=some (.dK (cu B))/\B.map (·.1)=ss.take i/\(∀m∈B,S m.2=some (.dK (rowOf g ws ss m.1)))/\(∀m∈B,H4 m.2=none)/\(∀c o,H4 c=some o->c≠d->S c=some o))
  ⟨none,[],rfl,s4 _ _ d3,rfl,λm u=>(nomatch u),λm u=>(nomatch u),λc o e _=>e⟩ (λi σ S _ ⟨_,_,_,_,_,_,_,M⟩=>aM.of (M _ _ h4 SJ)) ?_ ?_⟩
 ·rintro i y σ S hy ⟨v4,B,rfl,C,n,f,Qp,M⟩
  obtain⟨p,U,rfl⟩:∃p,ss[i]?=some p/\y=.str p:=by
   rw[wa4]at hy
   cases e:ss[i]? with
   |none=>rw[e]at hy;cases hy
   |some z=>rw[e]at hy;exact⟨z,rfl,(wag hy).symm⟩
  have hi:i<ss.length:=(wa6.mp U).1;have Dx:p∈ss:=wa9 U
  have k5:∀c o,H c=some o->c≠x->S c=some o:=λc o e hc=>M _ _ (s4 _ _ (k3 c o e hc)) (λz=>by
   subst z;have:=D _ _ e
   rw[I]at this;cases this)
  have x5:S x=some (.ins L.az t (Nq g b d)):=M _ _ (s4 _ _ x3) r;refine⟨_,rfl,_,rfl,_,rfl,_,rfl,p,g,a,l,ws,ss,rfl,G k5,aM.of (M _ _ h4 SJ),Uj,by have:=QS p Dx;omega,by have:=sg.hi;omega,sg.nd,by omega,λe H6 O X h6=>?_⟩;have d6:=O _ _ C
  have Jg:p∉B.map (·.1):=by
   rw[n];intro u;obtain⟨j,hj,ej⟩:=wdx.mp u;rw[wfe]at ej;rw[wak]at hj;have e1:ss[i]=p:=(wa6.mp U).2;have:=(wcg TX).mp (ej.trans e1.symm);omega
  have Y:B.length<=25:=by have:=congrArg wdE n;rw[wa0,wak]at this;omega
  refine⟨_,rfl,x,L.az,t,_,_,rfl,O _ _ x5,L.aG.cl,L.aG.kM,mj g b d,_,rfl,d,_,rfl,ke.k (k:=wai p) d6 (by unfold cu;rw[wa0];exact bz (by omega)),?_⟩;have P6:e≠d:=λz=>by rw[z,C]at X;cases X
  have e4:H4 e=none:=by
   cases q:H4 e with
   |none=>rfl
   |some o=>
    have:=M _ _ q P6;rw[this]at X;cases X
  refine⟨_,B++[(p,e)],rfl,?_,?_,?_,?_,?_⟩
  ·rw[a6,f9 _ (oz Jg)];unfold cu;rw[wao];rfl
  ·rw[wao,n];have:ss.take (i+1)=ss.take i++[p]:=by rw[waN,U];rfl
   rw[this];rfl
  ·intro m u;rcases waA.mp u with z |z
   ·have nm:m.2≠d:=λq=>by
     have:=f m z;rw[q,C]at this;have:=Qp m z;rw[q]at this;rw[s4 _ _ d3]at this;cases this
    rw[ae nm];exact O _ _ (f m z)
   ·have:m=(p,e):=by simpa using z
    subst this;rw[ae P6];exact h6
  ·intro m u;rcases waA.mp u with z |z
   ·exact Qp m z
   ·have:m=(p,e):=by simpa using z
    subst this;exact e4
  ·intro c o hc Ww;rw[ae Ww];exact O _ _ (M c o hc Ww)
 ·rintro σ S ⟨v4,B,rfl,C,n,f,Qp,M⟩;rw[wa0,waI]at n;have x5:S x=some (.ins L.az t (Nq g b d)):=M _ _ (s4 _ _ x3) r;have Y:B.length<=1000:=by have:=congrArg wdE n;rw[wa0]at this;omega
  refine⟨_,rfl,x,L.az,t,_,_,rfl,x5,L.aG.cl,L.aG.kM,mj g b d,d,B,rowOf g ws ss,rfl,C,Y,f,λkx=>Cy g ws ss kx,λkx=>by rw[Fg];have:=sg.hi;omega,λq ls H6 O hq h6 lv=>?_⟩;refine⟨_,rfl,x,L.az,t,_,rfl,O _ _ x5,L.aG.cl,L.aG.rz,(show 3<1000 by decide),?_⟩;rw[Fi];have Uk:q≠x:=λz=>by rw[z,x5]at hq;cases hq
  have Z4:∀m∈B,m.2≠x:=λm u z=>by
   have:=f m u;rw[z,x5]at this;cases this
  refine k ss ls _ ⟨⟨t,b,d,q,B,a6,?_,?_,n,λm u=>?_,?_⟩,hp,Z3,n ▸ lv⟩ λc o e hc=>?_
  ·rw[ae v.symm];exact O _ _ (M _ _ (s4 _ _ b3) QR)
  ·rw[ae r.symm];exact O _ _ C
  ·rw[ae (Z4 m u)];exact O _ _ (f m u)
  ·rw[ae Uk];exact h6
  ·rw[ae hc]
   exact O _ _ (M _ _ (s4 _ _ (k3 c o e hc)) (λz=>by
    subst z;have:=D _ _ e
    rw[I]at this;cases this))
theorem vW(L:Lk K mg):aS P w K mg base d8 1 L.o6 L.o7 ["self"] (HL L.az):=by
 have T:=L.T;refine L.gT.F.dQ (N:=["self"]) (λa A outer s H j Q E nd m h=>?_);obtain⟨x,g,n,ss,ls,rfl,B,k⟩:=h;obtain⟨⟨c,b,d,q,o,e,p,f,i,r,t⟩,_,_,_⟩:=B;refine⟨_,(ag (aB (bH (kh rfl) (by rfl) T.list iN (a5 (aD (pv 0) rfl) a9)))),?_⟩
 try dsimp only[dC,dA,b6,b7]
 refine⟨_,rfl,x,L.az,c,_,_,rfl,e,L.aG.cl,L.aG.kM,km g b d q,d,_,rfl,f,λl hl=>?_⟩;rw[iO,i];exact k l _ (a8.upd hl) hl a6
theorem lu(L:Lk K mg):aS P w K mg base d8 1 L.t5 L.t6 ["self"] (KD L.az):=by
 have T:=L.T;refine L.dE.F.dQ (N:=["self"]) (λa A outer s H i Q E nd j h=>?_);obtain⟨x,g,m,ss,ls,rfl,B,k⟩:=h;obtain⟨⟨c,b,d,q,n,e,o,p,r,t,f⟩,_,_,_⟩:=B;refine⟨_,(ag (aB (bH dI (by rfl) T.list iN (a5 (aD (pv 0) rfl) a9)))),?_⟩
 try dsimp only[dC,dA,b6,b7]
 refine⟨_,rfl,x,L.az,c,_,_,rfl,e,L.aG.cl,L.aG.rz,y4 g b d q,q,_,rfl,.inl (aM.of f),λl hl=>?_⟩;exact k l _ (a8.upd hl) hl a6
theorem iy(L:Lk K mg):aS P w K mg base d8 1 L.iZ L.j0 ["self","place"] (TQ L.az):=by
 have T:=L.T;refine L.c9.F.dQ (N:=["self","place"]) (λc A outer s H r Q E nd e h=>?_);obtain⟨x,p,g,t,ss,ls,rfl,B,f,k⟩:=h;obtain⟨⟨i,b,d,q,mv,j,u,l,m,y,z⟩,_,_,_⟩:=B;obtain⟨a,ha,n⟩:=iG (mv:=mv) (k:=p) (by rw[m];exact f);have o:=fb e;refine⟨_,(ag (bK (PW.pt (j7 (eW (cQ (aC cZ (by rfl) T.LJ zb (a5 (pv 1) (a5 (iA (v:=.ty "str") (by rfl) T.str Kx rfl) a9))))) (m3 (yR (xT o (pv 1) (aD (pv 0) rfl)))))) dg aQ)),?_⟩
 try dsimp only[dC,dA,b6,b7]
 refine⟨_,rfl,_,_,_,true,rfl,j4.str p,rfl,true,rfl,cm ?_⟩;refine⟨_,rfl,_,rfl,x,L.az,i,_,_,rfl,j,L.aG.cl,L.aG.kM,km g b d q,d,_,rfl,eD.k (k:=(wai p:Key)) l,_,rfl,?_⟩;rw[n];exact cm k
theorem tF(L:Lk K mg):aS P w K mg base d8 2 L.vQ L.vR ["self","place","sign"] (Qo L.az):=by
 refine L.gG.F.dQ (N:=["self","place","sign"]) (λr A outer s H C Q E nd e h=>?_);obtain⟨x,p,c,g,t,ss,ls,rfl,B,f,hc,k⟩:=h;obtain⟨⟨i,b,d,q,mv,j,D,u,v,y,G⟩,_,_,_⟩:=id B;obtain⟨a,ha,z⟩:=iG (mv:=mv) (k:=p) (by rw[v];exact f);have l:=fb e
 refine⟨_,(a7 (bu (cX (pv 0) L.aG.cl L.c9.m (iy L) (e.mono (by decide)) L.c9.b .nil bI (a5 (pv 1) a9)))
  (ag (aB (da l (da l (aD (pv 0) rfl) (pv 1) (λ_ _=>rfl)) (pv 2) (λ_ _=>rfl))))),?_⟩
 try dsimp only[dC,dA,b6,b7]
 refine⟨_,rfl,x,i,_,rfl,j,CC _ _ _ _ (by decide+kernel) (by decide+kernel) (by decide+kernel) (by decide+kernel),_,rfl,x,p,g,t,ss,ls,rfl,B,f,?_⟩;have n:=eD.k (k:=(wai p:Key)) u;rw[z]at n;have o:=eD.k (k:=(wai (⟨#[c]⟩:Str):Key)) (y _ ha);rw[E9 hc]at o;exact⟨_,rfl,x,L.az,i,_,_,rfl,j,L.aG.cl,L.aG.kM,km g b d q,_,rfl,d,_,rfl,n,_,rfl,a,_,rfl,o,k⟩
theorem zB(L:Lk K mg):aS P w K mg base d8 3 L.sQ L.sR ["band","place"] (D0 L.az):=by
 refine L.mx.F.dQ (N:=["band","place","ends"]) (λJ A outer s H Z Q E nd M h=>?_);obtain⟨x,p,g,C,ss,ls,rfl,B,O,R,k⟩:=h
 refine⟨_,(a7 (fj (i:=2) rfl (ax ["band","place"] [0,1]) nd rfl rfl (z4 (aD (pv 0) rfl)) (λ_ _ _ _ _ _=>bq) (λ_ _ _ _ _ _=>(cX (pv 1) L.aG.cl L.gG.m (tF L) (M.mono (by decide)) L.gG.b .nil bI (a5 (pv 2) (a5 (pv 0) a9)))))
  (ag (aB (cD rfl (ax [] []) (aN (pv 2)) (λ_ _ _ _ _ _=>gN (aH yS (pv 0) gu (aU _))) (λ_ _ _ _ _ _=>(pv 0)))))),?_⟩
 try dsimp only[dC,dA,b6,b7]
 obtain⟨⟨S,b,d,q,mv,T,h2,h3,h4,h5,h6⟩,pm,_,_⟩:=id B;refine⟨_,rfl,x,L.az,S,_,_,rfl,T,L.aG.cl,L.aG.pG,kz g b d q,g,rfl,λl hl=>?_⟩;refine comp_map (Wm C ss p) (p9 g) hl (by rw[CF];exact av (by omega)) (λ_ _=>trivial) (λz D G U o e=>?_) (λD o a=>?_)
 ·obtain⟨c,hc,rfl⟩:=wab.mp U;have I:=B.same o;obtain⟨⟨r,_,_,_,_,t,_⟩,_⟩:=id I;exact⟨_,rfl,x,r,_,rfl,t,CC _ _ _ _ (by decide+kernel) (by decide+kernel) (by decide+kernel) (by decide+kernel),_,rfl,_,rfl,x,p,c,g,C,ss,ls,rfl,I,O,hc,e D (a8.refl _)⟩
 ·rw[Fu]at a;refine⟨_,rfl,l,rfl,⟨_,aM.of a⟩,λV f=>?_⟩;refine dU CW (λv=>v) (aP K l _) f (by rw[wa0,aV];exact av (by omega)) (λH' X=>aM.of (X _ _ a)) (λy j G Y u e=>⟨_,rfl,rfl,_,rfl,e j (a8.refl _)⟩) (λy j G Y _ u e=>⟨_,rfl,e j (a8.refl _)⟩) (λj u n=>?_);rw[wdX,AG]at n;exact k V j (o.trans u) (none_of o f) n
theorem Bp(L:Lk K mg):aS P w K mg base d8 4 L.vJ L.vK ["band"] (Fv L.az):=by
 refine L.oM.F.dQ (N:=["band","ends","place"]) (λhX A outer s H vs Q E nd hr h=>?_);obtain⟨x,g,U,ss,ls,rfl,B,X,Ez,k⟩:=h;have hu:=fb hr
 refine⟨_,(a7 (ai (i:=1) cY)
  (a7 (b0 wal rfl (aN (bP (pv 0) L.aG.cl L.gT.m (vW L) (hr.mono (by decide)) L.gT.b .nil bI)) (aw (i:=2)) (ag (et hu (pv 1) (pv 2) (au (zB L) L.mx (a5 (pv 0) (a5 (pv 2) a9))) rfl)))
  (ag (aB (pv 1))))),?_⟩
 try dsimp only[dC,dA,b6,b7]
 refine λn r=>?_;have R:a8 H (upd H n (.dK [])):=a8.upd r;have B0:=B.same R;obtain⟨⟨dx,b,d,q,mv,h1,h2,h3,h4,h5,h6⟩,pm,_,_⟩:=id B0;refine⟨_,rfl,x,dx,_,rfl,h1,CC _ _ _ _ (by decide+kernel) (by decide+kernel) (by decide+kernel) (by decide+kernel),x,g,U,ss,ls,rfl,B0,λY S G f1 I=>?_⟩;have Z:Y≠n:=λz=>by rw[z,a6]at f1;cases f1
 have nd:=B.nd
 refine⟨Y,rfl,⟨_,aM.of I⟩,dh (K:=K) (a:=Y) (xs:=ss.map V.str) (λi σ T=>∃v2 l,σ=[some (.ref x),some (.ref n),v2]/\T n=some (.dK (cu l))/\l.map (·.1)=ss.take i/\(∀m∈l,T m.2=some (.lst ((i3 g U ss m.1).map V.str)))/\(∀m∈l,S m.2=none)/\(∀c o,S c=some o->c≠n->T c=some o))
  ⟨none,[],rfl,G _ _ a6,rfl,λm t=>(nomatch t),λm t=>(nomatch t),λc o e _=>e⟩ (λi σ T _ ⟨_,_,_,_,_,_,_,D⟩=>aM.of (D _ _ I Z)) ?_ ?_⟩
 ·rintro i y σ H5 hy ⟨v2,l,rfl,u,f,j,v,D⟩;obtain⟨p,Od,rfl,hi,Dx,qL⟩:=gZ hy;have Ul:a8 H H5:=λc o e=>D _ _ (G _ _ (R _ _ e)) (af e r);refine⟨_,rfl,_,rfl,x,p,g,U,ss,ls,rfl,B.same Ul,Dx,X,λe H6 s6 C Z5=>?_⟩;have d6:=s6 _ _ u;have J:p∉l.map (·.1):=by rw[f];exact iQ nd Od
  have Um:l.length<=900:=by have:=congrArg wdE f;rw[wa0,wak]at this;omega
  refine⟨_,rfl,_,rfl,n,_,rfl,ke.k (k:=wai p) d6 (by unfold cu;rw[wa0];exact bz (by omega)),?_⟩;have M:e≠n:=λz=>by rw[z,u]at C;cases C
  have e1:S e=none:=by
   cases q:S e with
   |none=>rfl
   |some o=>
    have:=D _ _ q M;rw[this]at C;cases C
  refine⟨_,l++[(p,e)],rfl,?_,?_,?_,?_,?_⟩
  ·rw[a6,f9 _ (oz J)];unfold cu;rw[wao];rfl
  ·rw[wao,f,qL];rfl
  ·intro m t;rcases waA.mp t with z |z
   ·have nm:m.2≠n:=λq=>by
     have:=v m z;rw[q,G _ _ a6]at this;cases this
    rw[ae nm];exact s6 _ _ (j m z)
   ·have:m=(p,e):=by simpa using z
    subst this;rw[ae M];exact Z5
  ·intro m t;rcases waA.mp t with z |z
   ·exact v m z
   ·have:m=(p,e):=by simpa using z
    subst this;exact e1
  ·intro c o hc O;rw[ae O];exact s6 _ _ (D c o hc O)
 ·rintro σ H5 ⟨v2,l,rfl,u,f,j,v,D⟩;rw[wa0,waI]at f;exact⟨_,rfl,k n l H5 (λc o e=>D _ _ (G _ _ (R _ _ e)) (af e r)) r u f j λm t=>none_of R (none_of G (v m t))⟩
inductive Z6(g:Str)(ws ss:List Str)(ev:List (Str×Addr))(o:Obj)(x de lt:Addr)(n:Int)(H:Hp)(i:Nat)(σ:St)(H4:Hp):Prop
 |mk (ts:List Addr) (dc:Addr) (v4 v6 v7:Option V) (_:σ=[some (.ref x),some (.int n),some (.ref de),some (.ref dc),v4,some (.ref lt),v6,v7]) (_:ts.length=i+1) (_:ts[i]?=some dc) (_:H4 lt=some (.lst (ts.map V.ref))) (_:∀j t,ts[j]?=some t->H4 t=some (.dK (NM g ws ss j))) (_:H4 de=some (.frz o (.dK (cu ev)))) (_:∀m∈ev,H4 m.2=some (.lst ((i3 g ws ss m.1).map V.str))) (_:a8 H H4)
theorem lT(L:Lk K mg):aS P w K mg base d8 5 L.my L.mz ["band","length"] (KY L.az):=by
 have T:=L.T;refine L.fO.F.dQ (N:=["band","length","ends","counts","place","table","step","longer"]) (λhX A outer s H vs Q E nd hr h=>?_);obtain⟨x,n,g,G,ss,ls,rfl,B,EA,Ez,hn0,hn1,k⟩:=h;have hu:=fb hr
 refine⟨_,(a7 (ai (i:=2) (au (Bp L) L.oM (a5 (pv 0) a9)))
  (a7 (ai (i:=3) cY)
  (a7 (b0 wal rfl (ud (pv 2)) (aw (i:=4)) (ag (et hu (pv 3) (pv 4) aq rfl)))
  (a7 (ai (i:=5) (cC (a5 (pv 3) a9)))
  (a7 (b0 wal rfl (cT rfl T.range (a5 (pv 1) a9)) (aw (i:=6)) (a7 (ai (i:=7) cY)
  (a7 (b0 wal rfl (ud (pv 2)) (aw (i:=4)) (ag (et hu (pv 7) (pv 4) (aC (ml rfl) (by rfl) T.sum Fn (a5 (cD rfl (ax ["counts"] [3]) (aN (da hu (pv 2) (pv 4) (λ_ _=>rfl))) (λ_ _ _ _ _ _=>bq) (λ_ _ _ _ _ _=>(da hu (pv 1) (pv 0) (λ_ _=>rfl)))) a9)) rfl)))
  (a7 (bu (j8 waT waX waZ cV (pv 5) (a5 (pv 7) a9)))
  (ag (ai (i:=3) (pv 7)))))))
  (ag (aB (pv 5)))))))),?_⟩
 try dsimp only[dC,dA,b6,b7]
 have nd:=B.nd;have he:("":Str)∈ss:=B.pm.mem_iff.mpr (cn G);refine⟨_,rfl,x,g,G,ss,ls,rfl,B,EA,Ez,λd q H1 s1 Uo h1 ek er ef=>?_⟩;refine λl v=>?_;have Z:d≠l:=af h1 v;have I:((cu q).map λkv=>kV kv.1)=ss.map V.str:=by rw[iO,ek]
 have Z7:∀m∈q,m.2≠d:=λm r z=>by have:=er m r;rw[z,h1]at this;cases this
 refine⟨_,rfl,d,_,rfl,.inl ⟨(a8.upd v) _ _ h1,λo=>?_⟩⟩;have J:=jD d o (cu q);rw[I]at J;have S:(upd (upd H1 l (.dK [])) d (.frz o (.dK (cu q)))) l=some (.dK []):=by rw[ae (wb9 Z),a6]
 have U:(upd (upd H1 l (.dK [])) d (.frz o (.dK (cu q)))) d=some (.frz o (.dK (cu q))):=a6
 have sz:a8 H (upd (upd H1 l (.dK [])) d (.frz o (.dK (cu q)))):=λc u e=>by
  rw[ae (af e Uo)];exact a8.upd v _ _ (s1 _ _ e)
 have X:∀m∈q,(upd (upd H1 l (.dK [])) d (.frz o (.dK (cu q)))) m.2=some (.lst ((i3 g G ss m.1).map V.str)):=λm r=>by
  rw[ae (Z7 m r)];exact a8.upd v _ _ (er m r)
 have f0:H l=none:=none_of s1 v;generalize upd (upd H1 l (.dK [])) d (.frz o (.dK (cu q)))=Hz at S U sz X;have Up:∀m∈q,m.2≠l:=λm r z=>by have:=X m r;rw[z,S]at this;cases this
 refine m9 J (λi σ H3=>∃v4,σ=[some (.ref x),some (.int n),some (.ref d),some (.ref l),v4,none,none,none]/\H3 l=some (.dK (qX (λp=>.int (iB g G ss 0 p)) (ss.take i)))/\∀c u,Hz c=some u->c≠l->H3 c=some u) ⟨none,rfl,S,λc u e _=>e⟩ (λi σ H3 _ ⟨_,_,_,b⟩=>b _ _ U Z) ?_ ?_
 ·rintro i y σ H3 hy ⟨v4,rfl,h3,b⟩;obtain⟨p,Od,rfl,hi,Dx,qL⟩:=gZ hy;refine⟨_,rfl,_,rfl,l,_,rfl,ke.k (k:=wai p) h3 (by rw[AH,wak];exact bz (by omega)),?_⟩;refine⟨_,rfl,?_,λc u e hc=>by rw[ae hc];exact b c u e hc⟩;rw[a6,f9 _ (yd _ (iQ nd Od)),qL,ye];rfl
 rintro σ H3 ⟨v4,rfl,h3,b⟩;rw[wa0,waI]at h3;have s3:a8 H H3:=λc u e=>b _ _ (sz _ _ e) (af e f0);have Uq:=b _ _ U Z;have SK:∀m∈q,H3 m.2=some (.lst ((i3 g G ss m.1).map V.str)):=λm r=>b _ _ (X m r) (Up m r);clear b S U sz X J v h1 er;refine⟨_,rfl,by show 1<=sizeLine;decide,λlt C=>?_⟩;have flt:H lt=none:=none_of s3 C
 refine⟨_,rfl,n,rfl,by omega,by omega,cU (lo:=0) (n:=n.toNat) (Z6 g G ss q o x d lt n H)
  ⟨[l],l,_,none,none,rfl,rfl,rfl,a6,?_,a8.upd C _ _ Uq,λm r=>a8.upd C _ _ (SK m r),s3.trans (a8.upd C)⟩ ?_ ?_⟩
 ·intro j t R
  cases j with
  |zero=>
   obtain rfl:l=t:=wag R;exact a8.upd C _ _ h3
  |succ j=>simp at R
 ·rintro i σ H4 hi ⟨ts,dc,v4,v6,v7,rfl,M,Wx,Ur,Y,D,Mz,s4⟩;refine λdl G4=>?_;have sd:a8 H4 (upd H4 dl (.dK [])):=a8.upd G4;have Tl:=Y i dc Wx;have J:=jD d o (cu q);rw[I]at J;have nle:d≠dl:=af D G4;refine⟨_,rfl,d,_,rfl,.inr ⟨o,sd _ _ D,?_⟩⟩;refine m9 J (λj σ H5=>∃v4,σ=[some (.ref x),some (.int n),some (.ref d),some (.ref dc),v4,some (.ref lt),some (.int (0+(i:Int))),some (.ref dl)]/\H5 dl=some (.dK (qX (λp=>.int (iB g G ss (i+1) p)) (ss.take j)))/\∀c u,H4 c=some u->H5 c=some u) ⟨_,rfl,a6,λc u e=>sd _ _ e⟩ (λj σ H5 _ ⟨_,_,_,b⟩=>b _ _ D) ?_ ?_
  ·rintro j y σ H5 hy ⟨v4,rfl,h5,b⟩;obtain⟨p,P7,rfl,hj,Dx,qL⟩:=gZ hy;obtain⟨a,ha,hv⟩:=iG (mv:=q) (k:=p) (by rw[ek];exact Dx);have e1:=eD.f (k:=(wai p:Key)) (b _ _ D);rw[hv]at e1;have Wy:=b _ _ (Mz _ ha);have Us:=b _ _ Tl;have el:=CY g G ss p;refine⟨_,rfl,_,rfl,d,_,rfl,e1,a,rfl,⟨_,aM.of Wy⟩,λlm Z8=>?_⟩;refine comp_map (KW (iB g G ss i)) (aP K a ((i3 g G ss p).map V.str)) Z8 (by rw[wa0];exact av (by omega)) (λH' s'=>aM.of (s' _ _ Wy)) (λz H6 Q' hz s6 qq=>?_) (λH6 s6 h6=>?_)
   ·obtain⟨t,R,rfl⟩:=wab.mp hz;have e2:=eD.k (k:=(wai t:Key)) (s6 _ _ Us);rw[uQ _ (CZ he R)]at e2;exact⟨_,rfl,_,rfl,dc,_,rfl,e2,qq H6 (a8.refl _)⟩
   ·rw[qY]at h6;refine⟨lm,_,rfl,aM.of h6,?_⟩;have Z9:=s6 _ _ h5;refine⟨_,rfl,_,rfl,dl,_,rfl,ke.k (k:=wai p) Z9 (by rw[AH,wak];exact bz (by omega)),?_⟩;refine⟨_,rfl,?_,λc u e=>by rw[ae (af e G4)];exact s6 _ _ (b c u e)⟩;rw[a6,f9 _ (yd _ (iQ nd P7)),qL,ye];rfl
  rintro σ H5 ⟨v4',rfl,h5,b⟩;rw[wa0,waI]at h5;have O:=b _ _ Ur;refine⟨_,rfl,.inl ⟨rfl,_,aM.of O⟩,_,rfl,lt,_,_,rfl,rfl,O,by rw[wa0];exact wbe (m:=200000) (by omega) (by rw[wcb];decide),?_⟩;have Za:∀t,H5 t=some (.dK (NM g G ss (i+1)))->t≠lt:=λt e z=>by rw[z,O]at e;cases e
  refine⟨_,rfl,ts++[dl],dl,_,_,_,rfl,by rw[wa5,M];rfl,by rw[waD (by omega),M,wbC];rfl,by rw[a6,wao];rfl,?_,?_,?_,?_⟩
  ·intro j t R
   by_cases hj:j<ts.length
   ·rw[waF hj]at R;have e:=b _ _ (Y j t R);rw[ae (λz=>by rw[z,O]at e;cases e)];exact e
   ·have Zb:j=i+1:=by
     have:=(wa6.mp R).1;rw[wa5,wci]at this;omega
    subst Zb;rw[waD (by omega),M,wbC]at R;obtain rfl:dl=t:=wag R;rw[ae (Za _ h5)];exact h5
  ·have e:=b _ _ D;rw[ae (λz=>by rw[z,O]at e;cases e)];exact e
  ·intro m r;have e:=b _ _ (Mz m r)
   by_cases z:m.2=lt
   ·exfalso;have f:=SK m r;rw[z,C]at f;cases f
   ·rw[ae z];exact e
  ·exact λc u e=>by rw[ae (af e flt)];exact b _ _ (s4 _ _ e)
 ·rintro σ H4 ⟨ts,dc,v4,v6,v7,rfl,M,Wx,Ur,Y,D,Mz,s4⟩;exact⟨_,rfl,k lt ts H4 s4 flt Ur M Y⟩
theorem xi(L:Lk K mg):aS P w K mg base d8 6 L.pJ L.pK ["band","place","length"] (Ir L.az):=by
 refine L.kP.F.dQ (N:=["band","place","length"]) (λD A outer s H U Q E nd u h=>?_);obtain⟨x,p,n,g,v,ss,ls,rfl,B,y,e,f,i,j,k⟩:=h;have G:=fb u
 refine⟨_,(a7 (bu (cX (pv 0) L.aG.cl L.c9.m (iy L) (u.mono (by decide)) L.c9.b .nil bI (a5 (pv 1) a9)))
  (ag (aB (da G (bf bF (au (lT L) L.fO (a5 (pv 0) (a5 (pv 2) a9))) (PL N4 aq) (λ_ _=>rfl)) (pv 1) (λ_ _=>rfl))))),?_⟩
 try dsimp only[dC,dA,b6,b7]
 obtain⟨⟨I,b,d,q,X,J,Y,Z,h4,h5,h6⟩,_,_,_⟩:=id B;refine⟨_,rfl,x,I,_,rfl,J,CC _ _ _ _ (by decide+kernel) (by decide+kernel) (by decide+kernel) (by decide+kernel),_,rfl,x,p,g,v,ss,ls,rfl,B,y,?_⟩;refine⟨_,rfl,_,rfl,x,n,g,v,ss,ls,rfl,B,e,f,i,j,λl o M O f1 hl a R=>?_⟩;obtain⟨c,t,rfl⟩:∃l t,o=l++[t]:=⟨o.dropLast,o.getLast (by intro z;rw[z]at a;simp at a),(wdq _).symm⟩;have S:yV ((c++[t]).map V.ref) (-1)=some (.ref t):=by rw[wao];exact He _ _
 have r:c.length=n.toNat:=by rw[wa5,wci]at a;omega
 have T:=R n.toNat t (by rw[waD (by omega),r,wbC];rfl);have C:=eD.k (k:=(wai p:Key)) T;rw[uQ _ y]at C;exact⟨_,rfl,l,_,-1,_,rfl,rfl,aM.of hl,S,_,rfl,t,_,rfl,C,k M O⟩
theorem Jh(L:Lk K mg):aS P w K mg base d8 7 L.Es L.Et ["band","length"] (KZ L.az):=by
 refine L.zx.F.dQ (N:=["band","length"]) (λf A outer s H j Q E nd l h=>?_);obtain⟨x,n,g,e,ss,ls,rfl,B,a,b,c,d,k⟩:=h;refine⟨_,(ag (aB (au (xi L) L.kP (a5 (pv 0) (a5 eV (a5 (pv 1) a9)))))),?_⟩
 try dsimp only[dC,dA,b6,b7]
 have i:("":Str)∈ss:=B.pm.mem_iff.mpr (cn e);exact⟨_,rfl,_,rfl,x,"",n,g,e,ss,ls,rfl,B,i,a,b,c,d,k⟩
theorem ni(L:Lk K mg):aS P w K mg base d8 1 L.vF L.vG ["thing"] Ii:=by
 have T:=L.T;refine L.iT.F.dQ (N:=["thing"]) (λa A outer s H b Q E nd c h=>?_);obtain⟨i,rfl,k⟩:=h;refine⟨_,(ag (aB (C4 (aC cZ (by rfl) T.LJ zb (a5 (pv 0) (a5 (iA (v:=.ty "int") (by rfl) T.int Qy rfl) a9))) (C3 (GN (aC cZ (by rfl) T.LJ zb (a5 (pv 0) (a5 (iA (v:=.ty "bool") (by rfl) T.bool Mp rfl) a9)))))))),?_⟩
 try dsimp only[dC,dA,b6,b7]
 refine⟨_,rfl,_,_,_,true,rfl,j4.int i,rfl,true,rfl,fJ ?_⟩;exact⟨_,rfl,_,_,_,false,rfl,j4.int i,rfl,false,rfl,k⟩
theorem Bq(L:Lk K mg):aS P w K mg base d8 1 L.vH L.vI ["band","wide"] (Fw L.az):=by
 have T:=L.T;refine L.oK.F.dQ (N:=["band","wide","rows","step"]) (λf A outer s H r Q E nd t h=>?_);obtain⟨x,n,g,u,ss,ls,rfl,B,j,l,m,k⟩:=h
 refine⟨_,(a7 (ai (i:=2) aq)
  (a7 (b0 wal rfl (cT rfl T.range (a5 (pv 1) a9)) (aw (i:=3)) (ag (ur (i:=2) nd rfl (wdR rfl) (aC bJ (by rfl) T.len waM (a5 (aD (pv 0) rfl) a9)) Ih)))
  (ag (aB (pv 2))))),?_⟩
 try dsimp only[dC,dA,b6,b7]
 obtain⟨⟨o,b,d,q,v,p,y,z,C,D,G⟩,_,_,_⟩:=id B;refine⟨_,rfl,n,rfl,by omega,by omega,cU (lo:=0) (n:=n.toNat) (λi σ a=>a=H/\∃c,σ=[some (.ref x),some (.int n),some (.int ((g.length:Int)^i)),c]) ⟨rfl,none,rfl⟩ ?_ ?_⟩
 ·rintro i σ a hi ⟨e,c,rfl⟩;rw[e];refine⟨_,rfl,_,rfl,x,L.az,o,_,_,rfl,p,L.aG.cl,L.aG.pG,kz g b d q,g,rfl,av (by omega),_,_,rfl,rfl,.inr ⟨by omega,by omega⟩,rfl,some (.int (0+(i:Int))),?_⟩;rw[wfH];rfl
 ·rintro σ a ⟨e,c,rfl⟩;rw[e];exact⟨_,rfl,k⟩
theorem Dy(L:Lk K mg):aS P w K mg base d8 2 L.yy L.yz ["band","many","wide"] (AI L.az):=by
 refine L.rA.F.dQ (N:=["band","many","wide"]) (λc A outer s H f Q E nd i h=>?_);obtain⟨x,many,wide,g,d,ss,ls,rfl,B,a,b,k⟩:=h
 refine⟨_,(a7 (bK (PW.pt (j7 (eW (cQ (au (ni L) L.iT (a5 (pv 1) a9)))) (j7 (aH nK (pv 1) aq (aU _)) (m3 (aH nL (pv 1) aq (aU _)))))) (ag (aB gX)) aQ)
  (a7 (bK (PW.pt (j7 (eW (cQ (au (ni L) L.iT (a5 (pv 2) a9)))) (j7 (aH nK (pv 2) aq (aU _)) (m3 (aH nL (pv 2) aq (aU _)))))) (ag (aB gX)) aQ)
  (ag (aB (k8 PR (au (Bq L) L.oK (a5 (pv 0) (a5 (pv 2) a9))) aq (aU _)))))),?_⟩
 try dsimp only[dC,dA,b6,b7]
 obtain⟨ha,j,hc,hd,e⟩:=id b;refine⟨_,rfl,many,rfl,true,rfl,cm ?_⟩;refine⟨_,rfl,_,_,rfl,rfl,false,congrArg V.bl (decide_eq_false (by omega)),cm ?_⟩;refine⟨_,rfl,_,_,rfl,rfl,false,congrArg V.bl (decide_eq_false (by omega)),cm ?_⟩;refine⟨_,rfl,wide,rfl,true,rfl,cm ?_⟩;refine⟨_,rfl,_,_,rfl,rfl,false,congrArg V.bl (decide_eq_false (by omega)),cm ?_⟩;refine⟨_,rfl,_,_,rfl,rfl,false,congrArg V.bl (decide_eq_false (by omega)),cm ?_⟩;refine⟨_,rfl,_,rfl,x,wide,g,d,ss,ls,rfl,B,a,by omega,by omega,_,_,rfl,rfl,?_⟩;show Q (V.bl (decide ((g.length:Int)^wide.toNat<=64))) H;rw[decide_eq_true e];exact k
theorem gU(L:Lk K mg):aS P w K mg base d8 3 L.pH L.pI ["band","many","wide"] (AI L.az):=by
 refine L.eQ.F.dQ (N:=["band","many","wide"]) (λc A outer s H e Q E nd f h=>?_);obtain⟨x,many,wide,g,d,ss,ls,rfl,B,a,b,k⟩:=h
 refine⟨_,(a7 (bK (eW (cQ (au (Dy L) L.rA (a5 (pv 0) (a5 (pv 1) (a5 (pv 2) a9)))))) dg aQ)
  (ag (aB gX))),?_⟩
 try dsimp only[dC,dA,b6,b7]
 exact⟨_,rfl,_,rfl,_,rfl,x,many,wide,g,d,ss,ls,rfl,B,a,b,true,rfl,cm k⟩
theorem G5(L:Lk K mg):aS P w K mg base d8 6 L.Bh L.Bi ["band","many","wide","most"] (FD L.az):=by
 have T:=L.T;refine L.vM.F.dQ (N:=["band","many","wide","most","table","rows_of_data","length"]) (λhX A outer s H vs Q E nd hr h=>?_);obtain⟨x,many,wide,most,g,m,ss,ls,rfl,B,q,D,r,Wz,Zc,Z⟩:=h;have k1:∀k:Nat,1<=k->(k:Int)<=most->iB g m ss (k*wide.toNat) "" < many^k->(∀j:Nat,1<=j->j<k->¬iB g m ss (j*wide.toNat) "" < many^j)->∀f,a8 H f->Q (.int (k:Nat)) f:=λk a b c d f G=>Z _ f G (.some k a b c d);have k2:(∀j:Nat,1<=j->(j:Int)<=most->¬iB g m ss (j*wide.toNat) "" < many^j)->∀f,a8 H f->Q .non f:=λa f G=>Z _ f G (.none a);have hu:=fb hr
 refine⟨_,(a7 (bu (au (gU L) L.eQ (a5 (pv 0) (a5 (pv 1) (a5 (pv 2) a9)))))
  (a7 (ai (i:=4) (au (lT L) L.fO (a5 (pv 0) (a5 (aO gx (pv 3) (pv 2)) a9))))
  (a7 (ai (i:=5) aq)
  (a7 (b0 wal rfl (qO rfl T.range (a5 aq (a5 (aO dH (pv 3) aq) a9))) (aw (i:=6)) (a7 (ur (i:=5) nd rfl (wdR rfl) (pv 1) Ih)
  (ag (bK (aH nK (da hu (bf bF (pv 4) (aO gx (pv 6) (pv 2)) (λ_ _=>rfl)) eV (λ_ _=>rfl)) (pv 5) (aU _)) (ag (aB (pv 6))) aQ))))
  (ag (aB gu)))))),?_⟩
 try dsimp only[dC,dA,b6,b7]
 have he:("":Str)∈ss:=B.pm.mem_iff.mpr (cn m);obtain⟨ha,hb,hc,hd,_⟩:=id r;obtain⟨e,t⟩:∃w:Nat,wide=(w:Int):=⟨wide.toNat,by omega⟩;obtain⟨u,I⟩:∃w:Nat,most=(w:Int):=⟨most.toNat,by omega⟩;have o:most*wide=((u*e:Nat):Int):=by rw[t,I,wbo]
 have bmw:u*e<=600:=by
  have p:u<=100:=by omega
  have h2:e<=6:=by omega
  exact waj (wc3 p h2) (by decide)
 have ew:wide.toNat=e:=by omega
 rw[ew]at k1 k2;refine⟨_,rfl,_,rfl,_,rfl,x,many,wide,g,m,ss,ls,rfl,B,q,r,?_⟩;refine⟨_,rfl,_,rfl,_,rfl,_,_,rfl,rfl,.inl ⟨by omega,by omega⟩,x,most*wide,g,m,ss,ls,rfl,B,q,D,by rw[o];omega,by rw[o];omega,λl J M s1 f1 hl O ht=>?_⟩;rw[o,waG]at O;refine⟨_,rfl,_,_,rfl,rfl,1,most+1,rfl,⟨by omega,by omega,by omega,by omega⟩,cU (lo:=1) (n:=(most+1-1).toNat) (λi σ R=>R=M/\(∃v6,σ=[some (.ref x),some (.int many),some (.int wide),some (.int most),some (.ref l),some (.int (many^i)),v6])/\∀j:Nat,1<=j->j<=i->¬iB g m ss (j*e) "" < many^j) ⟨rfl,⟨none,by rw[Int.pow_zero];rfl⟩,λj p h2=>by omega⟩ ?_ ?_⟩
 ·rintro i σ R hi ⟨S,⟨v6,rfl⟩,lo⟩;rw[S];have U:i+1<=u:=by omega
  have WB:(i+1)*e<=u*e:=weA _ U;have v:(i+1)*e<J.length:=by omega
  have e1:(J.map V.ref)[(i+1)*e]?=some (.ref J[(i+1)*e]):=by rw[wa4,wa1 v];rfl
  have y:=bE e1;have ei:((((i+1)*e:Nat)):Int)=(1+(i:Int))*wide:=by rw[t,wbo,wcK,Int.add_comm];rfl
  rw[ei]at y;have X:=ht _ _ (wa1 v);have e3:=eD.k (k:=(wai "":Key)) X;rw[uQ _ he]at e3;refine⟨_,rfl,_,rfl,_,_,rfl,rfl,.inr ⟨by omega,by omega⟩,?_⟩;refine⟨_,rfl,_,rfl,_,rfl,_,_,rfl,rfl,.inr ⟨by omega,by omega⟩,l,_,_,_,rfl,rfl,aM.of hl,y,_,_,rfl,e3,_,rfl,_,_,rfl,rfl,_,rfl,?_⟩;refine Am (λp=>?_) (λp=>⟨rfl,⟨_,by rw[wfH];rfl⟩,λj C q2=>?_⟩)
  ·have Y:=of_decide_eq_true p;have:=k1 (i+1) (by omega) (by omega) (by rw[wfH];exact Y) (λj C q2=>lo j C (by omega)) M s1;rw[show (((i+1:Nat):Nat):Int)=1+(i:Int) by omega]at this;exact⟨_,rfl,this⟩
  ·by_cases hj:j<=i
   ·exact lo j C hj
   ·obtain rfl:j=i+1:=by omega
    rw[wfH];exact λz=>p (decide_eq_true z)
 ·rintro σ R ⟨S,⟨v6,rfl⟩,lo⟩;rw[S];exact k2 (λj C q2=>lo j C (by omega)) M s1
theorem tN(L:Lk K mg):aS P w K mg base d8 1 L.mC L.mD ["line"] (IA K):=by
 refine L.iU.F.dQ (N:=["line"]) (λo A outer s H D Q E nd c h=>?_);obtain⟨v,p,rfl,t,hn,k⟩:=h;refine⟨_,(ag (aB (fL rfl (ax [] []) (ax [] []) (by decide) (aN (pv 0)) (λ_ _ _ _ _ _=>bq) (λ_ _ _ _ _ _=>(ee (a5 (pv 0) (a5 (pv 1) a9))))))),?_⟩
 try dsimp only[dC,dA,b6,b7]
 obtain⟨a,u,rfl,j,b,x⟩:=kJ t;have d:=b;rw[wa0]at d;refine⟨_,rfl,a,rfl,⟨_,j⟩,λl hl=>?_⟩;refine jG (prs:=p.map eI) (λ_=>true) (λq=>.tup [.at q.1,.at q.2]) (aP K a u) b (λi q e=>let ⟨r,y,B⟩:=x i q e;⟨r,y,gL.of B⟩) hl (av (by omega)) (λm f=>f.seq j) (λq n C _ _ g=>g n (a8.refl _)) (λq n C e _ G g=>?_) (λm f r=>?_)
 ·obtain⟨z,I,rfl⟩:=wab.mp e;exact⟨_,rfl,_,rfl,by show 2<=sizeLine;decide,λr c=>g _ _ (a8.upd c) (mr c z)⟩
 ·rw[wb6.mpr (λ_ _=>rfl),wah]at r;exact k _ m f r
theorem g8(L:Lk K mg):aS P w K mg base d8 2 L.gE L.jI ["self","homes","weights","lines"] (IB K L.aA):=by
 have T:=L.T;refine L.dm.F.dQ (N:=["self","homes","weights","lines"]) (λhX A outer s H vs Q E nd hr h=>?_);obtain⟨x,j,u,v,w,C,D,t,rfl,J,Z,Ut,MA,n1,n2,n3,n4,k⟩:=h
 refine⟨_,(a7 (d4 (pv 0) (bH dI (by rfl) T.list iN (a5 (pv 1) a9)) rfl)
  (a7 (d4 (pv 0) (bH dI (by rfl) T.list iN (a5 (pv 2) a9)) rfl)
  (ag (d4 (pv 0) (cD rfl (ax [] []) (aN (pv 3)) (λ_ _ _ _ _ _=>bq) (λ_ _ _ _ _ _=>(au (tN L) L.iU (a5 (pv 0) a9)))) rfl)))),?_⟩
 try dsimp only[dC,dA,b6,b7]
 obtain⟨a,rfl,ha⟩:=Iy Z;obtain⟨b,rfl,hb⟩:=iS Ut;obtain⟨c,xs,rfl,hc,M⟩:=MA;have xl:xs.length=t.length:=by rw[M.len,wa0]
 have l:∀{d:Addr} {ys:List V} {H':Hp},aM K H d ys->(∀b o,H b=some o->b≠x->H' b=some o)->aM K H' d ys:=λhS kp=>(fh kp).seq (zg J hS);refine⟨_,rfl,a,_,rfl,.inl ha,λf B=>?_⟩;have m:x≠f:=af J B;refine⟨_,rfl,x,L.aA,j,[],rfl,by rw[ae m];exact J,L.ay.cl,L.ay.fN,(show 0<1000 by decide),?_⟩;rw[Mt];have X:∀d o,H d=some o->d≠x->(upd (upd H f (.lst (C.map V.str))) x (.ins L.aA j (sF f))) d=some o:=λd o e hd=>by rw[ae hd];exact a8.upd B _ _ e
 have x1:(upd (upd H f (.lst (C.map V.str))) x (.ins L.aA j (sF f))) x=some (.ins L.aA j (sF f)):=a6;have a1:(upd (upd H f (.lst (C.map V.str))) x (.ins L.aA j (sF f))) f=some (.lst (C.map V.str)):=by rw[ae m.symm,a6]
 generalize upd (upd H f (.lst (C.map V.str))) x (.ins L.aA j (sF f))=O at X x1 a1 ⊢;refine⟨_,rfl,b,_,rfl,.inl (l hb X),λg n=>?_⟩;have p:x≠g:=af x1 n;have Zd:f≠g:=af a1 n
 have Uu:H g=none:=by
  cases q:H g with
  |none=>rfl
  |some o=>have:=X _ _ q p.symm;rw[n]at this;cases this
 refine⟨_,rfl,x,L.aA,j,sF f,rfl,by rw[ae p];exact x1,L.ay.cl,L.ay.dj,(show 1<1000 by decide),?_⟩;rw[Iz];have G:∀d o,H d=some o->d≠x->(upd (upd O g (.lst (D.map V.int))) x (.ins L.aA j (pA f g))) d=some o:=λd o e hd=>by rw[ae hd];exact a8.upd n _ _ (X _ _ e hd)
 have Y:(upd (upd O g (.lst (D.map V.int))) x (.ins L.aA j (pA f g))) x=some (.ins L.aA j (pA f g)):=a6;have a2:(upd (upd O g (.lst (D.map V.int))) x (.ins L.aA j (pA f g))) f=some (.lst (C.map V.str)):=by rw[ae m.symm,ae Zd];exact a1
 have b2:(upd (upd O g (.lst (D.map V.int))) x (.ins L.aA j (pA f g))) g=some (.lst (D.map V.int)):=by rw[ae p.symm,a6]
 generalize upd (upd O g (.lst (D.map V.int))) x (.ins L.aA j (pA f g))=H2 at G Y a2 b2 ⊢;have R:=bo.same (fh G) _ _ (bo.off J _ _ M);refine⟨_,rfl,c,rfl,⟨_,l (.inl hc) G⟩,λc' S=>?_⟩;refine vf (K:=K) (t.map bY) (aP K c xs) S (av (by omega)) (by rw[wa0,xl]) (λH' s'=>s'.seq (l (.inl hc) G)) (λi y d U Q' hy hd I qq=>?_) (λU I r3=>?_)
 ·obtain⟨d',e',r⟩:=R.get i y hy;rw[hd]at e';cases e';rw[wa4]at hd
  cases e:t[i]? with
  |none=>rw[e]at hd;cases hd
  |some qs=>
   rw[e]at hd;cases hd;exact⟨_,rfl,y,qs,rfl,bL.same I _ _ r,n4 qs (wa9 e),λz H4 s4 r4=>qq z H4 s4 r4⟩
 ·have ncx:x≠c':=af Y S;refine⟨_,rfl,x,L.aA,j,pA f g,rfl,I _ _ Y,L.ay.cl,L.ay.cN,(show 2<1000 by decide),?_⟩;rw[Eh];have up:a8 (aJ H U) (aJ H (upd U x (.ins L.aA j (D8 f g c')))):=bR J λd o e hd=>by rw[ae hd];exact e
  have old:a8 (aJ H2 U) (aJ H U):=λd o e=>by
   unfold aJ at e ⊢
   cases q:H d with
   |none=>
    cases q2:H2 d with
    |none=>rw[q2]at e;exact e
    |some z=>rw[q2]at e;cases e
   |some z=>
    by_cases hd:d=x
    ·rw[hd,Y]at e;cases e
    ·rw[G _ _ q hd]at e;cases e
  refine k f g c' _ a6 ?_ ?_ (bL.same (old.trans up) _ _ r3) λd o e hd=>by rw[ae hd];exact I _ _ (G _ _ e hd)
  ·exact pz ((bX B (by rw[ae m.symm];exact I _ _ a2)))
  ·exact jH ((bX Uu (by rw[ae p.symm];exact I _ _ b2)))
theorem lU(L:Lk K mg):aS P w K mg base d8 1 L.mE L.mF ["number","things"] (Lj K):=by
 have T:=L.T;refine L.fP.F.dQ (N:=["number","things"]) (λc A outer s H f Q E nd g h=>?_);obtain⟨i,a,b,rfl,d,k⟩:=h;refine⟨_,(ag (aB (C4 (k8 GX (pv 0) aq (aU _)) (C3 (k8 nK (pv 0) (aC bx (by rfl) T.len waM (a5 (pv 1) a9)) (aU _)))))),?_⟩
 try dsimp only[dC,dA,b6,b7]
 by_cases h0:0<=i
 ·have e:fg i b.length=decide (i<(b.length:Int)):=by unfold fg;rw[decide_eq_true h0,web]
  rw[e]at k;exact⟨_,rfl,_,_,rfl,rfl,true,congrArg V.bl (decide_eq_true h0),fJ ⟨_,rfl,_,rfl,a,b,rfl,.inl d,_,_,rfl,rfl,k⟩⟩
 ·have e:fg i b.length=false:=by unfold fg;rw[decide_eq_false h0,wdp]
  rw[e]at k;exact⟨_,rfl,_,_,rfl,rfl,false,congrArg V.bl (decide_eq_false h0),cm k⟩
theorem og(L:Lk K mg):aS P w K mg base (BX P w) 1 L.pN L.pO ["sheet","many","steps","weight"] (NY K L.aA L.fF):=by
 have T:=L.T;refine L.d2.F.Fs (N:=["sheet","many","steps","weight"]) (λU A outer s H vs Q E nd hr h=>?_);obtain⟨x,many,v,w,hs,c,X,b,rfl,S,Y,Z,t,m0,m1,k⟩:=h
 refine⟨_,(a7 (bK (aH rY (aC bx (by rfl) T.len waM (a5 (pv 2) a9)) aq (aU _)) (ag (gz d1 rfl L.iK L.gH rfl L.iJ (a5 eV a9))) aQ)
  (a7 (bK (aH nK (pv 3) aq (aU _)) (ag (gz d1 rfl L.iK L.gH rfl L.iJ (a5 eV a9))) aQ)
  (ag (bK (aH nK (aC (ml rfl) (by rfl) T.sum Fn (a5 (fL rfl (ax ["sheet"] [0]) (ax ["sheet"] [0]) (by decide) (aN (pv 2)) (λ_ _ _ _ _ _=>bq) (λ_ _ _ _ _ _=>(bf (gY (K:=K) rfl) (nD (K:=K) rfl (pv 2) rfl) (pv 1) (λ_ _=>rfl)))) a9)) (aO gx (pv 1) (pv 3)) (aU _)) (ag (gz d1 rfl L.iK L.gH rfl L.iJ (a5 eV a9))) aQ)))),?_⟩
 try dsimp only[dC,dA,b6,b7]
 obtain⟨dx,ah,bw,cl,hx,rh,u,rl⟩:=id S;obtain⟨WC,eb,hb⟩:=iS u;cases eb;obtain⟨a,o,rfl,p,J⟩:=dY Y;have g:o.length=b.length:=by rw[J.1,wa0,wa0]
 have no:f7 c many b w=false->∀y,a8 H y->E (.ref L.fF) none y:=λh=>by
  rcases k with⟨r,_⟩ |⟨_,i⟩
  ·rw[h]at r;cases r
  ·exact i
 by_cases B:b=[]
 ·subst B;have r0:o=[]:=wbz g;subst r0;exact⟨_,rfl,a,_,rfl,.inl p,rfl,true,Ig _,fJ ⟨rfl,no rfl H (a8.refl _)⟩⟩
 have hq1:o.length≠0:=by rw[g];exact λz=>B (wbz z)
 have j:b.isEmpty=false:=by cases b with |nil=>exact absurd rfl B |cons _ _=>rfl
 refine⟨_,rfl,a,_,rfl,.inl p,rfl,false,congrArg V.bl (decide_eq_false λz=>by have:=V.int.inj z;rw[wa0]at this;omega),cm ?_⟩
 by_cases M:w<1
 ·refine⟨_,rfl,_,_,rfl,rfl,true,congrArg V.bl (decide_eq_true M),fJ ⟨rfl,no ?_ H (a8.refl _)⟩⟩;unfold f7;rw[decide_eq_false (show ¬1<=w by omega),wdp,we1]
 refine⟨_,rfl,_,_,rfl,rfl,false,congrArg V.bl (decide_eq_false M),cm ?_⟩;refine⟨_,rfl,a,rfl,⟨_,p⟩,λlc C=>?_⟩;refine oB (prs:=b.map eI) (λ_=>true) (λq=>match q.2 with |.int e=>.int (c.getD e.toNat 0) |_=>.non) (aP K a (o.map V.ref)) J C (av (by omega)) (λy s'=>s'.seq p) (λq d O _ _ D=>D d (a8.refl _)) (λq d O hq _ l D=>?_) (λd l R=>?_)
 ·obtain⟨f,G,rfl⟩:=wab.mp hq;have m:=t f G;have I:yV (c.map V.int) (f.2:Int)=some (.int (c.getD f.2 0)):=bE (by rw[wa4,wa1 m,wa3,wa1 m];rfl)
  have q2:O (.int (c.getD f.2 0)) d:=by
   have:=D d (a8.refl _);rwa[show (eI f).2=.int (f.2:Int) from rfl]at this
  exact⟨_,rfl,x,L.aA,dx,_,_,rfl,l _ _ hx,L.ay.cl,L.ay.dj,cF ah bw cl,_,rfl,bw,_,_,_,rfl,rfl,l.seq hb,I,q2⟩
 have e7:((b.map eI).filter λ_=>true).map (λq=>match q.2 with |.int e=>V.int (c.getD e.toNat 0) |_=>.non)=(b.map λq=>c.getD q.2 0).map V.int:=by
  rw[wb6.mpr (λ_ _=>rfl),wah,wah];rfl
 rw[e7]at R;refine⟨lc,_,rfl,aM.of R,_,rfl,_,rfl,_,_,rfl,rfl,.inl ⟨by omega,by omega⟩,_,_,rfl,rfl,?_⟩
 by_cases n:b9 c b<many*w
 ·refine⟨true,congrArg V.bl (decide_eq_true n),fJ ⟨rfl,no ?_ d l⟩⟩;unfold f7;rw[decide_eq_false (show ¬many*w<=b9 c b by omega),we1,we1]
 ·refine⟨false,congrArg V.bl (decide_eq_false n),cm ?_⟩;rcases k with⟨_,r⟩ |⟨i,_⟩
  ·exact r d l
  ·unfold f7 at i;rw[j,decide_eq_true (show 1<=w by omega),decide_eq_true (show many*w<=b9 c b by omega)]at i;cases i
theorem xj(L:Lk K mg):aS P w K mg base d8 1 L.pP L.pQ ["line","desk","twin"] (Ln K):=by
 refine L.kR.F.dQ (N:=["line","desk","twin","steps","word","end"]) (λhX A outer s H vs Q E nd u h=>?_);obtain⟨v,d,t,p,rfl,hL,MC,k⟩:=h
 refine⟨_,(a7 (ai (i:=3) (cC a9))
  (a7 (b0 wal rfl (aN (pv 0)) (dG rfl (aK (aw (i:=4)) (aK (aw (i:=5)) cB))) (a7 (bu (j8 waT waX waZ cV (pv 3) (a5 (ee (a5 (pv 4) (a5 (pv 5) a9))) a9)))
  (ag (bK (aH rY (pv 5) (pv 1) (aU _)) (ag (bu (j8 waT waX waZ cV (pv 3) (a5 (ee (a5 (pv 4) (a5 (pv 2) a9))) a9)))) aQ))))
  (ag (aB (pv 3))))),?_⟩
 try dsimp only[dC,dA,b6,b7]
 obtain⟨a,S,rfl,hS,hT⟩:=dY hL;have Dw:S.length=p.length:=by rw[hT.1,wa0,wa0]
 refine⟨waB _,λb M=>?_⟩;have sb:a8 H (upd H b (.lst [])):=a8.upd M;have x:(upd H b (.lst [])) b=some (.lst []):=a6;generalize upd H b (.lst [])=B at sb x;have keep:∀{g:Hp},(∀c o,B c=some o->c≠b->g c=some o)->a8 H g:=λC c o e=>C _ _ (sb _ _ e) (af e M)
 refine⟨_,rfl,a,rfl,⟨_,sb.seq hS⟩,dh (K:=K) (a:=a) (xs:=S.map V.ref) (λj σ g=>∃(v4 v5:Option V) (as:List V),σ=[some (.ref a),some (.int (d:Int)),some (.int (t:Int)),some (.ref b),v4,v5]/\g b=some (.lst as)/\(∀c o,B c=some o->c≠b->g c=some o)/\bo K (aJ B g) ((eS d t (p.take j)).map lF) as)
  ⟨none,none,[],rfl,x,λc o e _=>e,rfl⟩ (λj σ g _ ⟨_,_,_,_,_,C,_⟩=>(keep C).seq hS) ?_ ?_⟩
 ·rintro j y σ g hy ⟨v4,v5,as,rfl,l,C,T⟩;have hj:j<S.length:=by have:=(wa6.mp hy).1;rwa[wa0]at this
  have U:j<p.length:=by omega
  rw[wa4,wa1 hj]at hy;cases hy;have X:H S[j]=some (.tup [.str p[j].1,.int (p[j].2:Int)]):=hT.2 j S[j] (jF (eI p[j])) (wa1 hj) (by rw[wa4,wa4,wa1 U];rfl);have qL:p.take (j+1)=p.take j++[p[j]]:=by rw[waN,wa1 U];rfl
  have WD:as.length<=2*j:=by
   rw[T.len,wa0];exact waj (rp d t _) (wc7 2 (by rw[wak];omega))
  generalize p[j]=q at X qL;refine⟨S[j],_,rfl,gL.of (keep C _ _ X),rfl,_,_,rfl,_,_,rfl,rfl,?_⟩;refine⟨_,rfl,.inl ⟨rfl,_,aM.of l⟩,_,rfl,_,rfl,by show 2<=sizeLine;decide,λr u=>?_⟩;have I:∀n:Nat,n<=20000->n<sizeLine:=λn hn=>wbe hn (by rw[wcb];decide);have SM:=a8.upd (o:=.tup [.str q.1,.int (q.2:Int)]) u _ _ l;refine⟨b,_,_,rfl,rfl,SM,I _ (by omega),?_⟩;have Y:∀c o,(upd g r (.tup [.str q.1,.int (q.2:Int)])) c=some o->c≠b->(upd (upd g r (.tup [.str q.1,.int (q.2:Int)])) b (.lst (as++[.ref r]))) c=some o:=λc o e hc=>by rw[ae hc];exact e
  have D:∀c o,B c=some o->c≠b->(upd (upd g r (.tup [.str q.1,.int (q.2:Int)])) b (.lst (as++[.ref r]))) c=some o:=λc o e hc=>Y _ _ (a8.upd u _ _ (C c o e hc)) hc
  have r0:B r=none:=by
   cases z:B r with
   |none=>rfl
   |some o=>
    by_cases hc:r=b
    ·rw[hc,l]at u;cases u
    ·rw[C _ _ z hc]at u;cases u
  have O:bo K (aJ B (upd (upd g r (.tup [.str q.1,.int (q.2:Int)])) b (.lst (as++[.ref r])))) ((eS d t (p.take j)).map lF++[lF q]) (as++[.ref r]):=by
   refine iH (bo.same ((iR (a8.upd u)).trans (bR x Y)) _ _ T) ?_;have R:r≠b:=λz=>by rw[z,l]at u;cases u
   exact⟨r,_,rfl,bX r0 (by rw[ae R,a6]),.str q.1,[.int (q.2:Int)],rfl,⟨rfl,rfl⟩,.int (q.2:Int),[],rfl,⟨rfl,rfl⟩,rfl⟩
  have m:(upd (upd g r (.tup [.str q.1,.int (q.2:Int)])) b (.lst (as++[.ref r]))) b=some (.lst (as++[.ref r])):=a6;generalize upd (upd g r (.tup [.str q.1,.int (q.2:Int)])) b (.lst (as++[.ref r]))=H4 at D O m
  by_cases G:q.2=d
  ·refine⟨_,rfl,_,rfl,rfl,true,congrArg V.bl (decide_eq_true (by rw[G])),fJ ?_⟩;refine⟨_,rfl,.inl ⟨rfl,_,aM.of m⟩,_,rfl,_,rfl,by show 2<=sizeLine;decide,λJ f=>?_⟩;have Mz:=a8.upd (o:=.tup [.str q.1,.int (t:Int)]) f _ _ m;refine⟨b,_,_,rfl,rfl,Mz,I _ (by rw[wa5,wci];omega),?_⟩;have Z:∀c o,(upd H4 J (.tup [.str q.1,.int (t:Int)])) c=some o->c≠b->(upd (upd H4 J (.tup [.str q.1,.int (t:Int)])) b (.lst (as++[.ref r]++[.ref J]))) c=some o:=λc o e hc=>by rw[ae hc];exact e
   have Ze:B J=none:=by
    cases z:B J with
    |none=>rfl
    |some o=>
     by_cases hc:J=b
     ·rw[hc,m]at f;cases f
     ·rw[D _ _ z hc]at f;cases f
   refine⟨_,_,_,rfl,a6,λc o e hc=>Z _ _ (a8.upd f _ _ (D c o e hc)) hc,?_⟩;rw[qL,vi,if_pos G,wao];have em:([q,(q.1,t)]:List (Str×Nat)).map lF=[lF q]++[lF (q.1,t)]:=rfl;rw[em,<-waS];refine iH (bo.same ((iR (a8.upd f)).trans (bR x Z)) _ _ O) ?_;have R:J≠b:=λz=>by rw[z,m]at f;cases f
   exact⟨J,_,rfl,bX Ze (by rw[ae R,a6]),.str q.1,[.int (t:Int)],rfl,⟨rfl,rfl⟩,.int (t:Int),[],rfl,⟨rfl,rfl⟩,rfl⟩
  ·refine⟨_,rfl,_,rfl,rfl,false,congrArg V.bl (decide_eq_false λz=>G (by have:=V.int.inj z;omega)),cm ?_⟩;refine⟨_,_,_,rfl,m,D,?_⟩;rw[qL,vi,if_neg G,wao];exact O
 ·rintro σ g ⟨v4,v5,as,rfl,l,C,T⟩;rw[wa0,Dw,waI]at T;exact⟨_,rfl,k _ _ (keep C) ⟨b,as,rfl,.inl (bX M l),bo.same (eP sb) _ _ T⟩⟩
theorem Ji(L:Lk K mg):aS P w K mg base (BX P w) 4 L.Eu L.Ew ["sheet","many","desk","numbers","weight"] (Lp K L.aA L.fF):=by
 have T:=L.T;refine L.pR.F.Fs (N:=["sheet","many","desk","numbers","weight","line","chosen","others","rest","lines","weights","twin"]) (λhX A outer s H vs Q E nd hr h=>?_);obtain⟨x,a,many,B,w,ns,u,j,f,rfl,S,hA,MD,Wv,m0,m1,k⟩:=h
 refine⟨_,(a7 (bK (eW (cQ (au (lU L) L.fP (a5 (pv 2) (a5 (aD (pv 0) rfl) a9))))) (ag (gz d1 rfl L.iK L.gH rfl L.iJ (a5 eV a9))) aQ)
  (a7 (ai (i:=5) (bf bF (aD (pv 0) rfl) (pv 2) (λ_ _=>rfl)))
  (a7 (bK (eW (cQ (aC (Ao rfl) (by rfl) T.all Qi (a5 (cD rfl (ax ["line"] [5]) (aN (pv 3)) (λ_ _ _ _ _ _=>bq) (λ_ _ _ _ _ _=>(au (lU L) L.fP (a5 (pv 0) (a5 (pv 1) a9))))) a9)))) (ag (gz d1 rfl L.iK L.gH rfl L.iJ (a5 eV a9))) aQ)
  (a7 (sH (i:=6) rfl (ax ["numbers"] [3]) nd rfl rfl (ax ["numbers"] [3]) (by decide) (kj (by rfl) T.enum (a5 (pv 5) a9)) (λ_ _ _ _ _ _=>gN (aH (iM (K:=K) rfl) (pv 0) (pv 2) rfl)) (λ_ _ _ _ _ _=>(pv 1)))
  (a7 (sH (i:=7) rfl (ax ["numbers"] [3]) nd rfl rfl (ax ["numbers"] [3]) (by decide) (kj (by rfl) T.enum (a5 (pv 5) a9)) (λ_ _ _ _ _ _=>gN (aH (wQ (K:=K) rfl) (pv 0) (pv 2) rfl)) (λ_ _ _ _ _ _=>(pv 1)))
  (a7 (ai (i:=8) (aO uw (bf bF (aD (pv 0) rfl) (pv 2) (λ_ _=>rfl)) (pv 4)))
  (a7 (bu (k9 (og L) (hr.mono (by decide)) rfl L.d2.g L.d2.F.kp L.d2.b .nil (y8 d1) (a5 (pv 0) (a5 (pv 1) (a5 (pv 6) (a5 (pv 4) a9))))))
  (a7 (bu (k9 (og L) (hr.mono (by decide)) rfl L.d2.g L.d2.F.kp L.d2.b .nil (y8 d1) (a5 (pv 0) (a5 (pv 1) (a5 (pv 7) (a5 (pv 8) a9))))))
  (a7 (ai (i:=9) (aO zh (aD (pv 0) rfl) (cC (a5 (pv 7) a9))))
  (a7 (uq (pv 6) (GQ (pv 9) (pv 2) set_list))
  (a7 (ai (i:=10) (aO zh (aD (pv 0) rfl) (cC (a5 (pv 8) a9))))
  (a7 (uq (pv 4) (GQ (pv 10) (pv 2) set_list))
  (a7 (ai (i:=11) (aC bx (by rfl) T.len waM (a5 (aD (pv 0) rfl) a9)))
  (ag (aB (nB L.qm (g8 L) (hr.mono (by decide)) rfl L.uj L.dm.b .nil bI (a5 (aO zh (aD (pv 0) rfl) (cC (a5 (bf bF (aD (pv 0) rfl) (pv 2) (λ_ _=>rfl)) a9))) (a5 (pv 10) (a5 (cD rfl (ax ["desk","twin"] [2,11]) (aN (pv 9)) (λ_ _ _ _ _ _=>bq) (λ_ _ _ _ _ _=>(au (xj L) L.kR (a5 (pv 0) (a5 (pv 1) (a5 (pv 2) a9)))))) a9))))))))))))))))))),?_⟩
 try dsimp only[dC,dA,b6,b7]
 refine yx λR1 c1=>?_;obtain⟨dx,M,bw,cl,hx,rh,K1,rl⟩:=id S;have hh:=uh rh;have hw:=Li K1;obtain⟨QT,t,ec,hc,A5⟩:=id rl;cases ec;have xl:t.length=f.length:=by rw[A5.len,wa0]
 have hn:=Wv.n;have Ay:=Wv.w;have Dh:=Wv.l
 have no:eu j f many B ns w=false->∀H',a8 H H'->E (.ref L.fF) none H':=λh=>by
  rcases k with⟨k1,_⟩ |⟨_,k2⟩
  ·rw[h]at k1;cases k1
  ·exact k2
 cases h1:fg B f.length with
 |false=>
  refine⟨_,rfl,_,rfl,x,L.aA,dx,_,_,rfl,hx,L.ay.cl,L.ay.cN,bT M bw cl,B,cl,t,rfl,.inl hc,false,congrArg V.bl (by rw[xl];exact h1),fJ ⟨rfl,no ?_ H (a8.refl _)⟩⟩;unfold eu;rw[h1,wdp]
 |true=>
 obtain⟨d,rfl,hd⟩:∃d:Nat,B=(d:Int)/\d<f.length:=by
  unfold fg at h1;rw[wbV]at h1;have a1:=of_decide_eq_true h1.1;have a2:=of_decide_eq_true h1.2;exact⟨B.toNat,by omega,by omega⟩
 refine⟨_,rfl,_,rfl,x,L.aA,dx,_,_,rfl,hx,L.ay.cl,L.ay.cN,bT M bw cl,_,cl,t,rfl,.inl hc,true,congrArg V.bl (by rw[xl];exact h1),cm ?_⟩;refine c1 _ _ (yx λR2 c2=>?_);rw[waG]at k;have Wg:d<t.length:=by omega
 have WG:t[d]?=some t[d]:=wa1 Wg;obtain⟨dd,P8,rd⟩:=A5.get d _ WG;have QU:f[d]?=some f[d]:=wa1 hd;rw[wa4,QU]at P8;cases P8;have Sr:f.getD d []=f[d]:=by rw[wa3,QU];rfl
 have P9:f[d]∈f:=waL hd;have Uv:=Wv.m _ P9;have Uw:=Wv.e _ P9
 have WH:eu j f many (d:Int) ns w=(ns.all (λi=>fg i f[d].length)&&(f7 j many (aZ ns f[d]) w&&f7 j many (aW ns f[d]) (j.getD d 0-w))):=by
  unfold eu;rw[h1,web,waG,Sr]
 unfold dN at k;rw[Sr]at k;rw[WH]at k no;refine⟨_,rfl,x,L.aA,dx,_,_,rfl,hx,L.ay.cl,L.ay.cN,bT M bw cl,_,rfl,cl,t,_,t[d],rfl,rfl,.inl hc,bE WG,?_⟩;obtain⟨al,ys,el,O,ME⟩:=rd;rw[el];have yl:ys.length=f[d].length:=by rw[ME.len,wa0]
 generalize f[d]=p at WH P9 Uv Uw ME yl k no;refine c2 _ _ (yx λR3 c3=>?_);refine⟨_,rfl,a,rfl,⟨_,hA⟩,λl1 MF=>?_⟩;refine comp_map (λv=>match v with |.int i=>V.bl (fg i ys.length) |_=>.non) (aP K a (ns.map V.int)) MF (by rw[wa0];exact av (by omega)) (λH' s'=>s'.seq hA) (λz H2 Q' hz s2 R=>?_) (λH2 s2 h2=>?_)
 ·obtain⟨i,_,rfl⟩:=wab.mp hz;exact⟨_,rfl,_,rfl,i,al,ys,rfl,s2.seq (.inl O),R H2 (a8.refl _)⟩
 have e2:(ns.map V.int).map (λv=>match v with |.int i=>V.bl (fg i ys.length) |_=>.non)=(ns.map λi=>fg i p.length).map V.bl:=by
  rw[wah,wah,yl];rfl
 rw[e2]at h2
 have QV:((ns.map λi=>fg i p.length).all id)=ns.all (λi=>fg i p.length):=by
  rw[wfw];rfl
 cases h3:ns.all (λi=>fg i p.length) with
 |false=>
  refine⟨l1,_,rfl,aM.of h2,false,congrArg V.bl (QV.trans h3),fJ ⟨rfl,no ?_ H2 s2⟩⟩;rw[h3,wdp]
 |true=>
 refine⟨l1,_,rfl,aM.of h2,true,congrArg V.bl (QV.trans h3),cm ?_⟩;refine c3 _ _ (yx λR4 c4=>?_);rw[h3,web]at k no;refine⟨_,rfl,al,ys,rfl,s2.seq (.inl O),λlc LN=>?_⟩;refine yk (λi=>p7 (.int (i:Nat)) (ns.map V.int)) (s2.seq (.inl O)) LN (av (by omega)) (λi y H3 Q' _ s3 R=>?_) (λi y H3 Q' _ s3 R=>⟨_,rfl,R H3 (a8.refl _)⟩) (λH3 s3 WK=>?_)
 ·exact⟨_,rfl,_,rfl,a,_,rfl,.inl ((s2.trans s3).seq hA),rfl,iI ns,_,rfl,R H3 (a8.refl _)⟩
 have Zf:(λi:Nat=>p7 (.int (i:Nat)) (ns.map V.int))=λi:Nat=>decide ((i:Int)∈ns):=funext λi=>vh _ ns;rw[Zf]at WK;have xk:=s2.trans s3;refine c4 _ _ (yx λR5 c5=>?_);refine⟨_,rfl,al,ys,rfl,xk.seq (.inl O),λlo Qq=>?_⟩;refine yk (λi=>!p7 (.int (i:Nat)) (ns.map V.int)) (xk.seq (.inl O)) Qq (av (by omega)) (λi y H4 Q' _ s4 R=>?_) (λi y H4 Q' _ s4 R=>⟨_,rfl,R H4 (a8.refl _)⟩) (λH4 s4 WL=>?_)
 ·exact⟨_,rfl,_,rfl,a,_,rfl,.inl ((xk.trans s4).seq hA),rfl,iI ns,_,rfl,R H4 (a8.refl _)⟩
 have Ux:(λi:Nat=>!p7 (.int (i:Nat)) (ns.map V.int))=λi:Nat=>!decide ((i:Int)∈ns):=funext λi=>congrArg (!·) (vh _ ns);rw[Ux]at WL;have C:=xk.trans s4;refine c5 _ _ (yx λR6 c6=>?_);have Zg:=s4 _ _ WK;have rC:bL K H4 (bY (aZ ns p)) (.ref lc):=⟨lc,_,rfl,.inl Zg,B5 _ (bo.same C _ _ ME)⟩;have rO:bL K H4 (bY (aW ns p)) (.ref lo):=⟨lo,_,rfl,.inl WL,B5 _ (bo.same C _ _ ME)⟩;have WM:(aZ ns p).length<=5000:=waj (nF _ _ _) Uv;have Zh:(aW ns p).length<=5000:=waj (nF _ _ _) Uv;have ce:∀q∈aZ ns p,q.2<j.length:=λq hq=>by rw[Ay];exact Uw q (dX hq)
 have oe:∀q∈aW ns p,q.2<j.length:=λq hq=>by rw[Ay];exact Uw q (dX hq)
 have WN:d<j.length:=by omega
 have Uy:yV (j.map V.int) (d:Int)=some (.int (j.getD d 0)):=bE (by rw[wa4,wa1 WN,wa3,wa1 WN];rfl);refine⟨_,rfl,x,L.aA,dx,_,_,rfl,C _ _ hx,L.ay.cl,L.ay.dj,cF M bw cl,_,rfl,bw,_,_,_,rfl,rfl,C.seq (.inl hw),Uy,_,rfl,_,_,rfl,rfl,?_⟩;show dD 8 (V.int (j.getD d 0-w)) _ _ _;refine c6 _ _ (yx λR7 c7=>?_);have S4:=S.same C;refine⟨_,rfl,_,rfl,_,rfl,_,rfl,x,many,.ref lc,w,u,j,f,aZ ns p,rfl,S4,rC,by omega,ce,m0,m1,?_⟩
 cases h5:f7 j many (aZ ns p) w with
 |false=>exact .inr ⟨rfl,λH5 s5=>no (by rw[h5,wdp]) H5 (C.trans s5)⟩
 |true=>
 refine .inl ⟨rfl,λH5 s5=>?_⟩;refine c7 _ _ (yx λR8 c8=>?_);rw[h5,web]at k no;refine⟨_,rfl,_,rfl,_,rfl,_,rfl,x,many,.ref lo,j.getD d 0-w,u,j,f,aW ns p,rfl,S4.same s5,bL.same s5 _ _ rO,by omega,oe,m0,m1,?_⟩
 cases h6:f7 j many (aW ns p) (j.getD d 0-w) with
 |false=>exact .inr ⟨rfl,λH6 s6=>no h6 H6 ((C.trans s5).trans s6)⟩
 |true=>
 refine .inl ⟨rfl,λH6 s6=>?_⟩;refine c8 _ _ ?_;obtain⟨_,kk⟩:True/\_:=⟨trivial,k⟩;rcases kk with⟨_,k⟩ |⟨k1,_⟩
 rotate_left
 ·rw[h6]at k1;cases k1
 have Uz:=s5.trans s6;have QW:=C.trans Uz;have Zi:=bL.same Uz _ _ rC;have Zj:=bL.same Uz _ _ rO;have big:∀n:Nat,n<=20000->n<=sizeLine:=λn hn=>waj hn (by rw[wcb];decide);refine⟨_,rfl,x,L.aA,dx,_,_,rfl,QW _ _ hx,L.ay.cl,L.ay.cN,bT M bw cl,_,rfl,by show 1<=sizeLine;decide,λl7 WO=>?_⟩;refine⟨cl,l7,t,[.ref lo],rfl,rfl,pw (QW.trans (a8.upd WO)) hc,.inl a6,big _ (by show t.length+1<=_;omega),λU I=>?_⟩;have WQ:a8 H6 (upd H6 l7 (.lst [V.ref lo])):=a8.upd WO;generalize upd H6 l7 (.lst [V.ref lo])=X at WQ I;have s6b:a8 X (upd X U (.lst (t++[V.ref lo]))):=a8.upd I
 have WB:F1 (t++[V.ref lo]).length (d:Int)=some d:=by
  have Y:(t++[V.ref lo]).length=t.length+1:=by rw[wa5];rfl
  unfold F1;rw[Y,if_pos (by omega),if_pos (by omega),waG]
 refine⟨_,rfl,_,rfl,_,rfl,U,_,_,d,rfl,rfl,a6,WB,?_⟩;have Sj:(upd (upd X U (.lst (t++[V.ref lo]))) U (.lst ((t++[V.ref lo]).set d (V.ref lc)))) U=some (.lst ((t++[V.ref lo]).set d (V.ref lc))):=a6
 have SN:a8 H6 (upd (upd X U (.lst (t++[V.ref lo]))) U (.lst ((t++[V.ref lo]).set d (V.ref lc)))):=λc o e=>by
  have J:=WQ _ _ e;rw[ae (af J I),ae (af J I)];exact J
 generalize upd (upd X U (.lst (t++[V.ref lo]))) U (.lst ((t++[V.ref lo]).set d (V.ref lc)))=H8 at Sj SN;have Pa:=QW.trans SN
 have Zk:bo K H8 (((f++[aW ns p]).set d (aZ ns p)).map bY) ((t++[V.ref lo]).set d (V.ref lc)):=by
  have r1:bo K H8 (f.map bY++[bY (aW ns p)]) (t++[V.ref lo]):=iH (bo.same Pa _ _ A5) (bL.same SN _ _ Zj)
  have e:((f++[aW ns p]).set d (aZ ns p)).map bY=(f.map bY++[bY (aW ns p)]).set d (bY (aZ ns p)):=by
   rw[List.map_set,wao];rfl
  rw[e];exact r1.set d (bL.same SN _ _ Zi)
 refine⟨_,rfl,x,L.aA,dx,_,_,rfl,Pa _ _ hx,L.ay.cl,L.ay.dj,cF M bw cl,_,rfl,by show 1<=sizeLine;decide,λl9 WR=>?_⟩;refine⟨bw,l9,_,[.int (j.getD d 0-w)],rfl,rfl,pw (Pa.trans (a8.upd WR)) hw,.inl a6,big _ (by rw[wa0];show j.length+1<=_;omega),λlw Oe=>?_⟩;have WT:a8 H8 (upd H8 l9 (.lst [.int (j.getD d 0-w)])):=a8.upd WR;generalize upd H8 l9 (.lst [.int (j.getD d 0-w)])=UA at WT Oe;have UB:j.map V.int++[V.int (j.getD d 0-w)]=(j++[j.getD d 0-w]).map V.int:=by rw[wao];rfl
 rw[UB]
 have UC:F1 ((j++[j.getD d 0-w]).map V.int).length (d:Int)=some d:=by
  have Y:((j++[j.getD d 0-w]).map V.int).length=j.length+1:=by rw[wa0,wa5];rfl
  unfold F1;rw[Y,if_pos (by omega),if_pos (by omega),waG]
 refine⟨_,rfl,_,rfl,_,rfl,lw,_,_,d,rfl,rfl,a6,UC,?_⟩
 have UD:((j++[j.getD d 0-w]).map V.int).set d (.int w)=(cx j d w).map V.int:=by
  unfold cx;rw[List.map_set]
 rw[UD];have WU:(upd (upd UA lw (.lst ((j++[j.getD d 0-w]).map V.int))) lw (.lst ((cx j d w).map V.int))) lw=some (.lst ((cx j d w).map V.int)):=a6
 have UE:a8 H8 (upd (upd UA lw (.lst ((j++[j.getD d 0-w]).map V.int))) lw (.lst ((cx j d w).map V.int))):=λc o e=>by
  have J:=WT _ _ e;rw[ae (af J Oe),ae (af J Oe)];exact J
 generalize upd (upd UA lw (.lst ((j++[j.getD d 0-w]).map V.int))) lw (.lst ((cx j d w).map V.int))=H9 at WU UE;have D:=Pa.trans UE;refine⟨_,rfl,x,L.aA,dx,_,_,rfl,D _ _ hx,L.ay.cl,L.ay.cN,bT M bw cl,cl,t,rfl,.inl (D.seq (.inl hc)),?_⟩;rw[xl];have WV:d<u.length:=by omega
 have UG:yV (u.map V.str) (d:Int)=some (.str (u.getD d "")):=bE (by rw[wa4,wa1 WV,wa3,wa1 WV];rfl);refine⟨_,rfl,x,L.aA,dx,_,_,rfl,D _ _ hx,L.ay.cl,L.ay.fN,fA M bw cl,_,rfl,x,L.aA,dx,_,_,rfl,D _ _ hx,L.ay.cl,L.ay.fN,fA M bw cl,_,rfl,M,_,_,_,rfl,rfl,D.seq (.inl hh),UG,by show 1<=sizeLine;decide,λl10 QX=>?_⟩;refine⟨M,l10,_,[.str (u.getD d "")],rfl,rfl,pw (D.trans (a8.upd QX)) hh,.inl a6,big _ (by rw[wa0];show u.length+1<=_;omega),λlh Pb=>?_⟩;have WW:a8 H9 (upd H9 l10 (.lst [.str (u.getD d "")])):=a8.upd QX;generalize upd H9 l10 (.lst [.str (u.getD d "")])=WX at WW Pb;have QY:u.map V.str++[V.str (u.getD d "")]=(cR u d).map V.str:=by unfold cR;rw[wao];rfl
 rw[QY];have SQ:=WW.trans (a8.upd (o:=.lst ((cR u d).map V.str)) Pb);have QZ:(upd WX lh (.lst ((cR u d).map V.str))) lh=some (.lst ((cR u d).map V.str)):=a6;generalize upd WX lh (.lst ((cR u d).map V.str))=BZ at SQ QZ;have MG:=UE.trans SQ;have Z:=MG _ _ Sj;have UH:=bo.same MG _ _ Zk;have zl:((t++[V.ref lo]).set d (V.ref lc)).length=f.length+1:=by rw[wcq,wa5,xl];rfl
 refine⟨_,rfl,_,rfl,U,rfl,⟨_,aM.of Z⟩,λlt O0=>?_⟩
 have R9:∀l∈(f++[aW ns p]).set d (aZ ns p),l.length<=5000:=λl hl=>by
  rcases wcS hl with z |z
  ·rcases waA.mp z with z |z
   ·exact Wv.m l z
   ·rw[wat.mp z];exact Zh
  ·rw[z];exact WM
 refine vf (K:=K) ((((f++[aW ns p]).set d (aZ ns p)).map (eS d f.length)).map bY) (aP K U ((t++[V.ref lo]).set d (V.ref lc))) O0 (big _ (by rw[zl];omega)) (by rw[wa0,wa0,wcq,wa5,zl];rfl) (λH' s'=>aM.of (s' _ _ Z)) (λi y dt MH Q' hy K2 G R=>?_) (λMH G Zm=>?_)
 ·obtain⟨d',J,r⟩:=UH.get i y hy;rw[wa4]at J K2;rw[wa4]at K2
  cases e:((f++[aW ns p]).set d (aZ ns p))[i]? with
  |none=>rw[e]at J;cases J
  |some l=>
   rw[e]at J K2;cases J;cases K2;exact⟨_,rfl,_,rfl,_,rfl,y,d,f.length,l,rfl,bL.same G _ _ r,R9 l (wa9 e),λz GB LO Zn=>R z GB LO Zn⟩
 intro y dy ny UI Zo;have sm:a8 MH (upd (upd MH dy (.own y)) y (.ins L.aA dy [])):=fz ny UI;have Jj:=D.trans SQ;refine⟨y,dy,.ref lh,.ref lw,.ref lt,cR u d,cx j d w,((f++[aW ns p]).set d (aZ ns p)).map (eS d f.length),rfl,a6,pz (sm _ _ (G _ _ QZ)),jH (sm _ _ (G _ _ (SQ _ _ WU))),bL.same ((bZ _ _).trans sm) _ _ Zm,?_,?_,?_,?_,λa' b' c' GB UJ q1 q2 q3 UK=>⟨rfl,?_⟩⟩
 ·unfold cR;rw[wa5];show u.length+1<=_;omega
 ·unfold cx;rw[wcq,wa5];show j.length+1<=_;omega
 ·rw[wa0,wcq,wa5];show f.length+1<=_;omega
 ·intro l hl;obtain⟨l',Ra,rfl⟩:=wab.mp hl;have:=rp d f.length l';have:=R9 l' Ra;omega
 ·have LO:a8 MH GB:=λc o e=>UK _ _ (sm _ _ e) (af e ny);refine k y GB (Jj.trans (G.trans LO)) ?_;have UL:H y=none:=none_of (Jj.trans G) ny;have nw:=λ(dd:kF) (v:V) (r:bL K (aJ _ GB) dd v)=>bL.same (eP ((Jj.trans G).trans sm)) dd v r;exact⟨dy,a',b',c',bX UL UJ,nw _ _ q1,nw _ _ q2,nw _ _ q3⟩
theorem oh(L:Lk K mg):aS P w K mg base d8 1 L.pV L.pW ["line","desks"] (O5 K):=by
 refine L.iC.F.dQ (N:=["line","desks"]) (λy A outer s H R Q E nd g h=>?_);obtain⟨v,b,f,j,rfl,B,C,hn,k⟩:=h;refine⟨_,(ag (aB (fL rfl (ax ["desks"] [1]) (ax ["desks"] [1]) (by decide) (aN (pv 0)) (λ_ _ _ _ _ _=>gN (aH (iM (K:=K) rfl) (pv 1) (pv 2) rfl)) (λ_ _ _ _ _ _=>(ee (a5 (pv 0) (a5 (pv 1) a9))))))),?_⟩
 try dsimp only[dC,dA,b6,b7]
 obtain⟨a,D,rfl,p,c,G⟩:=kJ B;have m:=c;rw[wa0]at m;refine⟨_,rfl,a,rfl,⟨_,p⟩,λl hl=>?_⟩
 refine jG (prs:=j.map eI) (λq=>p7 q.2 ((nI f).map V.int)) (λq=>.tup [.at q.1,.at q.2]) (aP K a D) c (λi q d=>let ⟨r,I,J⟩:=G i q d;⟨r,I,gL.of J⟩) hl (av (by omega)) (λt n=>n.seq p) (λq u M d x o=>by
  obtain⟨z,O,rfl⟩:=wab.mp d
  exact⟨_,rfl,_,rfl,b,_,rfl,.inl (x.seq C),rfl,iI _,_,rfl,o u (a8.refl _)⟩) (λq u M d _ x o=>?_) (λt n r=>?_)
 ·obtain⟨z,O,rfl⟩:=wab.mp d;exact⟨_,rfl,_,rfl,by show 2<=sizeLine;decide,λr g=>o _ _ (a8.upd g) (mr g z)⟩
 ·have e:((j.map eI).filter λq=>p7 q.2 ((nI f).map V.int))=(cS f j).map eI:=by
   unfold cS;rw[weD];refine congrArg _ (whk λq _=>?_);exact Bb q.2 f
  rw[e,wah]at r;exact k _ t n r
theorem oi(L:Lk K mg):aS P w K mg base d8 2 L.kT L.pX ["sheet","many"] (O6 K L.aA):=by
 have T:=L.T;refine L.iD.F.dQ (N:=["sheet","many","kept","left"]) (λG A outer s H vs Q E nd hr h=>?_);obtain⟨x,many,hs,ws,b,rfl,S,hn,hm,k⟩:=h;have I:(A.deeper (wdG "kept_desks" (aI (top 54)) s.heap.objs.size L.kT G)).units<wcI:=hr.yU
 refine⟨_,(a7 (ai (i:=2) (bH (uP rfl) (by rfl) T.list iN (a5 (bH sx (by rfl) T.range Ee (a5 (aC bx (by rfl) T.len waM (a5 (aD (pv 0) rfl) a9)) a9)) a9)))
  (ag (jw wal (cQ gX) (a7 (fj (i:=3) rfl (ax ["sheet","kept","many"] [0,2,1]) nd rfl rfl (aN (pv 2)) (λ_ _ _ _ _ _=>gN (aH GX (aC (wR (K:=K) rfl) (by rfl) T.len waM (a5 (au (oh L) L.iC (a5 (bf (gY (K:=K) rfl) (nD (K:=K) rfl (pv 1) rfl) (pv 0) (λ_ _=>rfl)) (a5 (pv 2) a9))) a9)) (pv 3) (aU _))) (λ_ _ _ _ _ _=>(pv 0)))
  (a7 (bK (aH (HB I) (pv 3) (pv 2) (aU _)) (ag (aB (pv 2))) aQ)
  (ag (ai (i:=2) (pv 3)))))))),?_⟩
 try dsimp only[dC,dA,b6,b7]
 obtain⟨dx,ah,bw,cl,hx,rh,K1,rl⟩:=id S;obtain⟨QT,J,ec,hc,m⟩:=id rl;cases ec;have xl:J.length=b.length:=by rw[m.len,wa0]
 refine⟨_,rfl,x,L.aA,dx,_,_,rfl,hx,L.ay.cl,L.ay.cN,bT ah bw cl,cl,J,rfl,.inl (.inl hc),?_⟩;rw[xl];refine⟨_,rfl,λp hp=>?_⟩;refine⟨p,b.length,rfl,a6,av (by omega),λl hl=>?_⟩;have s1:a8 H (upd H p (.rng 0 (b.length:Int))):=a8.upd hp;have fl:H l=none:=none_of s1 hl;have s2:=s1.trans (a8.upd (o:=.lst ((waH b.length).map λi=>V.int (i:Nat))) hl);have h2:(upd (upd H p (.rng 0 (b.length:Int))) l (.lst ((waH b.length).map λi=>V.int (i:Nat)))) l=some (.lst ((nI (waH b.length)).map V.int)):=by rw[a6,vz]
 generalize upd (upd H p (.rng 0 (b.length:Int))) l (.lst ((waH b.length).map λi=>V.int (i:Nat)))=H2 at s2 h2;refine⟨λq σ M=>∃(l:Addr) (c:List Nat) (v3:Option V),q=c.length/\σ=[some (.ref x),some (.int many),some (.ref l),v3]/\a8 H M/\H l=none/\M l=some (.lst ((nI c).map V.int))/\Above b many c,⟨_,l,_,none,rfl,rfl,s2,fl,h2,Above.start b many⟩,?_⟩;rintro q σ M ⟨l,c,v3,rfl,rfl,O,fl,r,t⟩;refine⟨true,rfl,fJ ?_⟩;refine⟨λu C=>∃(g:Addr),u=[some (.ref x),some (.int many),some (.ref g),some (.ref g)]/\a8 H C/\H g=none/\C g=some (.lst ((nI (vo b many c)).map V.int))/\vo b many c≠c,?_,?_⟩
 ·rintro u C ⟨g,rfl,R,U,h',X⟩;exact⟨_,IQ X,g,_,_,rfl,rfl,R,U,h',t.next⟩
 have Y:∀d∈c,d<b.length:=λd hd=>wb5.mp (t.sub.subset hd);have Wt:c.length<=1000:=by have:=t.sub.length_le;rw[waO]at this;omega
 refine⟨_,rfl,l,rfl,⟨_,aM.of r⟩,λg z=>?_⟩;refine dU (λv=>match v with |.int d=>decide (many<=((cS c (b.getD d.toNat [])).length:Int)) |_=>false) (λv=>v) (aP K l _) z (av (by rw[wa0,cJ];omega)) (λC R=>aM.of (R _ _ r)) (λy D Q' hy j Z=>?_) (λy D Q' hy _ j Z=>⟨_,rfl,Z D (a8.refl _)⟩) (λD j h4=>?_)
 ·obtain⟨n,BW,rfl⟩:=vy hy;have MD:=Y n BW;have hq:b[n]?=some (b.getD n []):=by rw[wa3,wa1 MD];rfl
  obtain⟨v,Of,rd⟩:=m.at (i:=n) (d:=bY (b.getD n [])) (by rw[wa4,hq];rfl);have e:=O.trans j;refine⟨_,rfl,x,L.aA,dx,_,_,rfl,e _ _ hx,L.ay.cl,L.ay.cN,bT ah bw cl,_,rfl,cl,J,_,_,rfl,rfl,e.seq (.inl hc),bE Of,_,rfl,v,l,c,b.getD n [],rfl,bL.same e _ _ rd,aM.of (j _ _ r),hm _ (wa9 hq),λy H5 s5 r5=>?_⟩;obtain⟨a,rs,rfl,hS,hT⟩:=dY r5;have Dw:rs.length=(cS c (b.getD n [])).length:=by rw[hT.1,wa0,wa0]
  refine⟨a,_,rfl,.inl ((bZ _ _).seq hS),?_⟩;rw[wa0,Dw];exact⟨_,rfl,_,_,rfl,rfl,_,rfl,Z H5 s5⟩
 rw[wdX,yu (f:=λn=>decide (many<=((cS c (b.getD n [])).length:Int))) (λn=>rfl)]at h4;have e:=O.trans j;refine⟨_,rfl,_,rfl,g,l,_,_,rfl,rfl,aM.of h4,aM.of (j _ _ r),iI _,iI _,_,rfl,?_⟩;refine Am (λB=>?_) (λB=>?_)
 ·rw[yt,decide_eq_true_eq]at B;exact⟨_,rfl,k l c D e fl (j _ _ r) ⟨t,t.stays B⟩⟩
 ·rw[yt,decide_eq_true_eq]at B;exact⟨_,rfl,g,rfl,e,none_of O z,h4,B⟩
inductive UM(lns:List (List (Str×Nat)))(rs ys:List Nat)(x rd wl a:Addr)(d z:Nat)(H:Hp)(i:Nat)(σ:St)(H5:Hp):Prop
 |mk (ad v5 v6) (_:σ=[some (.ref x),some (.int (d:Int)),some (.ref rd),some (.ref wl),some (.ref a),v5,v6]) (_:a8 H H5) (_:H5 rd=some (.dK (dB (rs++ad)))) (_:H5 wl=some (.lst ((nI (ys++ad)).map V.int))) (_:(rs++ad).Nodup) (_:∀r∈rs++ad,r<lns.length) (_:∀q∈(lns.getD z []).take i,q.2∈rs++ad)
theorem UM.s{wl:Addr}(q:UM lns rs ys x rd wl a d z H i σ g):a8 H g:=by
 obtain⟨_,_,_,_,h,_⟩:=q;exact h
theorem tO(L:Lk K mg):aS P w K mg base d8 1 L.mI L.mJ ["sheet","desk"] (FT K L.aA):=by
 have T:=L.T;refine L.iX.F.dQ (N:=["sheet","desk","reached","waiting","line","word","end"]) (λhX A outer s H vs Q E nd n h=>?_);obtain⟨x,d,hs,ws,c,rfl,S,hd,he,Aq,hn,k⟩:=h;have hu:=fb n
 refine⟨_,(a7 (ai (i:=2) cY)
  (a7 (ai (i:=3) (cC (a5 (pv 1) a9)))
  (a7 (jw wal (aH nL (aC bx (by rfl) T.len waM (a5 (pv 3) a9)) aq (aU _)) (a7 (ai (i:=4) (bf bF (aD (pv 0) rfl) (Ci waT wh5 PySem.F.type_list_pop N9 (pv 3)) (λ_ _=>rfl)))
  (ag (b0 wal rfl (aN (pv 4)) (dG rfl (aK (aw (i:=5)) (aK (aw (i:=6)) cB))) (ag (bK (yR (xT hu (pv 6) (pv 2))) (a7 (et hu (pv 2) (pv 6) gX rfl)
  (ag (bu (j8 waT waX waZ cV (pv 3) (a5 (pv 6) a9))))) aQ))))))
  (ag (aB (bH (kh rfl) (by rfl) T.list iN (a5 (pv 2) a9))))))),?_⟩
 try dsimp only[dC,dA,b6,b7]
 obtain⟨dx,ah,bw,cl,hx,rh,K1,rl⟩:=id S;obtain⟨QT,xs,ec,hc,A5⟩:=id rl;cases ec;have xl:xs.length=c.length:=by rw[A5.len,wa0]
 refine λrd UN=>?_;refine⟨_,rfl,by show 1<=sizeLine;decide,λwl Ay=>?_⟩;have J:rd≠wl:=af a6 Ay;have s0:a8 H (upd (upd H rd (.dK [])) wl (.lst [.int (d:Int)])):=(a8.upd UN).trans (a8.upd Ay);have WY:(upd (upd H rd (.dK [])) wl (.lst [.int (d:Int)])) rd=some (.dK (dB [])):=by rw[ae J,a6];rfl
 have WZ:(upd (upd H rd (.dK [])) wl (.lst [.int (d:Int)])) wl=some (.lst ((nI [d]).map V.int)):=a6;have X0:H wl=none:=none_of (a8.upd UN) Ay;generalize upd (upd H rd (.dK [])) wl (.lst [.int (d:Int)])=H0 at s0 WY WZ
 refine⟨λq σ Y=>∃(f Z:List Nat) (v4 M v6:Option V),q=2*(c.length-f.length)+Z.length/\σ=[some (.ref x),some (.int (d:Int)),some (.ref rd),some (.ref wl),v4,M,v6]/\a8 H Y/\Y rd=some (.dK (dB f))/\Y wl=some (.lst ((nI Z).map V.int))/\f.Nodup/\(∀r∈f,r<c.length)/\(∀w∈Z,w<c.length)/\(∀r∈f,r∉Z->∀q∈c.getD r [],q.2∈f)/\(d∉Z->∀q∈c.getD d [],q.2∈f)/\Z.length<=f.length+1,
  ⟨_,[],[d],none,none,none,rfl,rfl,s0,WY,WZ,wdn,λr h=>absurd h wbJ,λw h=>by rw[wat.mp h];exact hd,λr h=>absurd h wbJ,λh=>absurd (wat.mpr rfl) h,waa _⟩,?_⟩
 rintro q σ Y ⟨f,Z,v4,M,v6,rfl,rfl,s3,SM,O,nd,SR,UO,Rb,SH,R⟩;have Dw:=mw nd SR
 by_cases X1:Z=[]
 ·subst X1;refine⟨_,rfl,wl,_,rfl,.inl (aM.of O),_,_,rfl,rfl,false,rfl,cm ?_⟩;refine⟨_,rfl,rd,_,rfl,SM,λl hl=>?_⟩;rw[Ek];refine k l f _ (s3.trans (a8.upd hl)) (none_of s3 hl) a6 ⟨λr n=>Rb r n wbJ,SR,λz=>?_,nd⟩
  cases e:c.getD d [] with
  |nil=>exact Aq e
  |cons q qs=>
   have:=SH wbJ q (by rw[e];exact waf ..);rw[z]at this;cases this
 obtain⟨z,t,rfl,hz,G4⟩:=Lv X1;refine⟨_,rfl,wl,_,rfl,.inl (aM.of O),_,_,rfl,rfl,true,congrArg V.bl (decide_eq_true (by rw[wa0,cJ,wa5];show (0:Int)<((_+1:Nat):Int);omega)),fJ ?_⟩;have Zq:z<c.length:=UO z (waJ _ (wat.mpr rfl));have X2:c[z]?=some (c.getD z []):=by rw[wa3,wa1 Zq];rfl
 have UP:∀q∈c.getD z [],q.2<c.length:=he _ (wa9 X2);obtain⟨v,Of,Zr⟩:=A5.at (i:=z) (d:=bY (c.getD z [])) (by rw[wa4,X2];rfl);obtain⟨a,rr,rfl,hS,hT⟩:=dY Zr;have X3:rr.length=(c.getD z []).length:=by rw[hT.1,wa0,wa0]
 refine⟨λσ' H'=>∃(ad:List Nat) (M v6:Option V),σ'=[some (.ref x),some (.int (d:Int)),some (.ref rd),some (.ref wl),some (.ref a),M,v6]/\a8 H H'/\H' rd=some (.dK (dB (f++ad)))/\H' wl=some (.lst ((nI (t++ad)).map V.int))/\(f++ad).Nodup/\(∀r∈f++ad,r<c.length)/\(∀q∈c.getD z [],q.2∈f++ad),?_,?_⟩
 ·rintro σ' H' ⟨ad,M,v6,rfl,s',UQ,Zt,X4,IE,j⟩;have Ra:=mw X4 IE;rw[wa5]at Ra;refine⟨_,?_,f++ad,t++ad,_,M,v6,rfl,rfl,s',UQ,Zt,X4,IE,λw hw=>?_,λr n U q I=>?_,λU q I=>?_,?_⟩
  ·rw[wa5,wa5,wa5];show _<2*(c.length-f.length)+(t.length+1);omega
  ·rcases waA.mp hw with hw |hw
   ·exact UO w (waU _ hw)
   ·exact IE w (waJ _ hw)
  ·rcases waA.mp n with n |n
   ·by_cases B:r=z
    ·rw[B]at I;exact j q I
    ·refine waU _ (Rb r n (λm=>?_) q I);rcases waA.mp m with m |m
     ·exact U (waU _ m)
     ·exact B (wat.mp m)
   ·exact absurd (waJ _ n) U
  ·by_cases B:d=z
   ·rw[B]at I;exact j q I
   ·refine waU _ (SH (λm=>?_) q I);rcases waA.mp m with m |m
    ·exact U (waU _ m)
    ·exact B (wat.mp m)
  ·rw[wa5]at R;rw[wa5,wa5];have:t.length+1<=f.length+1:=R;omega
 refine⟨_,rfl,x,L.aA,dx,_,_,rfl,s3 _ _ hx,L.ay.cl,L.ay.cN,bT ah bw cl,_,rfl,.inl ⟨rfl,_,aM.of O⟩,wl,_,_,rfl,rfl,O,hz,?_⟩;rw[G4];have s4:a8 H (upd Y wl (.lst ((nI t).map V.int))):=λb o e=>by rw[ae (af e X0)];exact s3 _ _ e
 have Mz:(upd Y wl (.lst ((nI t).map V.int))) rd=some (.dK (dB f)):=by rw[ae J];exact SM
 have Rc:(upd Y wl (.lst ((nI t).map V.int))) wl=some (.lst ((nI t).map V.int)):=a6;generalize upd Y wl (.lst ((nI t).map V.int))=H4 at s4 Mz Rc;refine⟨cl,xs,_,_,rfl,rfl,s4.seq (.inl hc),bE Of,?_⟩;refine⟨_,rfl,a,rfl,⟨_,s4.seq hS⟩,dh (K:=K) (a:=a) (xs:=rr.map V.ref) (UM c f t x rd wl a d z H) ⟨[],_,_,rfl,s4,by rw[waY];exact Mz,by rw[waY];exact Rc,by rw[waY];exact nd,by rw[waY];exact SR,λq I=>by rw[wdo]at I;cases I⟩ (λi σ H5 _ q=>q.s.seq hS) ?_ ?_⟩
 ·rintro i y σ H5 hy ⟨ad,M,v6,rfl,s5,C,X,D,G,j⟩;have hi:i<rr.length:=by have:=(wa6.mp hy).1;rwa[wa0]at this
  have UR:i<(c.getD z []).length:=by omega
  rw[wa4,wa1 hi]at hy;cases hy;have Rf:H rr[i]=some (.tup [.str (c.getD z [])[i].1,.int ((c.getD z [])[i].2:Int)]):=hT.2 i rr[i] (jF (eI (c.getD z [])[i])) (wa1 hi) (by rw[wa4,wa4,wa1 UR];rfl);have Rg:(c.getD z []).take (i+1)=(c.getD z []).take i++[(c.getD z [])[i]]:=by rw[waN,wa1 UR];rfl
  have MC:=UP _ (waL UR);generalize (c.getD z [])[i]=q at Rf Rg MC;have Zu:=mw D G;refine⟨rr[i],_,rfl,gL.of (s5 _ _ Rf),rfl,_,_,rfl,_,_,rfl,rfl,?_⟩;have g:=eD.k (k:=(wb2 (q.2:Int):Key)) C;rw[zp]at g
  by_cases m:q.2∈f++ad
  ·rw[if_pos m]at g;refine⟨_,rfl,_,rfl,rd,_,rfl,g,false,rfl,cm ?_⟩;refine⟨ad,_,_,rfl,s5,C,X,D,G,λp u=>?_⟩;rw[Rg]at u;rcases waA.mp u with u |u
   ·exact j p u
   ·rw[wat.mp u];exact m
  ·rw[if_neg m]at g;refine⟨_,rfl,_,rfl,rd,_,rfl,g,true,rfl,fJ ?_⟩;refine⟨_,rfl,_,rfl,rd,_,rfl,ke.k (k:=wb2 (q.2:Int)) C (bz (by unfold dB;rw[wa0];omega)),?_⟩;rw[IW m];have X5:(upd H5 rd (.dK (dB (f++ad++[q.2])))) wl=some (.lst ((nI (t++ad)).map V.int)):=by rw[ae J.symm];exact X
   refine⟨_,rfl,.inl ⟨rfl,_,aM.of X5⟩,_,rfl,wl,_,_,rfl,rfl,X5,?_,?_⟩
   ·rw[wa5]at R Zu;rw[wa0,cJ,wa5];have:t.length+1<=f.length+1:=R;exact bz (by omega)
   refine⟨ad++[q.2],_,_,rfl,λb o e=>by rw[ae (af e X0),ae (af e UN)];exact s5 _ _ e,by rw[ae J,a6,waS],by rw[a6,<-waS,rq (t++ad),wao];rfl,?_,λr n=>?_,λp u=>?_⟩
   ·rw[<-waS];refine wfd.mpr ⟨D,by simp,λa ha b hb e=>?_⟩;rw[wat.mp hb]at e;rw[e]at ha;exact m ha
   ·rw[<-waS]at n;rcases waA.mp n with n |n
    ·exact G r n
    ·rw[wat.mp n];exact MC
   ·rw[<-waS];rw[Rg]at u;rcases waA.mp u with u |u
    ·exact waU _ (j p u)
    ·rw[wat.mp u];exact waJ _ (wat.mpr rfl)
 ·rintro σ H5 ⟨ad,M,v6,rfl,s5,C,X,D,G,j⟩;rw[wa0,X3,waI]at j;exact⟨ad,M,v6,rfl,s5,C,X,D,G,j⟩
end
end K53
namespace L2
open PySem PySem.Spec PyProof.Rows PySem.W
open Builtin Builtin.ObjectAttr
section
variable{prog:wau}{w:World}{A:Around}{E:Value->Shared->Prop}{s:Shared}{K:wa2}{x dx C CB f:Addr}{mA:Str->Option Value}{name:Str}{v:Value}{R:wd8->Shared->Prop}
theorem G6{Q:Unit->Shared->Prop}(X:K.In s.heap)(hx:s.heap.get? x=some (uc C d t))(hd:s.heap.Ns1 d mA)(hw:wdM mA ns)(hl:ns.length<=100)(hc:clsIn K C=some cd)(hm:cd.mro=.ref C::oA CB)(hh:cd.hasDict=true)(ha:findIn K (.ref C) name=some none)
 (hs:findIn K (.ref C) "__setattr__"=some (some (.builtin "object.__setattr__")))
 (h:∀h' tk,(∀b,b≠d->h'.get? b=s.heap.get? b)->h'.Ns1 d (λy=>if y=name then some v else mA y)->Q () {s with heap:=h',toks:=tk}) :
 wpAny (model prog w) A (setAttr (.ref x) name v) Q E s:=by
 obtain⟨od,es,ep,e1,_⟩:=id hd;have J:InstAt s.heap x (uc C d t) C (some od):=⟨hx,rfl,rfl,e1⟩;refine wf7 X J hs (y6 (s:={s with toks:=s.toks+1}) X J hc hm ha ?_);unfold storeInOwnDict;refine wa7 (wax ?_);rw[if_neg (by simp)];unfold ownDictForStores instanceDict;refine wa7 (wa7 (wgl hx ?_));dsimp only;refine wa7 (weV (s:={s with toks:=s.toks+1}) (we4 X hc) ?_);rw[hh];simp only[wgO,wbW,if_false];refine wax ?_;show wpAny _ _ (storeInDict d (.str name s.toks) name v) _ _ _;unfold storeInDict newKeyGuard;refine wa7 (wax (wa7 (wh1 hd λh' BW Hx=>?_)));obtain⟨oD,YF,YG,TY,W5,W6⟩:=BW.count (wfU name v hw);refine wa7 (wfq TY (by grind [wfr,waj,wcb]) ?_)
 wp_walk
 exact h h' _ (λb hb=>Hx.2 b hb) BW
end
section
variable{X:Cx}{CB:Addr}{o value:Expr}{ta tv:TE}{name:Str}{pos pos':Pos}
theorem G7{fs:List (Str×V)}{g:Str->Option Value}(r:∀f,jl (fs.lookup f) (g f)):wdM g (fs.map (·.1)):=by grind [jl,wdM,waf,wac]
theorem Br(h:fs.lookup name=none)(f:Str):(fs++[(name,y)]).lookup f=if f=name then some y else fs.lookup f:=by
 grind
def Og(K:wa2)(CB:Addr)(ta tv:TE)(name:Str):TS:=λD σ H=>tv σ H λy H1=>ta σ H1 λz H2=>∃x C nm d fs,z=.ref x/\H2 x=some (XD x C d)/\H2 d=some (.xd fs)/\fs.length<=50/\eZ K C CB nm/\findIn K (.ref C) name=some none/\fs.lookup name=none/\D.nx σ (upd H2 d (.xd (fs++[(name,y)])))
theorem Jk(ha:PE X o ta)(J:PE X value tv)(hs:wc6 value (some (.Attribute o name pos')) pos.line X.env=pure false):PS X (.Assign [.Attribute o name pos'] value pos) (Og X.K CB ta tv name):=by
 intro c s σ H D I h;refine wcX (bO (J c s σ H _ I h) λu G ⟨y,L,M,O,q⟩=>bO (ha c G σ L _ M q) λQ E R=>?_) hs;obtain⟨z,i,g,S,x,C,T,d,fs,V,Y,hd,hl,U,hn,Z,q2⟩:=R;subst V;obtain rfl:Q=wan x:=S;obtain⟨⟨t,ht⟩,_⟩:=g.b4 x _ Y;obtain⟨mA,ns,r⟩:=g.b4 d _ hd;obtain⟨qn,N,bs,sn,sub,ab,m,dd,k0,k1,k2,k3,k5,lk⟩:=U.lk;refine G6 (CB:=CB) g.iz ht ns (G7 r) (by rw[wa0];omega) (cd:={name:=T,bases:=bs,mro:=.ref C::oA CB,ns:=N,qualname:=qn,hasDict:=true,slotNames:=sn,subclasses:=sub,abstract:=ab,collection:=m,hasDel:=false}) (by unfold clsIn;rw[lk]) rfl rfl hn U.sa λp tk k j=>⟨σ,_,?_,q2⟩;obtain⟨o',_,_,eo,_⟩:=id j;have nx:∀{b:Addr} {o:HO},i b=some o->(∀fs,o≠.xd fs)->b≠d:=λe n z=>by rw[z,hd]at e;exact n _ (wag e).symm
 have A:∀{b:Addr},i b=none->b≠d:=λe z=>by rw[z,hd]at e;cases e
 have un:Un (rX X.stack) [] i (upd i d (.xd (fs++[(name,y)]))) E.heap p:=by
  refine⟨λb o q n _ _=>by rw[k b (A n)];exact q,λb o q n _ _=>⟨o.slots,by rw[k b (A n)];exact q⟩,λb o q n _=>?_,λb o q _=>?_,λb vs q=>?_,λb o v q=>?_,λb ps q=>?_⟩
  ·rw[ae (A n)];exact n
  ·by_cases z:b=d
   ·rw[z];exact⟨_,eo⟩
   ·exact⟨o,by rw[k b z];exact q⟩
  ·rw[ae (nx q λψ z=>by cases z)];exact q
  ·rw[ae (nx q λψ z=>by cases z)];exact q
  ·exact⟨#[],by rw[ae (nx q λψ z=>by cases z),q];simp⟩
 have b4:jt X.prog X.w (upd i d (.xd (fs++[(name,y)]))) p:=λa o e=>by
  by_cases z:a=d
  ·subst z;rw[a6]at e;cases e;refine⟨_,j,λf=>?_⟩;rw[Br Z]
   by_cases e:f=name
   ·rw[if_pos e,if_pos e];exact O
   ·rw[if_neg e,if_neg e];exact r f
  ·rw[ae z]at e;refine(g.b4 a o e).qN (λb u l q=>?_) (λb q=>?_) λb vs q=>?_
   ·rw[k b ?_]
    ·exact q
    ·rintro rfl;rcases l with rfl |l
     ·exact z rfl
     ·rw[hd]at l;cases l
   ·rw[ae (λB=>by rw[B,hd]at q;cases q)];exact q
   ·rw[ae (λB=>by rw[B,hd]at q;cases q)];exact q
 exact g.xI (s':={E with heap:=p,toks:=tk}) rfl un b4 g.bare λb z=>absurd z (by simp)
end
end L2
namespace Sx
open PySem L2 Bs
def MI(v:V):Prop:=∃i:Int,v=.int i/\i.natAbs.log2<1920
inductive UT(C:Addr)(n1 n2:Str)(dQ Zv:V->Prop)(vs:List V)(H:Hp)(Q:VK)(eE:XK):Prop
 |mk (x u v) (_:vs=[.ref x,u,v]) (_:dQ u) (_:Zv v) (_:H x=some (XN x C)) (_:∀d,H d=none->Q .non (upd (upd H d (.xd [(n1,u),(n2,v)])) x (XD x C d)))
end Sx
namespace Bs
open PySem L2 Sx
theorem g9{a b:Str}{m n:Nat}(g:a.length<=m)(j:b.length<=n):(a++b).length<=m+n:=by
 rw[len_app];exact Nat.add_le_add g j
theorem Dz{m j N:Nat}{many wide:Int}{g:Str}{bw ss:List Str}(l:gA m many wide)(b:(j:Int)<=24)(c:iB g bw ss N "" < many^j):(iB g bw ss N "").natAbs.log2<1920:=by
 have h0:0<=iB g bw ss N "":=NS N "";obtain⟨k,hk⟩:∃k:Nat,many=k:=⟨many.toNat,by have:=l.a;omega⟩;have d:k<=8:=by have:=l.b;omega
 rw[hk,<-wdK]at c;have e:k^j<=8^24:=waj (Nat.pow_le_pow_left d j) (wgK (by decide) (by omega))
 have f:(iB g bw ss N "").natAbs<2^72:=by
  grind
 have h:=Nat.log2_lt (n:=(iB g bw ss N "").natAbs) (k:=72)
 by_cases z:(iB g bw ss N "").natAbs=0
 ·rw[z];decide
 ·grind
end Bs
namespace L2
open PySem PySem.Spec PyProof.Rows Sx
section
variable{X:Cx}
theorem G8{K:wa2}(J:X.K=K):Kj X "list.index" (λx xs H Q=>∃l g k i,x=.ref l/\xs=[.int k]/\aM K H l (wdl V.int g)/\g.length<=1000/\g[i]?=some k/\(∀j:Nat,j<i->g[j]?≠some k)/\Q (.int (i:Nat)) H):=by
 subst J;intro B s σ H x xs v Z Q I G L h;obtain⟨l,g,k,i,rfl,rfl,M,N,hi,o,q⟩:=h;cases G;obtain⟨u,rfl,O,rfl⟩:=L.one;obtain⟨a,C,pl,hz⟩:=I.list M;obtain⟨⟨cls,R,data,sl⟩,D,hc,n,hd⟩:=pl.isList;simp only at hc hd;subst hc hd;have d:=C.length;rw[wa0]at d;have S:i<g.length:=(wa6.mp hi).1
 have b:∀m (c:m<a.length),∃t,a[m]=.int (g[m]'(by omega)) t:=λm c=>by
  obtain⟨w,E,T⟩:=C.get (i:=m) (x:=.int (g[m]'(by omega))) (by rw[wa4,wa1 (by omega)];rfl);rw[wa1 c]at E;obtain⟨t,rfl⟩:=T;exact⟨t,wag E⟩
 refine wev wd1 ⟨_,D,rfl⟩ wfC (wfk _ _)
  (wfD l a.toArray n R sl (.int k O) (λw=>match w with |.int z _=>z==k |_=>false) i (by simp;omega) (by omega) ?_ ?_) ⟨D,λy U=>?_,?_⟩
 ·obtain⟨t,e⟩:=b i (by omega);have Y:g[i]=k:=(wa6.mp hi).2;simp only[wdy];rw[e,Y];simp
 ·intro m c p;have r:m<a.length:=by simpa using c
  obtain⟨t,e⟩:=b m r;simp only[wdy];rw[e];have f:=o m p;rw[wa1 (by omega)]at f;simp only[beq_eq_false_iff_ne,ne_eq];exact λz=>f (by rw[z])
 ·have A:y∈a:=by simpa using U
  obtain⟨m,c,rfl⟩:=wbR A;obtain⟨t,e⟩:=b m c;rw[e];exact wgm _ _ _ _
 ·exact⟨.int (i:Nat),H,I.tok _,⟨_,rfl⟩,q⟩
end
end L2
namespace Bs
open PySem L2 Sx
noncomputable def gb(ks:List Nat)(m:Nat)(qs:List (Str×Nat)):List (Str×Nat):=((cS ks qs).take m).map λq=>(q.1,ks.idxOf q.2)
noncomputable def fq(lns:List (List (Str×Nat)))(ks:List Nat)(m:Nat):List (List (Str×Nat)):=ks.map λd=>gb ks m (lns.getD d [])
noncomputable def lV(wl:List (List (Str×Nat)))(s:Str×Nat)(t:Nat):Str×Nat:=(s.1++((wl.getD s.2 []).getD t ("",0)).1,((wl.getD s.2 []).getD t ("",0)).2)
noncomputable def cG(wl:List (List (Str×Nat)))(d:Nat)(ts:List Nat):Str×Nat:=ts.foldl (lV wl) ("",d)
structure GC(many:Int)(n:Nat)(wl:List (List (Str×Nat))):Prop where
 ne:wl≠[]
 ln:∀l∈wl,(l.length:Int)=many
 e:∀l∈wl,∀q∈l,q.2<wl.length
 wd:∀l∈wl,∀q∈l,q.1.length=n
theorem yK(wl:List (List (Str×Nat)))(d:Nat)(ts:List Nat)(t:Nat):cG wl d (ts++[t])=lV wl (cG wl d ts) t:=by
 grind [cG]
theorem cW{wl:List (List (Str×Nat))}{d:Nat}(h:d<wl.length):wl[d]?=some (wl.getD d []):=by
 grind
theorem rG{l:List (Str×Nat)}{t:Nat}(h:t<l.length):l[t]?=some (l.getD t ("",0)):=by
 grind
theorem EB{many:Int}{n:Nat}{wl:List (List (Str×Nat))}(g:GC many n wl):∀(ts:List Nat) (s:Str×Nat),s.2<wl.length->(∀t∈ts,(t:Int)<many)->(ts.foldl (lV wl) s).2<wl.length/\(ts.foldl (lV wl) s).1.length=s.1.length+n*ts.length
 |[],s,h,_=>⟨h,rfl⟩
 |t::ts,s,h,c=>by
  have j:=c t (waf ..);have hl:=wa9 (cW h);have f:=g.ln _ hl;have d:=wa9 (rG (l:=wl.getD s.2 []) (t:=t) (by omega));obtain⟨a,b⟩:=EB g ts (lV wl s t) (g.e _ hl ((wl.getD s.2 []).getD t ("",0)) d) λx i=>c x (wac _ i);refine⟨a,?_⟩;rw[wdH,b];show (s.1++_).length+_=_;rw[len_app,g.wd _ hl _ d,waK,weS,Nat.mul_one];omega
theorem qw{many:Int}{n:Nat}{wl:List (List (Str×Nat))}(W:GC many n wl){d:Nat}(hd:d<wl.length){ts:List Nat}(g:∀t∈ts,(t:Int)<many):(cG wl d ts).2<wl.length/\(cG wl d ts).1.length=n*ts.length:=by
 obtain⟨a,b⟩:=EB W ts ("",d) hd g;refine⟨a,b.trans ?_⟩;show 0+_=_;omega
theorem wZ.word(h:wZ (aT g bw ss ls n) hs lns)(hl:lns.length=hs.length)(j:∀p∈hs,p∈ss)(r:("":Str)∈ss):∀l∈lns,∀q∈l,q.1.length=n:=by
 intro l d q f;obtain⟨i,hi,e⟩:=wbR d;have a:i<hs.length:=by omega
 have b:0<hH hs[i] (q.1,q.2) hs lns:=by
  have k:hs[i]?=some hs[i]:=wa1 a;have m:lns[i]?=some l:=by rw[wa1 hi,e]
  have:=kK (z:=(q.1,q.2)) k m;have hc:0<l.count (q.1,q.2):=wbZ.mpr f;omega
 rw[h hs[i] q.1 q.2]at b
 by_cases c:q.2<hs.length/\hs[i]∈hs/\(q.1,hs.getD q.2 "")∈aT g bw ss ls n hs[i]
 ·exact(uX r (j _ (waL a)) n _ (wav.mp c.2.2).1).2
 ·rw[if_neg c]at b;omega
theorem Rh{many:Int}{n:Nat}{lns:List (List (Str×Nat))}{g:List Nat}(h:oG lns many g)(j:g≠[])(t:0<=many)(r:∀l∈lns,∀q∈l,q.1.length=n):GC many n (fq lns g many.toNat):=by
 refine⟨λz=>j (wgV.mp z),λl hl=>?_,λl hl q a=>?_,λl hl q a=>?_⟩
 ·obtain⟨d,hd,rfl⟩:=wab.mp hl;have:=(h.st d hd).2;unfold gb;rw[wa0,wak];omega
 ·obtain⟨d,hd,rfl⟩:=wab.mp hl;unfold gb at a;obtain⟨p,b,rfl⟩:=wab.mp a;have c:=of_decide_eq_true (wav.mp ((wbi _ _).subset b)).2;unfold fq;rw[wa0];exact wc0.mpr c
 ·obtain⟨d,hd,rfl⟩:=wab.mp hl;unfold gb at a;obtain⟨p,b,rfl⟩:=wab.mp a;have e:=(wav.mp ((wbi _ _).subset b)).1;exact r _ (wa9 (cW (h.st d hd).1)) p e
theorem vX:∀{hs:List Nat} {j:Nat} (h:j<hs.length),hs.idxOf hs[j]<=j
 |[],j,h=>absurd h (wcJ _)
 |a::hs,0,h=>by
  show (a::hs).idxOf a<=0;rw[wgJ];exact waa 0
 |a::hs,j+1,h=>by
  have b:j<hs.length:=by simpa using h
  show (a::hs).idxOf hs[j]<=j+1;rw[whS];have:=vX b
  cases(a==hs[j]) with
  |true=>grind
  |false=>grind
theorem LQ(h:k∈g):(nI g)[g.idxOf k]?=some (k:Int)/\∀j:Nat,j<g.idxOf k->(nI g)[j]?≠some (k:Int):=by
 have hl:g.idxOf k<g.length:=wc0.mpr h;unfold nI;refine⟨by grind,λj c e=>?_⟩;have a:j<g.length:=by omega
 rw[wa4,wa1 a]at e;have b:g[j]=k:=by grind
 have:=vX a;rw[b]at this;omega
end Bs
namespace Sx
open PySem L2 Bs
inductive LR(K:wa2)(vs:List V)(H:Hp)(Q:VK)(eE:XK):Prop
 |mk (v b many ks qs) (_:vs=[v,.ref b,.int many]) (_:bL K H (bY qs) v) (_:aM K H b ((nI ks).map V.int)) (_:ks.length<=1000) (_:qs.length<=10000) (_:0<=many) (_:∀y H',a8 H H'->bL K (aJ H H') (bY (gb ks many.toNat qs)) y->Q y H')
inductive Jl(K:wa2)(vs:List V)(H:Hp)(Q:VK)(eE:XK):Prop
 |mk (v:V) (d:Nat) (a:Addr) (many:Int) (n:Nat) (wl:List (List (Str×Nat))) (ts:List Nat) (_:vs=[v,.int (d:Int),.ref a]) (_:bL K H (kH wl) v) (_:aM K H a ((nI ts).map V.int)) (_:GC many n wl) (_:d<wl.length) (_:(∀t∈ts,(t:Int)<many)) (_:ts.length<=100000) (_:n<=10) (_:∀p H',a8 H H'->H' p=some (.tup [.str (cG wl d ts).1,.int ((cG wl d ts).2:Int)])->Q (.ref p) H')
structure Jm(bw:List Str)(M:Int):Prop where
 u:∀w∈bw,(w.length:Int)<=M
 a:M=0/\bw=[]\/∃w∈bw,(w.length:Int)=M
structure nj(bw:List Str)(n:Nat)(b:Nat):Prop where
 le:b<=1000
 is:∃M:Int,Jm bw M/\(b:Int)=((if 0>M-1 then 0 else M-1)+(n:Int)-1)/(n:Int)
inductive LU(C:Addr)(vs:List V)(H:Hp)(Q:VK)(eE:XK):Prop
 |mk (x g bw ss ls) (_:vs=[.ref x]) (_:aX C H x g bw ss ls) (_:bw.length<=1000) (_:(∀w∈bw,w.length<=1000)) (_:∀(M:Int) (H':Hp),a8 H H'->Jm bw M->Q (.int M) H')
inductive Jn(C:Addr)(vs:List V)(H:Hp)(Q:VK)(eE:XK):Prop
 |mk (x:Addr) (n:Nat) (g:Str) (bw ss ls:List Str) (_:vs=[.ref x,.int (n:Int)]) (_:aX C H x g bw ss ls) (_:1<=n) (_:n<=10) (_:(∀w∈bw,w.length<=900)) (_:bw.length<=1000) (_:∀(b:Nat) (H':Hp),a8 H H'->nj bw n b->Q (.int (b:Int)) H')
end Sx
namespace K53
open PySem L2 Bs Sx
section
variable{P:wau}{w:World}{K:wa2}{mg:Str->Option Value}{base:Heap}
theorem jQ(L:Lk K mg):aS P w K mg base d8 2 L.fR L.fS ["line","kept","many"] (LR K):=by
 refine L.dO.F.dQ (N:=["line","kept","many"]) (λX A outer s H vs Q E nd t h=>?_);obtain⟨v,b,many,c,g,rfl,Y,S,u,x,m0,k⟩:=h;refine⟨_,(ag (aB (fL rfl (ax ["kept"] [1]) (ax ["kept"] [1]) (by decide) (aN (cy kc (au (oh L) L.iC (a5 (pv 0) (a5 (pv 1) a9))) gM (bp (pv 2)))) (λ_ _ _ _ _ _=>bq) (λ_ _ _ _ _ _=>(ee (a5 (pv 0) (a5 (Iv (K:=K) rfl waT wd1 wfN (G8 (K:=K) rfl) (pv 2) (a5 (pv 1) a9)) a9))))))),?_⟩
 try dsimp only[dC,dA,b6,b7]
 have B:many=((many.toNat:Nat):Int):=by omega
 refine⟨_,rfl,_,rfl,v,b,c,g,rfl,Y,S,x,λy C D Z=>?_⟩;obtain⟨a,f,rfl,hS,T⟩:=dY (bL.same (bZ _ _) _ _ Z);have Dw:f.length=(cS c g).length:=by rw[T.1,wa0,wa0]
 have YX:=IP c g;refine⟨_,rfl,((many.toNat:Nat):Int),congrArg V.int B,a,_,rfl,hS,λm G=>?_⟩;rw[Eb,<-wdB];have n:=a8.upd (H:=C) (o:=.lst ((f.take many.toNat).map V.ref)) G;have I:(upd C m (.lst ((f.take many.toNat).map V.ref))) m=some (.lst ((f.take many.toNat).map V.ref)):=a6;generalize upd C m (.lst ((f.take many.toNat).map V.ref))=H2 at n I;refine⟨m,rfl,⟨_,aM.of I⟩,λl hl=>?_⟩;refine jG (prs:=((cS c g).take many.toNat).map eI) (λ_=>true) (λq=>match q.2 with |.int e=>.tup [.at q.1,.at (.int (c.idxOf e.toNat:Int))] |_=>.at .non) (aP K m _) (by grind) (λi q j=>?_) hl (av (by grind)) (λU J=>aM.of (J _ _ I)) (λq M Q' _ _ O=>O M (a8.refl _)) (λq M Q' j _ s3 O=>?_) (λU J r=>?_)
 ·rw[wa4]at j
  have hi:i<((cS c g).take many.toNat).length:=by
   cases e:((cS c g).take many.toNat)[i]? with
   |none=>rw[e]at j;cases j
   |some z=>exact(wa6.mp e).1
  have d:i<many.toNat/\i<f.length:=by rw[wak]at hi;omega
  rw[wdO d.1,wa1 (by omega)]at j;cases j;refine⟨f[i],by rw[wa4,wdO d.1,wa1 d.2];rfl,gL.of (n _ _ ?_)⟩;exact T.2 i f[i] (jF (eI (cS c g)[i])) (wa1 d.2) (by rw[wa4,wa4,wa1 (by omega)];rfl)
 ·obtain⟨z,hz,rfl⟩:=wab.mp j;have R:=of_decide_eq_true (wav.mp ((wbi _ _).subset hz)).2;have p:aM K M b ((nI c).map V.int):=((D.trans n).trans s3).seq S;obtain⟨i1,i2⟩:=LQ R;refine⟨_,rfl,_,rfl,.inl ⟨rfl,_,p⟩,_,rfl,b,nI c,(z.2:Int),c.idxOf z.2,rfl,rfl,p,by rw[cJ];exact u,i1,i2,by show 2<=sizeLine;decide,λr t=>?_⟩;exact O _ _ (a8.upd t) (mr t (z.1,c.idxOf z.2))
 ·rw[wb6.mpr (λ_ _=>rfl),wah]at r;refine k _ U ((D.trans n).trans J) (bL.same (eP (D.trans n)) _ _ ?_);unfold gb bY;rw[wah];exact r
theorem yL(L:Lk K mg):aS P w K mg base d8 1 L.Bl L.Bm ["lines","desk","data"] (Jl K):=by
 refine L.q9.F.dQ (N:=["lines","desk","data","row","thing","step"]) (λX A outer s H vs Q E nd hr h=>?_);obtain⟨v,d,a,many,n,wl,ts,rfl,Y,T,z,hd,m,Z,hn,k⟩:=h
 refine⟨_,(a7 (ai (i:=3) eV)
  (a7 (b0 wal rfl (aN (pv 2)) (aw (i:=4)) (a7 (ai (i:=5) (bf bF (bf bF (pv 0) (pv 1) (λ_ _=>rfl)) (pv 4) (λ_ _=>rfl)))
  (a7 (ur (i:=3) nd rfl (wdR rfl) (bf fI (pv 5) aq (λ_ _=>rfl)) L6)
  (ag (ai (i:=1) (bf fI (pv 5) aq (λ_ _=>rfl)))))))
  (ag (aB (ee (a5 (pv 3) (a5 (pv 1) a9))))))),?_⟩
 try dsimp only[dC,dA,b6,b7]
 obtain⟨cl,xs,rfl,hc,B⟩:=id Y;refine⟨_,rfl,a,rfl,⟨_,T⟩,dh (K:=K) (a:=a) (xs:=(nI ts).map V.int) (λi σ u=>∃(v4 C:Option V),σ=[some (.ref cl),some (.int ((cG wl d (ts.take i)).2:Int)),some (.ref a),some (.str (cG wl d (ts.take i)).1),v4,C]/\a8 H u) ⟨none,none,rfl,a8.refl _⟩ (λi σ u _ ⟨_,_,_,c⟩=>c.seq T) ?_ ?_⟩
 ·rintro i y σ u D ⟨v4,C,rfl,c⟩;have hi:i<ts.length:=by have:=(wa6.mp D).1;rwa[wa0,cJ]at this
  have g:ts[i]?=some ts[i]:=wa1 hi;rw[vr g]at D;cases D;have G:=m _ (waL hi);have qL:ts.take (i+1)=ts.take i++[ts[i]]:=by rw[waN,g];rfl
  generalize ts[i]=t at g G qL;obtain⟨w1,w2⟩:=qw z hd (ts:=ts.take i) λx hx=>m x ((wbi _ _).subset hx);have e:=yK wl d (ts.take i) t;rw[<-qL]at e;have I:=cW w1;have G3:=z.ln _ (wa9 I);have J:=z.wd _ (wa9 I);have M:lV wl (cG wl d (ts.take i)) t=((cG wl d (ts.take i)).1++((wl.getD (cG wl d (ts.take i)).2 []).getD t ("",0)).1,((wl.getD (cG wl d (ts.take i)).2 []).getD t ("",0)).2):=rfl;rw[M]at e;generalize cG wl d (ts.take i)=O at *;obtain⟨v,R,rd⟩:=B.at (i:=O.2) (d:=bY (wl.getD O.2 [])) (by rw[wa4,I];rfl);generalize wl.getD O.2 []=f at *;obtain⟨b,j,rfl,hS,U⟩:=dY rd;have Dw:j.length=f.length:=by rw[U.1,wa0,wa0]
  have l:t<f.length:=by omega
  have o:t<j.length:=by omega
  have r:H j[t]=some (.tup [.str f[t].1,.int (f[t].2:Int)]):=U.2 t j[t] (jF (eI f[t])) (wa1 o) (by rw[wa4,wa4,wa1 l];rfl);have eq:f.getD t ("",0)=f[t]:=by rw[wa3,wa1 l];rfl
  have S:=J _ (waL l);rw[eq]at e;generalize f[t]=q at *;refine⟨_,rfl,_,rfl,cl,xs,_,_,rfl,rfl,c.seq (.inl hc),bE R,_,rfl,b,_,_,_,rfl,rfl,c.seq hS,bE (v:=.ref j[t]) (by rw[wa4,wa1 o];rfl),?_⟩;refine⟨_,rfl,_,rfl,j[t],_,_,_,rfl,rfl,gL.of (c _ _ r),rfl,_,_,rfl,rfl,av ?_,?_⟩
  ·rw[w2,S,wak];have h1:n*min i ts.length<=10*99999:=wc3 hn (by omega);omega
  refine⟨_,rfl,j[t],_,_,_,rfl,rfl,gL.of (c _ _ r),rfl,?_⟩;rw[e];exact⟨_,_,rfl,c⟩
 ·rintro σ u ⟨v4,C,rfl,c⟩;rw[wa0,cJ,waI];refine⟨_,rfl,_,rfl,by show 2<=sizeLine;decide,λp hp=>?_⟩;exact k p _ (c.trans (a8.upd hp)) a6
theorem tP(L:Lk K mg):aS P w K mg base d8 1 L.n6 L.n7 ["self"] (LU L.az):=by
 have T:=L.T;refine L.fY.F.dQ (N:=["self"]) (λo A outer s H R Q E nd S h=>?_);obtain⟨x,g,bw,ss,ls,rfl,B,p,e,k⟩:=h;refine⟨_,(ag (aB (Lg rfl (by rfl) T.max (a5 (cD rfl (ax [] []) (aN (aD (pv 0) rfl)) (λ_ _ _ _ _ _=>bq) (λ_ _ _ _ _ _=>(aC bJ (by rfl) T.len waM (a5 (pv 0) a9)))) a9) aq))),?_⟩
 try dsimp only[dC,dA,b6,b7]
 obtain⟨r,b,d,q,U,t,l,f,X,Y,Z⟩:=id B.ex;refine⟨_,rfl,x,L.az,r,_,_,rfl,t,L.aG.cl,L.aG.vE,sy g b d q,b,rfl,⟨_,aM.of l⟩,λu i=>?_⟩;refine dU (λ_=>true) (λv=>match v with |.str z=>.int (z.length:Int) |_=>.non) (aP K b _) i (av (by rw[wa0];omega)) (λH' C=>aM.of (C _ _ l)) (λy a D m c j=>j a (a8.refl _)) (λy a D m _ c j=>?_) (λa c f=>?_)
 ·obtain⟨w,hw,rfl⟩:=wab.mp m;exact⟨_,rfl,w,rfl,av (by have:=e w hw;omega),j a (a8.refl _)⟩
 have G:((bw.map V.str).filter λ_=>true).map (λv=>match v with |.str z=>V.int (z.length:Int) |_=>.non)=(bw.map λw=>(w.length:Int)).map V.int:=by
  rw[wb6.mpr (λ_ _=>rfl),wah,wah];rfl
 rw[G]at f;refine⟨u,_,0,rfl,rfl,aM.of f,λhn=>?_,λM I J=>?_⟩
 ·have n:bw=[]:=wgV.mp hn;exact k 0 a c ⟨(λw hw=>by rw[n]at hw;cases hw),.inl ⟨rfl,n⟩⟩
 ·obtain⟨w,hw,rfl⟩:=wab.mp I;exact k _ a c ⟨λz O=>J _ (wab.mpr ⟨z,O,rfl⟩),.inr ⟨w,hw,rfl⟩⟩
theorem rH(L:Lk K mg):aS P w K mg base d8 2 L.lH L.lI ["band","wide"] (Jn L.az):=by
 have T:=L.T;refine L.i7.F.dQ (N:=["band","wide","signs"]) (λj A outer s H z Q E nd l h=>?_);obtain⟨x,n,g,bw,ss,ls,rfl,B,n1,wH,c,e,k⟩:=h
 refine⟨_,(a7 (ai (i:=2) (aC (EW rfl) (by rfl) T.max Ie (a5 (aO uw (bP (pv 0) L.aG.cl L.fY.m (tP L) (l.mono (by decide)) L.fY.b .nil bI) aq) (a5 aq a9))))
  (ag (aB (aO u3 (aO uw (aO dH (pv 2) (pv 1)) aq) (pv 1))))),?_⟩
 try dsimp only[dC,dA,b6,b7]
 obtain⟨o,b,d,q,C,p,D,G,I,J,O⟩:=id B.ex;refine⟨_,rfl,x,o,_,rfl,p,CC g b d q (by decide+kernel) (by decide+kernel) (by decide+kernel) (by decide+kernel),x,g,bw,ss,ls,rfl,B,e,(λw hw=>by have:=c w hw;omega),λM r t f=>?_⟩;refine⟨_,_,rfl,rfl,_,_,rfl,?_⟩
 have u:0<=M/\M<=900:=by
  rcases f.a with⟨h,_⟩ |⟨w,hw,h⟩
  ·omega
  ·have:=c w hw;omega
 have v:0<=((if 0>M-1 then 0 else M-1)+(n:Int)-1)/(n:Int):=whR (by split<;>omega) (by omega)
 have y:((if 0>M-1 then 0 else M-1)+(n:Int)-1)/(n:Int)<=1000:=by
  refine wdY (Int.ediv_le_self _ (by split<;>omega)) (by split<;>omega)
 refine⟨_,rfl,_,rfl,_,_,rfl,rfl,_,_,rfl,rfl,_,rfl,_,_,rfl,rfl,⟨by omega,by omega⟩,?_⟩;have:=k (((if 0>M-1 then 0 else M-1)+(n:Int)-1)/(n:Int)).toNat r t ⟨by omega,M,f,by omega⟩;rwa[show ((((if 0>M-1 then 0 else M-1)+(n:Int)-1)/(n:Int)).toNat:Int)=((if 0>M-1 then 0 else M-1)+(n:Int)-1)/(n:Int) by omega]at this
theorem oQ(L:Lk K mg):aS P w K mg base d8 1 L.jg L.jh ["self","place"] (U8 L.az):=by
 have T:=L.T;refine L.eA.F.dQ (N:=["self","place"]) (λa A outer s H l Q E nd m h=>?_);obtain⟨x,p,g,n,ss,ls,rfl,B,c,k⟩:=h;obtain⟨⟨f,b,d,q,o,i,r,t,u,y,j⟩,_,_,_⟩:=B;refine⟨_,(ag (bK (PW.pt (j7 (eW (cQ (aC cZ (by rfl) T.LJ zb (a5 (pv 1) (a5 (iA (v:=.ty "str") (by rfl) T.str Kx rfl) a9))))) (m3 (aH kd (pv 1) (aD (pv 0) rfl) rfl)))) dg aQ)),?_⟩
 try dsimp only[dC,dA,b6,b7]
 refine⟨_,rfl,_,_,_,true,rfl,j4.str p,rfl,true,rfl,cm ?_⟩;refine⟨_,rfl,_,rfl,x,L.az,f,_,_,rfl,i,L.aG.cl,L.aG.rz,y4 g b d q,q,_,rfl,.inl (aM.of j),rfl,fv _,?_⟩;have e:p7 (.str p) (ls.map V.str)=true:=by rw[jz];exact decide_eq_true c
 refine⟨false,?_,cm k⟩;show V.bl (!p7 (.str p) (ls.map V.str))=V.bl false;rw[e];rfl
theorem vY(L:Lk K mg):aS P w K mg base d8 3 L.nR L.nT ["band","rows"] (Ik L.az):=by
 refine L.jo.F.dQ (N:=["band","rows","longer","word","place","sign","end"]) (λhX A outer s H vs Q E nd hr h=>?_);obtain⟨x,l,rs,n,g,u,ss,ls,rfl,B,R,hq,MC,EA,k⟩:=h
 refine⟨_,(a7 (ai (i:=2) (cC a9))
  (a7 (b0 wal rfl (aN (pv 1)) (dG rfl (aK (aw (i:=3)) (aK (aw (i:=4)) cB))) (ag (b0 wal rfl (z4 (aD (pv 0) rfl)) (aw (i:=5)) (a7 (ai (i:=6) (cX (pv 0) L.aG.cl L.gG.m (tF L) (hr.mono (by decide)) L.gG.b .nil bI (a5 (pv 4) (a5 (pv 5) a9))))
  (ag (bK (aH yS (pv 6) gu (aU _)) (ag (bu (j8 waT waX waZ cV (pv 2) (a5 (ee (a5 (aO oq (pv 3) (pv 5)) (a5 (pv 6) a9))) a9)))) aQ))))))
  (ag (aB (pv 2))))),?_⟩
 try dsimp only[dC,dA,b6,b7]
 refine⟨waB _,λv z=>?_⟩;have s0:a8 H (upd H v (.lst [])):=a8.upd z;refine⟨_,rfl,l,rfl,⟨_,aM.of (s0 _ _ R.l)⟩,dh (K:=K) (a:=l) (xs:=rs.map V.ref) (λi σ O=>∃(v3 v4 C v6:Option V) (f:List Addr),σ=[some (.ref x),some (.ref l),some (.ref v),v3,v4,C,v6]/\a8 H O/\eG O v f (fM g u ss (n.take i))) ⟨none,none,none,none,[],rfl,s0,⟨a6,b8.nil _⟩⟩ (λi σ O _ ⟨_,_,_,_,_,_,D,_⟩=>aM.of (D _ _ R.l)) ?_ ?_⟩
 ·rintro i y σ O G ⟨v3,v4,C,v6,f,rfl,D,R2⟩;rw[wa4]at G
  obtain⟨r,S,rfl⟩:∃r,rs[i]?=some r/\y=.ref r:=by
   cases q:rs[i]? with
   |none=>rw[q]at G;cases G
   |some r=>rw[q]at G;exact⟨r,rfl,(wag G).symm⟩
  have T:i<n.length:=by have:=(wa6.mp S).1;rw[R.len]at this;exact this
  have U:n[i]?=some n[i]:=wa1 T;obtain⟨X,Y⟩:=hq n[i] (waL T);have hT:=R.t.2 i r (mn n[i]) S (by rw[wa4,U];rfl);have qL:n.take (i+1)=n.take i++[n[i]]:=by rw[waN,U];rfl
  have I:fM g u ss (n.take (i+1))=fM g u ss (n.take i)++qZ g u ss n[i]:=by
   unfold fM;rw[qL,weJ];simp
  have MJ:(fM g u ss (n.take i)).length<=1000:=by
   have h1:=sC g u ss (n.take i);have h2:(n.take i).length<=100:=by rw[wak];omega
   exact waj h1 (wc3 h2 EA)
  generalize n[i]=q at X Y hT I;obtain⟨w,p⟩:=q;generalize fM g u ss (n.take i)=M at R2 I MJ;refine⟨r,_,rfl,gL.of (D _ _ hT),rfl,_,_,rfl,_,_,rfl,rfl,?_⟩;have B2:=B.same D;obtain⟨⟨dx,b,d,qq,mv,h1,h2,h3,h4,h5,h6⟩,pm,_,_⟩:=id B2;refine⟨_,rfl,x,L.az,dx,_,_,rfl,h1,L.aG.cl,L.aG.pG,kz g b d qq,g,rfl,m9 (p9 g) (λj σ Z=>∃(C v6:Option V) (f:List Addr),σ=[some (.ref x),some (.ref l),some (.ref v),some (.str w),some (.str p),C,v6]/\a8 H Z/\eG Z v f (M++((ch g).take j).filterMap λc=>if bears u (p++⟨#[c]⟩)=true then none else some (w++⟨#[c]⟩,lend ss (p++⟨#[c]⟩)))) ⟨_,_,f,rfl,D,by rw[wdo,List.filterMap_nil,waY];exact R2⟩ (λ_ _ _ _ _=>trivial) ?_ ?_⟩
  ·rintro j y σ Z G ⟨C,v6,f,rfl,s3,R3⟩;obtain⟨c,hci,rfl,hj,Zw,Rg⟩:=Fl G;have B3:=B.same s3;obtain⟨⟨Zx,_,_,_,_,Zy,_⟩,_⟩:=id B3;refine⟨_,rfl,x,Zx,_,rfl,Zy,CC _ _ _ _ (by decide+kernel) (by decide+kernel) (by decide+kernel) (by decide+kernel),_,rfl,_,rfl,x,p,c,g,u,ss,ls,rfl,B3,X,Zw,?_⟩
   have UU:(M++((ch g).take j).filterMap λc=>if bears u (p++⟨#[c]⟩)=true then none else some (w++(⟨#[c]⟩:Str),lend ss (p++(⟨#[c]⟩:Str)))).length<=1010:=by
    have:=wcW (λc=>if bears u (p++⟨#[c]⟩)=true then none else some (w++(⟨#[c]⟩:Str),lend ss (p++(⟨#[c]⟩:Str)))) ((ch g).take j);rw[wak,aV]at this;rw[wa5];omega
   refine⟨_,rfl,rfl,_,rfl,?_⟩;rw[Rg,wgt,<-waS];generalize (M++((ch g).take j).filterMap λc=>if bears u (p++⟨#[c]⟩)=true then none else some (w++(⟨#[c]⟩:Str),lend ss (p++(⟨#[c]⟩:Str))))=M2 at R3 UU
   cases hb:bears u (p++⟨#[c]⟩) with
   |true=>
    have e:ub u ss p c=.non:=by unfold ub;rw[hb];rfl
    rw[e];refine cm ⟨_,_,f,rfl,s3,?_⟩
    have e2:([c].filterMap λc=>if bears u (p++⟨#[c]⟩)=true then none else some (w++(⟨#[c]⟩:Str),lend ss (p++(⟨#[c]⟩:Str))))=[]:=by
     rw[wbg,hb];rfl
    rw[e2,waY];exact R3
   |false=>
    have e:ub u ss p c=.str (lend ss (p++⟨#[c]⟩)):=by unfold ub;rw[hb];rfl
    rw[e]
    have e2:([c].filterMap λc=>if bears u (p++⟨#[c]⟩)=true then none else some (w++(⟨#[c]⟩:Str),lend ss (p++(⟨#[c]⟩:Str))))=[(w++⟨#[c]⟩,lend ss (p++⟨#[c]⟩))]:=by
     rw[wbg,hb];rfl
    rw[e2];have Dw:=R3.len;have Zz:w.length<=100:=Y;refine fJ ⟨_,rfl,.inl ⟨rfl,_,aM.of R3.l⟩,_,rfl,_,rfl,_,_,rfl,rfl,av (by show w.length+1<=_;omega),_,rfl,by show 2<=sizeLine;decide,λr' J=>?_⟩;refine⟨v,_,_,rfl,rfl,a8.upd J _ _ R3.l,by rw[wa0,Dw];exact wbe UU (by rw[wcb];decide),?_⟩;have key:=R3.push J (w++⟨#[c]⟩,lend ss (p++⟨#[c]⟩))
    have sk:a8 H (upd (upd Z r' (.tup [.str (w++⟨#[c]⟩),.str (lend ss (p++⟨#[c]⟩))])) v (.lst (f.map V.ref++[.ref r']))):=λa o ea=>by
     rw[ae (af ea z)];exact a8.upd J _ _ (s3 _ _ ea)
    unfold mn at key;generalize lend ss (p++⟨#[c]⟩)=le at key sk ⊢;refine⟨some (.str ⟨#[c]⟩),some (.str le),f++[r'],?_,?_,?_⟩
    ·rfl
    ·exact sk
    ·exact key
  ·rintro σ Z ⟨C,v6,f,rfl,s3,R3⟩;refine⟨_,_,_,_,f,rfl,s3,?_⟩;have:(eY g).length=(ch g).length:=by unfold eY;rw[wa0]
   rw[this,waI]at R3;rw[I];exact R3
 ·rintro σ O ⟨v3,v4,C,v6,f,rfl,D,R2⟩;rw[wa0,R.len,waI]at R2;exact⟨_,rfl,k v f O D z R2⟩
theorem nk(L:Lk K mg):aS P w K mg base d8 4 L.nU L.nV ["band","place","wide"] (Il L.az):=by
 have T:=L.T;refine L.gO.F.dQ (N:=["band","place","wide","rows","step","live"]) (λhX A outer s H vs Q E nd C h=>?_);obtain⟨x,p,n,g,a,ss,ls,rfl,B,hp,j,hn,EC,O,k⟩:=h
 refine⟨_,(a7 (bu (cX (pv 0) L.aG.cl L.eA.m (oQ L) (C.mono (by decide)) L.eA.b .nil bI (a5 (pv 1) a9)))
  (a7 (ai (i:=3) (cC (a5 (ee (a5 eV (a5 (pv 1) a9))) a9)))
  (a7 (b0 wal rfl (cT rfl T.range (a5 (pv 2) a9)) (aw (i:=4)) (ag (ai (i:=3) (au (vY L) L.jo (a5 (pv 0) (a5 (pv 3) a9))))))
  (a7 (ai (i:=5) (bP (pv 0) L.aG.cl L.dE.m (lu L) (C.mono (by decide)) L.dE.b .nil bI))
  (ag (aB (fL rfl (ax ["live"] [5]) (ax ["live"] [5]) (by decide) (aN (pv 3)) (λ_ _ _ _ _ _=>gN (aH (iM (K:=K) rfl) (pv 1) (pv 2) rfl)) (λ_ _ _ _ _ _=>(ee (a5 (pv 0) (a5 (pv 1) a9))))))))))),?_⟩
 try dsimp only[dC,dA,b6,b7]
 have he:("":Str)∈ss:=B.pm.mem_iff.mpr (cn a);have R:p∈ss:=B.lv.sub.subset hp;obtain⟨⟨dx,b,d,q,mv,o,D,h3,h4,h5,h6⟩,pm,_,_⟩:=id B;refine⟨_,rfl,x,dx,_,rfl,o,CC _ _ _ _ (by decide+kernel) (by decide+kernel) (by decide+kernel) (by decide+kernel),_,rfl,x,p,g,a,ss,ls,rfl,B,hp,?_⟩;refine⟨_,rfl,by show 2<=sizeLine;decide,λe S=>⟨by show 1<=sizeLine;decide,λG u=>?_⟩⟩
 have R0:eG (upd (upd H e (.tup [.str "",.str p])) G (.lst [.ref e])) G [e] (uW g a ss p 0):=by
  refine⟨a6,rfl,λi r xs o D=>?_⟩
  match i,o,D with
  |0,o,D=>
   cases o;cases D;exact a8.upd u _ _ a6
 have s0:a8 H (upd (upd H e (.tup [.str "",.str p])) G (.lst [.ref e])):=(a8.upd S).trans (a8.upd u);refine⟨_,rfl,(n:Int),rfl,by omega,by omega,?_⟩;rw[waG];refine cU (lo:=0) (n:=n) (λi σ I=>∃(l:Addr) (v:List Addr) (v4:Option V),σ=[some (.ref x),some (.str p),some (.int (n:Int)),some (.ref l),v4,none]/\a8 H I/\eG I l v (uW g a ss p i)) ⟨G,[e],none,rfl,s0,R0⟩ ?_ ?_
 ·rintro i σ I hi ⟨l,v,v4,rfl,f,R2⟩;have c:(uW g a ss p i).length<=100:=waj (ph g a ss p i) (waj (wgK (by omega) (by omega)) j);refine⟨_,rfl,_,rfl,x,l,v,_,g,a,ss,ls,rfl,B.same f,R2,λr C=>?_,c,O,λl' U H3 y f3 R3=>⟨l',U,_,rfl,f.trans y,R3⟩⟩;obtain⟨a1,a2⟩:=uX he R i r C;exact⟨a1,by omega⟩
 ·rintro σ I ⟨l,v,v4,rfl,f,R2⟩;have B2:=B.same f;obtain⟨⟨X,_,_,_,_,Y,_⟩,_⟩:=id B2;refine⟨_,rfl,x,X,_,rfl,Y,CC _ _ _ _ (by decide+kernel) (by decide+kernel) (by decide+kernel) (by decide+kernel),x,g,a,ss,ls,rfl,B2,λlv H3 y f3 Z=>?_⟩;have R3:=R2.same y;have c:(uW g a ss p n).length<=100:=waj (ph g a ss p n) j;have Dw:=R3.len;refine⟨_,rfl,l,rfl,⟨_,aM.of R3.l⟩,λlr z=>?_⟩;refine Fy (prs:=(uW g a ss p n).map pj) (λq=>p7 q.2 (ls.map V.str)) jF (aP K l (v.map V.ref)) (by rw[Ef];exact R3.t) z (av (by omega)) (λH' s'=>aM.of (s' _ _ R3.l)) (λqv J Q' hq M qq=>?_) (λqv J Q' hq _ M qq=>?_) (λys J M ZA t4=>?_)
  ·obtain⟨q',_,rfl⟩:=wab.mp hq;exact⟨_,rfl,_,rfl,lv,_,rfl,.inl (aM.of (M _ _ Z)),rfl,fv _,_,rfl,qq J (a8.refl _)⟩
  ·exact⟨_,rfl,_,rfl,by show 2<=sizeLine;decide,λr' UQ=>qq r' _ (a8.upd UQ) a6⟩
  ·rw[AU]at t4;exact k lr ys J ((f.trans y).trans M) (none_of (f.trans y) z) ⟨ZA,t4⟩
theorem xm(L:Lk K mg):aS P w K mg base d8 5 L.pL L.pM ["band","wide"] (AV L.az):=by
 refine L.kQ.F.dQ (N:=["band","wide","ends","place"]) (λhX A outer s H vs Q E nd hr h=>?_);obtain⟨x,n,g,J,ss,ls,rfl,B,K3,hn,EC,EA,Ez,k⟩:=h;have hu:=fb hr
 refine⟨_,(a7 (ai (i:=2) cY)
  (a7 (b0 wal rfl (aN (bP (pv 0) L.aG.cl L.dE.m (lu L) (hr.mono (by decide)) L.dE.b .nil bI)) (aw (i:=3)) (ag (et hu (pv 2) (pv 3) (fL rfl (ax [] []) (ax [] []) (by decide) (aN (au (nk L) L.gO (a5 (pv 0) (a5 (pv 3) (a5 (pv 1) a9))))) (λ_ _ _ _ _ _=>bq) (λ_ _ _ _ _ _=>(pv 1))) rfl)))
  (ag (aB (pv 2))))),?_⟩
 try dsimp only[dC,dA,b6,b7]
 refine λu v=>?_;have Y:a8 H (upd H u (.dK [])):=a8.upd v;have B0:=B.same Y;obtain⟨⟨dx,b,d,q,mv,h1,h2,h3,h4,h5,h6⟩,pm,_,_⟩:=id B0;refine⟨_,rfl,x,dx,_,rfl,h1,CC _ _ _ _ (by decide+kernel) (by decide+kernel) (by decide+kernel) (by decide+kernel),x,g,J,ss,ls,rfl,B0,λlp Z R f1 S=>?_⟩;have SJ:lp≠u:=λz=>by rw[z,a6]at f1;cases f1
 have nd:ls.Nodup:=B.nd.sublist B.lv.sub;have Dh:ls.length<=900:=waj B.lv.sub.length_le Ez
 refine⟨lp,rfl,⟨_,aM.of S⟩,dh (K:=K) (a:=lp) (xs:=ls.map V.str) (λi σ H2=>∃v3 r,σ=[some (.ref x),some (.int (n:Int)),some (.ref u),v3]/\H2 u=some (.dK (cu r))/\r.map (·.1)=ls.take i/\(∀m∈r,H2 m.2=some (.lst (((aT g J ss ls n m.1).map (·.2)).map V.str)))/\(∀m∈r,Z m.2=none)/\(∀c o,Z c=some o->c≠u->H2 c=some o))
  ⟨none,[],rfl,R _ _ a6,rfl,λm C=>(nomatch C),λm C=>(nomatch C),λc o e _=>e⟩ (λi σ H2 _ ⟨_,_,_,_,_,_,_,M⟩=>aM.of (M _ _ S SJ)) ?_ ?_⟩
 ·rintro i y σ H5 hy ⟨v3,r,rfl,D,f,j,G,M⟩;obtain⟨p,Od,rfl,hi,Dx,qL⟩:=gZ hy;have Ul:a8 H H5:=λc o e=>M _ _ (R _ _ (Y _ _ e)) (af e v);refine⟨_,rfl,_,rfl,_,rfl,x,p,n,g,J,ss,ls,rfl,B.same Ul,Dx,K3,hn,EC,EA,λlb rs H6 s6 f6 R6=>?_⟩;have Oh:=gB g J ss ls n p;have Dw:=R6.len;refine⟨lb,rfl,⟨_,aM.of R6.l⟩,λe he=>?_⟩;refine oB (prs:=(aT g J ss ls n p).map pj) (λ_=>true) (λq=>q.2) (aP K lb (rs.map V.ref)) (by rw[Ef];exact R6.t) he (av (by omega)) (λH' s'=>aM.of (s' _ _ R6.l)) (λq H7 Q' _ _ qq=>qq H7 (a8.refl _)) (λq H7 Q' _ _ _ qq=>⟨_,rfl,qq H7 (a8.refl _)⟩) (λH7 s7 h7=>?_)
  have e7:(((aT g J ss ls n p).map pj).filter λ_=>true).map (λq=>q.2)=((aT g J ss ls n p).map (·.2)).map V.str:=by
   rw[wb6.mpr (λ_ _=>rfl),wah,wah];rfl
  rw[e7]at h7;have O:=s6.trans s7;have d6:=O _ _ D;have I:H5 e=none:=none_of s6 he;have T:p∉r.map (·.1):=by rw[f];exact iQ nd Od
  have Um:r.length<=900:=by have:=congrArg wdE f;rw[wa0,wak]at this;omega
  refine⟨_,rfl,_,rfl,u,_,rfl,ke.k (k:=wai p) d6 (by unfold cu;rw[wa0];exact bz (by omega)),?_⟩;have U:e≠u:=λz=>by rw[z,D]at I;cases I
  have e1:Z e=none:=by
   cases q:Z e with
   |none=>rfl
   |some o=>
    have:=M _ _ q U;rw[this]at I;cases I
  refine⟨_,r++[(p,e)],rfl,?_,?_,?_,?_,?_⟩
  ·rw[a6,f9 _ (oz T)];unfold cu;rw[wao];rfl
  ·rw[wao,f,qL];rfl
  ·intro m C;rcases waA.mp C with z |z
   ·have nm:m.2≠u:=λq=>by
     have:=G m z;rw[q,R _ _ a6]at this;cases this
    rw[ae nm];exact O _ _ (j m z)
   ·have:m=(p,e):=by simpa using z
    subst this;rw[ae U];exact h7
  ·intro m C;rcases waA.mp C with z |z
   ·exact G m z
   ·have:m=(p,e):=by simpa using z
    subst this;exact e1
  ·intro c o hc X;rw[ae X];exact O _ _ (M c o hc X)
 ·rintro σ H5 ⟨v3,r,rfl,D,f,j,G,M⟩;rw[wa0,waI]at f;exact⟨_,rfl,k u r H5 (λc o e=>M _ _ (R _ _ (Y _ _ e)) (af e v)) v D f j λm C=>none_of Y (none_of R (G m C))⟩
theorem zC(L:Lk K mg):aS P w K mg base d8 1 L.sS L.sT ["places","weights"] (Im K):=by
 have T:=L.T;refine L.mB.F.dQ (N:=["places","weights"]) (λj A outer s H y Q E nd n h=>?_);obtain⟨l,d,o,m,f,rfl,g,p,hd,hw,k⟩:=h;have q:=fb n;refine⟨_,(ag (aB (aC (ml rfl) (by rfl) T.sum Fn (a5 (cD rfl (ax ["weights"] [1]) (aN (pv 0)) (λ_ _ _ _ _ _=>bq) (λ_ _ _ _ _ _=>(da q (pv 1) (pv 0) (λ_ _=>rfl)))) a9)))),?_⟩
 try dsimp only[dC,dA,b6,b7]
 refine⟨_,rfl,l,rfl,⟨_,g⟩,λr a=>?_⟩;refine comp_map (KW f) (aP K l (o.map V.str)) a (by rw[wa0];exact av (by omega)) (λB t=>t.seq g) (λz b C u c v=>?_) (λb c i=>?_)
 ·obtain⟨e,x,rfl⟩:=wab.mp u;have g3:=eD.rd (k:=(wai e:Key)) (hd.same c);rw[eN,hw e x]at g3;exact⟨_,rfl,_,rfl,d,_,rfl,g3,v b (a8.refl _)⟩
 ·rw[qY]at i;exact⟨r,_,rfl,aM.of i,k b c⟩
theorem DA(L:Lk K mg):aS P w K mg base d8 2 L.yA L.yB ["ends","many","weights"] FC:=by
 have T:=L.T;refine L.rB.F.dQ (N:=["ends","many","weights","lower","place"]) (λX A outer s H vs Q E nd Y h=>?_);obtain⟨x,B,many,n,o,M,f,g,r,ss,ls,rfl,l,O,Z,K3,nd,Dh,hm2,ZB,C,k⟩:=h;have D:=fb Y
 refine⟨_,(a7 (ai (i:=3) cY)
  (a7 (b0 wal rfl (ud (pv 0)) (aw (i:=4)) (ag (et D (pv 3) (pv 4) (aC (xM rfl) (by rfl) T.min NI (a5 (da D (pv 2) (pv 4) (λ_ _=>rfl)) (a5 (aO u3 (au (zC L) L.mB (a5 (da D (pv 0) (pv 4) (λ_ _=>rfl)) (a5 (pv 2) a9))) (pv 1)) a9))) rfl)))
  (ag (aB (pv 3))))),?_⟩
 try dsimp only[dC,dA,b6,b7]
 refine λdl m=>?_;have R:a8 H (upd H dl (.dK [])):=a8.upd m;have J:=jD x o (cu M);rw[iO,O]at J;refine⟨_,rfl,x,_,rfl,.inr ⟨o,R _ _ l,?_⟩⟩;refine m9 J (λj σ t=>∃(v4:Option V),σ=[some (.ref x),some (.int many),some (.ref B),some (.ref dl),v4]/\t dl=some (.dK (bG (cz (mq g r ss ls many n f) (ls.take j))))/\a8 H t) ⟨none,rfl,a6,R⟩ (λj σ t _ ⟨_,_,_,b⟩=>b _ _ l) ?_ ?_
 ·rintro j y σ t hy ⟨v4,rfl,z,b⟩;obtain⟨p,G,rfl,hj,u,qL⟩:=gZ hy;have d:=C.same b;have g3:=eD.rd (k:=(wai p:Key)) d;rw[eN,kD f ls p u]at g3;obtain⟨a,ha,hv⟩:=iG (mv:=M) (k:=p) (by rw[O];exact u);have S:=eD.f (k:=(wai p:Key)) (b _ _ l);rw[hv]at S;have I:=b _ _ (Z _ ha);have Oh:=gB g r ss ls n p;refine⟨_,rfl,_,rfl,B,_,rfl,g3,_,rfl,_,rfl,x,_,rfl,S,_,rfl,a,B,(aT g r ss ls n p).map (·.2),_,f,rfl,aM.of I,by rw[wa0];omega,d,λe he=>?_,λH4 U=>?_⟩
  ·obtain⟨q,hq,rfl⟩:=wab.mp he;exact kD f ls _ (dM hq)
  have eb:(((aT g r ss ls n p).map (·.2)).map f).sum=iw g r ss ls n f p:=by unfold iw;rw[wah];rfl
  refine⟨_,rfl,_,_,rfl,rfl,⟨by omega,by omega⟩,_,_,rfl,?_⟩;have h4:=U _ _ z;have v:p∉(cz (mq g r ss ls many n f) (ls.take j)).map (·.1):=by rw[ri];exact iQ nd G
  refine⟨_,rfl,_,rfl,dl,_,rfl,ke.k (k:=wai p) h4 (by rw[jE];unfold cz;rw[wa0,wak];exact bz (by omega)),?_⟩;refine⟨_,rfl,?_,λc oc e=>?_⟩
  ·rw[a6,rg v,eb,qL];unfold cz;rw[wao];rfl
  ·rw[ae (af e m)];exact U _ _ (b _ _ e)
 ·rintro σ t ⟨v4,rfl,z,b⟩;rw[wa0,waI]at z;exact⟨_,rfl,k dl t b m z⟩
theorem Bt(L:Lk K mg):aS P w K mg base d8 6 L.oN L.vL ["band","many","wide","most"] (L5 L.az):=by
 refine L.oO.F.dQ (N:=["band","many","wide","most","ends","weights","place","lower"]) (λhX A outer s H vs Q E nd hr h=>?_);obtain⟨x,many,n,most,g,v,ss,ls,rfl,B,EC,U,X,Y,Wz,k⟩:=h;have hu:=fb hr;have QP:(A.deeper (wdG "greatest" (aI (top 33)) s.heap.objs.size L.oN hX)).units<wcI:=hr.yU
 refine⟨_,(a7 (bu (au (gU L) L.eQ (a5 (pv 0) (a5 (pv 1) (a5 (pv 2) a9)))))
  (a7 (ai (i:=4) (au (xm L) L.kQ (a5 (pv 0) (a5 (pv 2) a9))))
  (a7 (ai (i:=5) cY)
  (a7 (b0 wal rfl (AR (pv 4)) (aw (i:=6)) (ag (et hu (pv 5) (pv 6) (pv 3) rfl)))
  (ag (jw wal (cQ gX) (a7 (ai (i:=7) (au (DA L) L.rB (a5 (pv 4) (a5 (pv 1) (a5 (pv 5) a9)))))
  (a7 (bK (aH (NQ QP) (pv 7) (pv 5) (aU _)) (ag (aB (pv 5))) aQ)
  (ag (ai (i:=5) (pv 7))))))))))),?_⟩
 try dsimp only[dC,dA,b6,b7]
 obtain⟨Z,rb,rc,rd,re⟩:=id Y
 have K3:g.length^n<=64:=by
  rw[waG]at re;have:((g.length^n:Nat):Int)<=64:=by rw[wdK];exact re
  omega
 have nd:ls.Nodup:=B.nd.sublist B.lv.sub;have Dh:ls.length<=900:=waj B.lv.sub.length_le X;refine⟨_,rfl,_,rfl,_,rfl,x,many,n,g,v,ss,ls,rfl,B,U,Y,?_⟩;refine⟨_,rfl,_,rfl,x,n,g,v,ss,ls,rfl,B,by omega,by omega,EC,U,X,λd G H1 s1 Uo h1 ek er ef=>?_⟩;have ZC:∀q∈G,q.2≠d:=λq hq z=>by have:=er q hq;rw[z,h1]at this;cases this
 refine λa b=>?_;have I:d≠a:=af h1 b;have X6:(upd H1 a (.dK [])) d=some (.dK (cu G)):=a8.upd b _ _ h1;refine⟨_,rfl,d,_,rfl,.inl X6,λo H2 h2 l=>?_⟩;have M:H2 a=some (.dK []):=by rw[l a (wb9 I),a6]
 have s2:a8 H H2:=λc O e=>by
  rw[l c (af e Uo)];exact a8.upd b _ _ (s1 _ _ e)
 have R:∀m∈G,H2 m.2=some (.lst (((aT g v ss ls n m.1).map (·.2)).map V.str)):=λm r=>by
  rw[l _ (ZC m r)];exact a8.upd b _ _ (er m r)
 have t:H a=none:=none_of s1 b;have J:=jD d o (cu G);rw[iO,ek]at J;refine m9 J (λj σ u=>∃(v6:Option V),σ=[some (.ref x),some (.int many),some (.int (n:Int)),some (.int most),some (.ref d),some (.ref a),v6,none]/\u a=some (.dK (bG (cz (λ_=>most) (ls.take j))))/\∀c O,H2 c=some O->c≠a->u c=some O) ⟨none,rfl,M,λc O e _=>e⟩ (λj σ u _ ⟨_,_,_,C⟩=>C _ _ h2 I) ?_ ?_
 ·rintro j y σ u hy ⟨v6,rfl,h3,C⟩;obtain⟨p,P7,rfl,hj,Dx,qL⟩:=gZ hy;have Jg:p∉(cz (λ_=>most) (ls.take j)).map (·.1):=by rw[ri];exact iQ nd P7
  refine⟨_,rfl,_,rfl,_,rfl,a,_,rfl,ke.k (k:=wai p) h3 (by rw[jE];unfold cz;rw[wa0,wak];exact bz (by omega)),?_⟩;refine⟨_,rfl,?_,λc O e hc=>by rw[ae hc];exact C c O e hc⟩;rw[a6,rg Jg,qL];unfold cz;rw[wao];rfl
 rintro σ u ⟨v6,rfl,h3,C⟩;rw[wa0,waI]at h3;have Uq:=C _ _ h2 I;have s3:a8 H u:=λc O e=>C _ _ (s2 _ _ e) (af e t);have UW:∀m∈G,m.2≠a:=λm r z=>by have:=R m r;rw[z,M]at this;cases this
 have SK:∀m∈G,u m.2=some (.lst (((aT g v ss ls n m.1).map (·.2)).map V.str)):=λm r=>C _ _ (R m r) (UW m r);clear C h2 M R er h1 l X6 J b
 refine⟨λq σ H4=>∃(a:Addr) (f:Str->Int) (v6 v7:Option V),q=(ls.map λp=>(f p).toNat).sum/\σ=[some (.ref x),some (.int many),some (.int (n:Int)),some (.int most),some (.ref d),some (.ref a),v6,v7]/\a8 u H4/\H a=none/\H4 a=some (.dK (bG (cz f ls)))/\(∀p∈ls,0<=f p)/\(∀p∈ls,f p<=most)/\(∀h:Str->Int,(∀p∈ls,h p<=most)->GA g v ss ls many n h->∀p∈ls,h p<=f p),
  ⟨_,a,λ_=>most,v6,none,rfl,rfl,a8.refl _,t,h3,λ_ _=>Wz,λ_ _=>weR _,λh hh _ p hp=>hh p hp⟩,?_⟩
 rintro q σ H4 ⟨a,f,v6,v7,rfl,rfl,s4,t,h4,S,X7,X8⟩;refine⟨true,rfl,fJ ?_⟩;refine⟨λσ' H'=>∃(dl:Addr) (v6 v7:Option V),σ'=[some (.ref x),some (.int many),some (.int (n:Int)),some (.int most),some (.ref d),some (.ref dl),v6,v7]/\a8 u H'/\H dl=none/\H' dl=some (.dK (bG (cz (mq g v ss ls many n f) ls)))/\¬∀p∈ls,mq g v ss ls many n f p=f p,?_,?_⟩
 ·rintro σ' H' ⟨dl,v6,v7,rfl,s',T,h',Aq⟩;exact⟨_,NT Z S Aq,dl,_,_,_,rfl,rfl,s',T,h',Iq Z S,λp hp=>wdY (Ip many n f p) (X7 p hp),λh hh D=>FA Z D (X8 h hh D)⟩
 ·refine⟨_,rfl,_,rfl,_,rfl,d,a,many,n,o,G,f,g,v,ss,ls,rfl,s4 _ _ Uq,ek,λm r=>s4 _ _ (SK m r),by omega,nd,Dh,Z,rb,.inl h4,λdl H5 s5 T h5=>?_⟩;have X9:=s5 _ _ h4;refine⟨_,rfl,_,rfl,dl,a,_,_,rfl,rfl,.inl h5,.inl X9,uY _,uY _,_,rfl,?_⟩;refine Am (λhe=>?_) (λhe=>?_)
  ·have e:=Mq.mp he;exact⟨_,rfl,k a f H5 ((s3.trans s4).trans s5) t X9 ⟨S,X7,L4 Z e,X8⟩⟩
  ·exact⟨_,rfl,dl,_,_,rfl,s4.trans s5,none_of s3 (none_of s4 T),h5,λe=>he (Mq.mpr e)⟩
theorem nq(L:Lk K mg):aS P w K mg base d8 5 L.nW L.nX ["band","many","wide","weights"] (Lf K L.az L.aA):=by
 refine L.gP.F.dQ (N:=["band","many","wide","weights","homes","lines","place","blocks"]) (λhX A outer s H vs Q E nd hr h=>?_);obtain⟨x,d,many,n,m,f,g,u,ss,ls,rfl,B,EC,EA,Ez,Jo,hd,hw,k⟩:=h;have hu:=fb hr
 refine⟨_,(a7 (bu (au (gU L) L.eQ (a5 (pv 0) (a5 (pv 1) (a5 (pv 2) a9)))))
  (a7 (ai (i:=4) (cD rfl (ax ["weights"] [3]) (aN (bP (pv 0) L.aG.cl L.dE.m (lu L) (hr.mono (by decide)) L.dE.b .nil bI)) (λ_ _ _ _ _ _=>gN (aH nL (da hu (pv 1) (pv 0) (λ_ _=>rfl)) aq (aU _))) (λ_ _ _ _ _ _=>(pv 0))))
  (a7 (ai (i:=5) (cC a9))
  (a7 (b0 wal rfl (aN (pv 4)) (aw (i:=6)) (a7 (ai (i:=7) (au (nk L) L.gO (a5 (pv 0) (a5 (pv 6) (a5 (pv 2) a9)))))
  (ag (bu (j8 waT waX waZ cV (pv 5) (a5 (fL rfl (ax ["homes"] [4]) (ax ["homes"] [4]) (by decide) (aN (pv 7)) (λ_ _ _ _ _ _=>gN (aH (iM (K:=K) rfl) (pv 1) (pv 2) rfl)) (λ_ _ _ _ _ _=>(ee (a5 (pv 0) (a5 (Iv (K:=K) rfl waT wd1 wfN (FE (K:=K) rfl) (pv 2) (a5 (pv 1) a9)) a9))))) a9))))))
  (ag (aB (nB L.qm (g8 L) (hr.mono (by decide)) rfl L.uj L.dm.b .nil bI (a5 (pv 4) (a5 (cD rfl (ax ["weights"] [3]) (aN (pv 4)) (λ_ _ _ _ _ _=>bq) (λ_ _ _ _ _ _=>(da hu (pv 1) (pv 0) (λ_ _=>rfl)))) (a5 (pv 5) a9)))))))))),?_⟩
 try dsimp only[dC,dA,b6,b7]
 obtain⟨ra,rb,rc,rd,re⟩:=id Jo
 have K3:g.length^n<=64:=by
  rw[waG]at re;have:((g.length^n:Nat):Int)<=64:=by rw[wdK];exact re
  omega
 have Dh:ls.length<=900:=waj B.lv.sub.length_le Ez;refine⟨_,rfl,_,rfl,_,rfl,x,many,n,g,u,ss,ls,rfl,B,EA,Jo,?_⟩;obtain⟨⟨dx,b,d0,q,mv,h1,h2,h3,h4,h5,h6⟩,pm,_,_⟩:=id B;refine⟨_,rfl,x,dx,_,rfl,h1,CC _ _ _ _ (by decide+kernel) (by decide+kernel) (by decide+kernel) (by decide+kernel),x,g,u,ss,ls,rfl,B,λlv H1 s1 f1 hv=>?_⟩;refine⟨lv,rfl,⟨_,aM.of hv⟩,λS Pb=>?_⟩;refine dU (λv=>match v with |.str p=>decide (0<f p) |_=>false) (λv=>v) (aP K lv (ls.map V.str)) Pb (by rw[wa0];exact av (by omega)) (λH' s'=>aM.of (s' _ _ hv)) (λz J Q' hz s2 Y=>?_) (λz J Q' hz _ s2 Y=>⟨_,rfl,Y J (a8.refl _)⟩) (λJ s2 hh=>?_)
 ·obtain⟨p,hp,rfl⟩:=wab.mp hz;have g3:=eD.rd (k:=(wai p:Key)) (hd.same (s1.trans s2));rw[eN,hw p hp]at g3;have q2:Q' (decide (0<f p)) J:=Y J (a8.refl _);exact⟨_,rfl,_,rfl,d,_,rfl,g3,_,_,rfl,rfl,_,rfl,q2⟩
 have ZD:((ls.map V.str).filter (λv=>match v with |.str p=>decide (0<f p) |_=>false)).map (λv=>v)=(ao ls f).map V.str:=by
  rw[wdX,weD];rfl
 rw[ZD]at hh;have Xa:(ao ls f).length<=900:=waj (wb4 _ _) Dh;have Ri:∀p∈ao ls f,p∈ls:=λp hp=>(wav.mp hp).1;have Pg:=s1.trans s2;refine⟨waB _,λC D=>?_⟩;have sb:a8 J (upd J C (.lst [])):=a8.upd D;have Z:(upd J C (.lst [])) C=some (.lst []):=a6;generalize upd J C (.lst [])=Hb at sb Z;have ZE:S≠C:=af hh D
 refine⟨_,rfl,S,rfl,⟨_,aM.of (sb _ _ hh)⟩,dh (K:=K) (a:=S) (xs:=(ao ls f).map V.str) (λj σ H3=>∃(v6 v7:Option V) (as:List V),σ=[some (.ref x),some (.int many),some (.int (n:Int)),some (.ref d),some (.ref S),some (.ref C),v6,v7]/\H3 C=some (.lst as)/\(∀c o,Hb c=some o->c≠C->H3 c=some o)/\bo K (aJ Hb H3) (((ao ls f).take j).map λp=>bY (gD g u ss ls n (ao ls f) p)) as)
  ⟨none,none,[],rfl,Z,λc o e _=>e,rfl⟩ (λj σ H3 _ ⟨_,_,_,_,_,kk,_⟩=>aM.of (kk _ _ (sb _ _ hh) ZE)) ?_ ?_⟩
 ·rintro j y σ H3 hy ⟨v6,v7,as,rfl,UX,kk,hR⟩;obtain⟨p,P7,rfl,hj,Dx,qL⟩:=gZ hy;have M:a8 J H3:=λc o e=>kk _ _ (sb _ _ e) (af e D);have B3:=B.same (Pg.trans M);refine⟨_,rfl,_,rfl,_,rfl,x,p,n,g,u,ss,ls,rfl,B3,Ri p Dx,by omega,by omega,EC,EA,λlb rb T G f4 R4=>?_⟩;have I:=G _ _ UX;have Oh:=gB g u ss ls n p
  have WD:as.length=j:=by
   rw[hR.len,wa0,wak];omega
  refine⟨_,rfl,.inl ⟨rfl,_,aM.of I⟩,_,rfl,lb,rfl,⟨_,aM.of R4.l⟩,λlc LN=>?_⟩;have O:T S=some (.lst ((ao ls f).map V.str)):=G _ _ (M _ _ hh);refine jG (prs:=(aT g u ss ls n p).map pj) (λq=>p7 q.2 ((ao ls f).map V.str)) (λq=>.tup [.at q.1,.at (.int (match q.2 with |.str e=>((ao ls f).idxOf e:Nat) |_=>0))]) (aP K lb (rb.map V.ref)) (by rw[wa0,wa0,R4.len]) (λi q U=>?_) LN (by rw[wa0,R4.len];exact av (by omega)) (λH' s'=>aM.of (s' _ _ R4.l)) (λq R Q' U X Y=>?_) (λq R Q' U ZF X Y=>?_) (λR X r5=>?_)
  ·have hi:i<rb.length:=by have:=(wa6.mp U).1;rw[wa0,<-R4.len]at this;exact this
   rw[wa4]at U
   cases e:(aT g u ss ls n p)[i]? with
   |none=>rw[e]at U;cases U
   |some z=>
    rw[e]at U;cases U;refine⟨rb[i],by rw[wa4,wa1 hi];rfl,gL.of (R4.t.2 i rb[i] (mn z) (wa1 hi) (by rw[wa4,e];rfl))⟩
  ·obtain⟨z,hz,rfl⟩:=wab.mp U;exact⟨_,rfl,_,rfl,S,_,rfl,.inl (aM.of (X _ _ O)),rfl,fv _,_,rfl,Y R (a8.refl _)⟩
  ·obtain⟨z,hz,rfl⟩:=wab.mp U
   have hm:z.2∈ao ls f:=by
    have:p7 (.str z.2) ((ao ls f).map V.str)=true:=ZF;rw[jz]at this;exact of_decide_eq_true this
   obtain⟨i1,i2⟩:=rm hm;refine⟨_,rfl,_,rfl,.inl ⟨rfl,_,aM.of (X _ _ O)⟩,_,rfl,S,ao ls f,z.2,(ao ls f).idxOf z.2,rfl,rfl,aM.of (X _ _ O),by omega,i1,i2,by show 2<=sizeLine;decide,λr hr=>?_⟩;exact Y _ _ (a8.upd hr) (mr hr (z.1,(ao ls f).idxOf z.2))
  have el:((((aT g u ss ls n p).map pj).filter λq=>p7 q.2 ((ao ls f).map V.str)).map λq=>kF.tup [.at q.1,.at (.int (match q.2 with |.str e=>((ao ls f).idxOf e:Nat) |_=>0))])=(gD g u ss ls n (ao ls f) p).map lF:=by
   unfold gD;rw[weD,wah,wah]
   have ep:((λq:V×V=>p7 q.2 ((ao ls f).map V.str)) ∘ pj)=λq:Str×Str=>decide (q.2∈ao ls f):=by
    funext q;exact jz q.2 _
   rw[ep];rfl
  rw[el]at r5;refine⟨C,_,_,rfl,rfl,X _ _ I,by rw[WD];exact wbe (show j<=900 by omega) (by rw[wcb];decide),?_⟩;have Xb:=G.trans X;have Xc:=X _ _ I;have kp:∀c o,R c=some o->c≠C->(upd R C (.lst (as++[.ref lc]))) c=some o:=λc o e hc=>by rw[ae hc];exact e
  refine⟨_,_,as++[.ref lc],rfl,a6,λc o e hc=>kp _ _ (Xb _ _ (kk c o e hc)) hc,?_⟩;rw[qL,wao];refine iH (bo.same ((iR Xb).trans (bR Z kp)) _ _ hR) ?_
  have old:a8 (aJ T R) (aJ Hb R):=λc o e=>by
   unfold aJ at e ⊢
   cases q:Hb c with
   |none=>
    cases q2:T c with
    |none=>rw[q2]at e;exact e
    |some z=>rw[q2]at e;cases e
   |some z=>
    by_cases hc:c=C
    ·rw[hc,I]at e;cases e
    ·rw[G _ _ (kk _ _ q hc)]at e;cases e
  exact bL.same (old.trans (bR Z kp)) _ _ r5
 ·rintro σ H3 ⟨v6,v7,as,rfl,UX,kk,hR⟩;rw[wa0,waI]at hR;have M:a8 J H3:=λc o e=>kk _ _ (sb _ _ e) (af e D);have xk:=Pg.trans M;have UY:=M _ _ hh;refine⟨_,rfl,_,rfl,S,rfl,⟨_,aM.of UY⟩,λlw Oe=>?_⟩;refine comp_map (KW f) (aP K S ((ao ls f).map V.str)) Oe (by rw[wa0];exact av (by omega)) (λH' s'=>aM.of (s' _ _ UY)) (λz T Q' hz G Y=>?_) (λT G Rc=>?_)
  ·obtain⟨p,hp,rfl⟩:=wab.mp hz;have g3:=eD.rd (k:=(wai p:Key)) (hd.same (xk.trans G));rw[eN,hw p (Ri p hp)]at g3;exact⟨_,rfl,_,rfl,d,_,rfl,g3,Y T (a8.refl _)⟩
  rw[qY]at Rc;have I:=G _ _ UX;have ZG:=G _ _ UY;refine⟨_,rfl,λy dy ny UI Zo=>?_⟩;have sm:a8 T (upd (upd T dy (.own y)) y (.ins L.aA dy [])):=fz ny UI;refine⟨y,dy,.ref S,.ref lw,.ref C,ao ls f,(ao ls f).map f,bB g u ss ls n (ao ls f),rfl,a6,pz (sm _ _ ZG),jH (sm _ _ Rc),?_,by omega,by rw[wa0];omega,by unfold bB;rw[wa0];omega,?_,λa' b' c' R UZ r1 r2 r3 ZH=>⟨rfl,?_⟩⟩
  ·have ZI:bo K T ((ao ls f).map λp=>bY (gD g u ss ls n (ao ls f) p)) as:=bo.same ((bZ _ _).trans G) _ _ hR;refine⟨C,as,rfl,.inl (sm _ _ I),?_⟩
   have e:(bB g u ss ls n (ao ls f)).map bY=(ao ls f).map λp=>bY (gD g u ss ls n (ao ls f) p):=by
    unfold bB;rw[wah];rfl
   rw[e];exact bo.same sm _ _ ZI
  ·intro l hl;obtain⟨p,_,rfl⟩:=wab.mp hl;have:=D9 g u ss ls n (ao ls f) p;omega
  ·have X:a8 T R:=λc o e=>ZH _ _ (sm _ _ e) (af e ny);refine k y R (xk.trans (G.trans X)) ?_;have UL:H y=none:=none_of (xk.trans G) ny;have nw:=λ(d:kF) (v:V) (r:bL K (aJ _ R) d v)=>bL.same (eP ((xk.trans G).trans sm)) d v r;exact⟨dy,a',b',c',bX UL UZ,nw _ _ r1,nw _ _ r2,nw _ _ r3⟩
theorem zD(L:Lk K mg):aS P w K mg base d8 1 L.sU L.sV ["sheet"] (O7 K L.aA):=by
 have T:=L.T;refine L.mK.F.dQ (N:=["sheet","heaviest","desk","line","number","step"]) (λhX A outer s H vs Q E nd hr h=>?_);obtain⟨x,hs,g,b,rfl,S,Ay,he,Aq,hex,k⟩:=h
 refine⟨_,(a7 (ai (i:=1) (aC (Fx rfl) (by rfl) T.max Ie (a5 (aD (pv 0) rfl) a9)))
  (a7 (b0 wal rfl (kj (by rfl) T.enum (a5 (aD (pv 0) rfl) a9)) (dG rfl (aK (aw (i:=2)) (aK (aw (i:=3)) cB))) (ag (b0 wal rfl (kj (by rfl) T.enum (a5 (pv 3) a9)) (dG rfl (aK (aw (i:=4)) (aK (aw (i:=5)) cB))) (ag (bK (PW.pt (GL (aH rY (bf bF (aD (pv 0) rfl) (pv 2) (λ_ _=>rfl)) (pv 1) (aU _)) (DU (aH nK (bf bF (aD (pv 0) rfl) (bf fI (pv 5) aq (λ_ _=>rfl)) (λ_ _=>rfl)) (pv 1) (aU _))))) (ag (aB (ee (a5 (pv 2) (a5 (pv 4) a9))))) aQ)))))
  (ag (aB gu)))),?_⟩
 try dsimp only[dC,dA,b6,b7]
 obtain⟨dx,ah,bw,cl,hx,rh,K1,rl⟩:=id S;obtain⟨WC,eb,hb⟩:=iS K1;cases eb;obtain⟨QT,xs,ec,hc,R⟩:=id rl;cases ec;have xl:xs.length=b.length:=by rw[R.len,wa0]
 refine⟨_,rfl,x,L.aA,dx,_,_,rfl,hx,L.ay.cl,L.ay.dj,cF ah bw cl,bw,g,rfl,hb,Aq,λM hM hT=>?_⟩;have U:∀n:Nat,n<g.length->yV (g.map V.int) (n:Int)=some (.int (g.getD n 0)):=λn hn=>bE (by rw[wa4,wa1 hn,wa3,wa1 hn];rfl);refine⟨_,rfl,x,L.aA,dx,_,_,rfl,hx,L.ay.cl,L.ay.cN,bT ah bw cl,cl,xs,rfl,.inl hc,md (K:=K) (a:=cl) (xs:=xs) (λi σ X=>a8 H X/\(∃v2 v3 v4 O,σ=[some (.ref x),some (.int M),v2,v3,v4,O])/\∀d f c q,Down g b M d f c q->i<=d) ⟨a8.refl _,⟨none,none,none,none,rfl⟩,λ_ _ _ _ _=>waB _⟩ (λi σ X _ p=>p.1.seq (.inl hc)) ?_ (λσ X p=>?_)⟩
 ·rintro d y σ X T hy ⟨s2,⟨v2,v3,v4,O,rfl⟩,C⟩ ZJ;have hd:d<xs.length:=(wa6.mp hy).1;have G4:d<b.length:=by omega
  have Y:b[d]?=some (b.getD d []):=by rw[wa3,wa1 G4];rfl
  obtain⟨v,Z,rd⟩:=R.at (i:=d) (d:=bY (b.getD d [])) (by rw[wa4,Y];rfl);rw[hy]at Z;cases Z;obtain⟨a,B,rfl,hS,Rj⟩:=dY rd;have X3:B.length=(b.getD d []).length:=by rw[Rj.1,wa0,wa0]
  have UP:∀q∈b.getD d [],q.2<g.length:=he _ (wa9 Y);have s3:=s2.trans (a8.upd (o:=.tup [.int (d:Nat),.ref a]) ZJ);refine⟨T,_,rfl,gL.of a6,rfl,_,_,rfl,_,_,rfl,rfl,?_⟩;generalize upd X T (.tup [.int (d:Nat),.ref a])=H3 at s3;refine⟨_,rfl,a,_,rfl,s3.seq hS,md (K:=K) (a:=a) (xs:=B.map V.ref) (λi σ H4=>a8 H H4/\(∃v4 O,σ=[some (.ref x),some (.int M),some (.int (d:Int)),some (.ref a),v4,O])/\∀f c q,Down g b M d f c q->i<=f) ⟨s3,⟨_,_,rfl⟩,λ_ _ _ _=>waB _⟩ (λi σ H4 _ p=>p.1.seq hS) ?_ (λσ H4 p=>?_)⟩
  ·rintro i y σ H4 T2 G ⟨s4,⟨v4,O,rfl⟩,j⟩ ZK;have hi:i<B.length:=by have:=(wa6.mp G).1;rwa[wa0]at this
   have I:i<(b.getD d []).length:=by omega
   rw[wa4,wa1 hi]at G;cases G;have Rf:H B[i]=some (.tup [.str (b.getD d [])[i].1,.int ((b.getD d [])[i].2:Int)]):=Rj.2 i B[i] (jF (eI (b.getD d [])[i])) (wa1 hi) (by rw[wa4,wa4,wa1 I];rfl);have J:(b.getD d [])[i]?=some (b.getD d [])[i]:=wa1 I;have MC:=UP _ (waL I);generalize (b.getD d [])[i]=q at Rf J MC;have m:=s4.trans (a8.upd (o:=.tup [.int (i:Nat),.ref B[i]]) ZK);refine⟨T2,_,rfl,gL.of a6,rfl,_,_,rfl,_,_,rfl,rfl,?_⟩;generalize upd H4 T2 (.tup [.int (i:Nat),.ref B[i]])=H5 at m
   have Xd:(¬∃c q,Down g b M d i c q)->∀f c q,Down g b M d f c q->i+1<=f:=λhn f c q hD=>by
    have:=j f c q hD
    by_cases e:f=i
    ·subst e;exact absurd ⟨c,q,hD⟩ hn
    ·omega
   refine⟨_,rfl,x,L.aA,dx,_,_,rfl,m _ _ hx,L.ay.cl,L.ay.dj,cF ah bw cl,_,rfl,bw,_,_,_,rfl,rfl,m.seq hb,U d (by omega),_,rfl,?_⟩
   by_cases r:g.getD d 0=M
   ·refine⟨rfl,true,congrArg V.bl (decide_eq_true (by rw[r])),fJ ?_⟩;refine⟨_,rfl,x,L.aA,dx,_,_,rfl,m _ _ hx,L.ay.cl,L.ay.dj,cF ah bw cl,_,rfl,B[i],_,_,_,rfl,rfl,gL.of (m _ _ Rf),rfl,bw,_,_,_,rfl,rfl,m.seq hb,U q.2 MC,_,rfl,_,_,rfl,rfl,?_⟩
    by_cases u:g.getD q.2 0<M
    ·refine⟨true,congrArg V.bl (decide_eq_true u),fJ ?_⟩;refine⟨_,rfl,_,rfl,by show 2<=sizeLine;decide,λt ht=>?_⟩;exact k t M d i _ q _ (m.trans (a8.upd ht)) a6 ⟨hM,hT,Y,J,r,u⟩
    ·refine⟨false,congrArg V.bl (decide_eq_false u),cm ?_⟩;refine⟨m,⟨_,_,rfl⟩,Xd ?_⟩;rintro⟨c,q',D⟩;have e1:=D.l;rw[Y]at e1;cases e1;have e2:=D.s;rw[J]at e2;cases e2;exact u D.lt
   ·refine⟨rfl,false,congrArg V.bl (decide_eq_false λz=>r (V.int.inj z)),cm ?_⟩;refine cm ⟨m,⟨_,_,rfl⟩,Xd ?_⟩;rintro⟨c,q',D⟩;exact r D.e
  ·obtain⟨s4,⟨v4,O,rfl⟩,j⟩:=p;refine⟨s4,⟨_,_,_,_,rfl⟩,λd' f c q D=>?_⟩;have:=C d' f c q D
   by_cases e:d'=d
   ·subst e;have:=j f c q D;have e1:=D.l;rw[Y]at e1;cases e1;have:=(wa6.mp D.s).1;rw[wa0]at *;omega
   ·omega
 ·obtain⟨s2,_,C⟩:=p;obtain⟨d,i,c,q,D⟩:=hex M hM hT;have:=C d i c q D;have:=(wa6.mp D.l).1;omega
theorem G9(L:Lk K mg):aS P w K mg base d8 1 L.Bj L.Bk ["weights","numbers","many"] (QN K):=by
 have T:=L.T;refine L.vN.F.dQ (N:=["weights","numbers","many","taken_at","total","taken","number"]) (λhX A outer s H vs Q E nd hr h=>?_);obtain⟨a,b,many,wl,d,rfl,hA,I,m1,m2,J,M,k⟩:=h;have O:=fb hr
 refine⟨_,(a7 (ai (i:=3) (E1 (Aj aq aq DZ) rfl rfl (by simp) (by decide)))
  (a7 (ai (i:=4) aq)
  (a7 (b0 wal rfl (IJ (by rfl) T.enum (a5 (pv 1) a9)) (dG rfl (aK (aw (i:=5)) (aK (aw (i:=6)) cB))) (a7 (ur (i:=4) nd rfl (wdR rfl) (bf bF (pv 0) (pv 6) (λ_ _=>rfl)) GU)
  (a7 (bK (yR (Hn O (aO dZ (pv 4) (pv 2)) (pv 3))) (ag (aB (cy kc (pv 1) (bp (da O (pv 3) (aO dZ (pv 4) (pv 2)) (λ_ _=>rfl))) (bp (pv 5))))) aQ)
  (ag (et O (pv 3) (aO dZ (pv 4) (pv 2)) (pv 5) rfl)))))
  (ag (aB (cC a9)))))),?_⟩
 try dsimp only[dC,dA,b6,b7]
 have l:(0:Int)<many:=by omega
 refine λg m=>⟨a6,[((wb2 0:Key),V.int 0)],rfl,by decide,?_⟩;have R:a8 H (upd (upd H g (.dK [])) g (.dK (kg [] [((wb2 0:Key),V.int 0)]))):=λc o e=>by rw[ae (af e m),ae (af e m)];exact e
 have h0:(upd (upd H g (.dK [])) g (.dK (kg [] [((wb2 0:Key),V.int 0)]))) g=some (.dK (dR many (kL wl d) 1)):=by
  rw[a6];refine congrArg (λz=>some (HO.dK z)) ?_;show [((wb2 0:Key),V.int 0)]=[((wb2 (0%many):Key),V.int 0)];rw[Int.zero_emod]
 generalize upd (upd H g (.dK [])) g (.dK (kg [] [((wb2 0:Key),V.int 0)]))=H0 at R h0;refine⟨_,rfl,b,_,rfl,R.seq I,FL (K:=K) (a:=b) (xs:=(nI d).map V.int) (λj σ q=>a8 H q/\(∃S v6,σ=[some (.ref a),some (.ref b),some (.int many),some (.ref g),some (.int (kL wl d j)),S,v6])/\q g=some (.dK (dR many (kL wl d) (j+1)))/\∀i k,i<k->k<=j->kL wl d i%many≠kL wl d k%many) ⟨R,⟨none,none,rfl⟩,h0,λi k Y C=>by omega⟩ (λi σ q _ p=>p.1.seq I) ?_ (λσ q p=>?_)⟩
 ·rintro j y σ q T U ⟨Z,⟨S,v6,rfl⟩,C,f⟩ hT;have hj:j<d.length:=by have:=(wa6.mp U).1;rwa[wa0,cJ]at this
  have r:d[j]?=some d[j]:=wa1 hj;rw[vr r]at U;cases U;have t:=M _ (waL hj);have x:=FU (wl:=wl) r;generalize d[j]=n at r t x;have u:=Z.trans (a8.upd (o:=.tup [.int ((j+1:Nat):Int),.int (n:Int)]) hT);have D:(upd q T (.tup [.int ((j+1:Nat):Int),.int (n:Int)])) g=some (.dK (dR many (kL wl d) (j+1))):=a8.upd hT _ _ C;refine⟨T,_,rfl,gL.of a6,rfl,_,_,rfl,_,_,rfl,rfl,?_⟩;generalize upd q T (.tup [.int ((j+1:Nat):Int),.int (n:Int)])=H3 at u D;refine⟨_,rfl,_,rfl,_,rfl,a,_,_,_,rfl,rfl,u.seq hA,bE (v:=.int (wl.getD n 0)) (by rw[wa4,wa1 t,wa3,wa1 t];rfl),_,_,rfl,rfl,?_⟩;dsimp only;rw[<-x];refine⟨_,rfl,_,rfl,_,_,rfl,rfl,l,_,rfl,g,_,rfl,eD.k (k:=(wb2 (kL wl d (j+1)%many):Key)) D,?_⟩;rcases IZ many (kL wl d) (j+1) (kL wl d (j+1)%many) with⟨G,B⟩ |⟨i,hi,X,G⟩
  ·rw[G];refine⟨false,rfl,cm ?_⟩;refine⟨_,rfl,_,rfl,_,rfl,_,rfl,_,_,rfl,rfl,l,g,_,rfl,ke.k (k:=wb2 (kL wl d (j+1)%many)) D (by rw[Oa];exact bz (by omega)),?_⟩;rw[O9 G];refine⟨λc o e=>by rw[ae (af e m)];exact u _ _ e,⟨_,_,rfl⟩,a6,λi k Y C=>?_⟩
   by_cases e:k=j+1
   ·subst e;exact B i (by omega)
   ·exact f i k Y (by omega)
  ·have hg:=eD.k (k:=(wb2 (kL wl d (j+1)%many):Key)) D;rw[G]at hg ⊢;refine⟨true,rfl,fJ ?_⟩;refine⟨_,rfl,_,rfl,_,rfl,_,rfl,_,_,rfl,rfl,l,g,_,rfl,hg,_,rfl,_,rfl,_,rfl,b,_,rfl,u.seq I,λp hp=>?_⟩;rw[J0 _ (by omega) (by rw[cJ];omega),El,Lw];exact k p i (j+1) _ (u.trans (a8.upd hp)) (none_of u hp) (by omega) (by omega) (IY (by omega) X) a6
 ·obtain⟨Z,⟨S,v6,rfl⟩,C,f⟩:=p;rw[wa0,cJ]at f;exact absurd (Dq l J f) id
theorem xn(L:Lk K mg):aS P w K mg base d8 2 L.pY L.pZ ["sheet","many"] (O8 K L.aA):=by
 have T:=L.T;refine L.kU.F.dQ (N:=["sheet","many","found","desk","weights","others","numbers"]) (λhX A outer s H vs Q E nd hr h=>?_);obtain⟨x,many,hs,c,u,rfl,S,B,hK,Aq,hn,hm,m1,m2,k⟩:=h
 refine⟨_,(a7 (ai (i:=2) (au (zD L) L.mK (a5 (pv 0) a9)))
  (a7 (ai (i:=3) (bf fI (pv 2) aq (λ_ _=>rfl)))
  (a7 (ai (i:=4) (fL rfl (ax ["sheet"] [0]) (ax ["sheet"] [0]) (by decide) (aN (bf bF (aD (pv 0) rfl) (pv 3) (λ_ _=>rfl))) (λ_ _ _ _ _ _=>bq) (λ_ _ _ _ _ _=>(bf (gY (K:=K) rfl) (nD (K:=K) rfl (pv 2) rfl) (pv 1) (λ_ _=>rfl)))))
  (a7 (fj (i:=5) rfl (ax ["found"] [2]) nd rfl rfl (cT rfl T.range (a5 (aC bx (by rfl) T.len waM (a5 (pv 4) a9)) a9)) (λ_ _ _ _ _ _=>gN (aH GW (pv 0) (bf (Ly (K:=K) rfl) (pv 1) aq (λ_ _=>rfl)) (aU _))) (λ_ _ _ _ _ _=>(pv 0)))
  (a7 (ai (i:=6) (au (G9 L) L.vN (a5 (pv 4) (a5 (aO Hk (cC (a5 (bf fI (pv 2) aq (λ_ _=>rfl)) a9)) (cy kc (pv 5) gM (bp (aO uw (pv 1) aq)))) (a5 (pv 1) a9)))))
  (ag (aB (ee (a5 (pv 3) (a5 (pv 6) (a5 (aO u3 (aC (ml rfl) (by rfl) T.sum Fn (a5 (cD rfl (ax ["weights"] [4]) (aN (pv 6)) (λ_ _ _ _ _ _=>bq) (λ_ _ _ _ _ _=>(bf (gY (K:=K) rfl) (pv 1) (pv 0) (λ_ _=>rfl)))) a9)) (pv 1)) a9))))))))))),?_⟩
 try dsimp only[dC,dA,b6,b7]
 obtain⟨dx,ah,bw,cl,hx,rh,K1,rl⟩:=id S;obtain⟨WC,eb,hb⟩:=iS K1;cases eb;obtain⟨QT,xs,ec,hc,A5⟩:=id rl;cases ec;have O:=B.w;have Dh:=B.l;have xl:xs.length=u.length:=by rw[A5.len,wa0]
 have ZL:c≠[]:=λz=>Aq (wbz (by rw[<-O,z];rfl));refine⟨_,rfl,x,hs,c,u,rfl,S,by omega,λl hl q hq=>by rw[O];exact B.e l hl q hq,ZL,λh hh ht=>?_,λt h d i b q H1 R ht D=>?_⟩
 ·obtain⟨d,i,b,q,e1,e2,e3,e4⟩:=Ba B hK hh ht m1;exact⟨d,i,b,q,hh,ht,e1,e2,e3,e4⟩
 have hd:d<u.length:=(wa6.mp D.l).1;have hi:i<b.length:=(wa6.mp D.s).1;have P9:b∈u:=wa9 D.l;have MC:=hm b P9;have Xe:=yw B D;have hT:=gL.of (K:=K) ht;refine⟨_,rfl,t,_,_,_,rfl,rfl,hT,rfl,?_⟩;obtain⟨v,Of,rd⟩:=A5.at (i:=d) (d:=bY b) (by rw[wa4,D.l];rfl);obtain⟨a,rs,rfl,hS,Rj⟩:=dY rd;have Dw:rs.length=b.length:=by rw[Rj.1,wa0,wa0]
 refine⟨_,rfl,x,L.aA,dx,_,_,rfl,R _ _ hx,L.ay.cl,L.ay.cN,bT ah bw cl,_,rfl,cl,xs,_,_,rfl,rfl,R.seq (.inl hc),bE Of,a,rfl,⟨_,R.seq hS⟩,λlc LN=>?_⟩;refine oB (prs:=b.map eI) (λ_=>true) (λq=>match q.2 with |.int e=>.int (c.getD e.toNat 0) |_=>.non) (aP K a (rs.map V.ref)) (Rj.same R) LN (av (by omega)) (λH' s'=>(R.trans s').seq hS) (λq H7 Q' _ _ m=>m H7 (a8.refl _)) (λq H7 Q' hq _ s7 m=>?_) (λH7 s7 h7=>?_)
 ·obtain⟨U,ZM,rfl⟩:=wab.mp hq;have C:U.2<c.length:=by rw[O];exact B.e b P9 U ZM
  have Rk:yV (c.map V.int) (U.2:Int)=some (.int (c.getD U.2 0)):=bE (by rw[wa4,wa1 C,wa3,wa1 C];rfl)
  have q2:Q' (.int (c.getD U.2 0)) H7:=by
   have:=m H7 (a8.refl _);rwa[show (eI U).2=.int (U.2:Int) from rfl]at this
  have G:=R.trans s7;exact⟨_,rfl,x,L.aA,dx,_,_,rfl,G _ _ hx,L.ay.cl,L.ay.dj,cF ah bw cl,_,rfl,bw,_,_,_,rfl,rfl,G.seq hb,Rk,q2⟩
 have e7:((b.map eI).filter λ_=>true).map (λq=>match q.2 with |.int e=>V.int (c.getD e.toNat 0) |_=>.non)=(b.map λq=>c.getD q.2 0).map V.int:=by
  rw[wb6.mpr (λ_ _=>rfl),wah,wah];rfl
 rw[e7]at h7;have G:=R.trans s7;have Xf:=s7.Le hT;have g:(b.map λq=>c.getD q.2 0).length=b.length:=wa0 _;refine⟨_,rfl,lc,_,rfl,.inl (aM.of h7),_,rfl,by omega,by rw[wa0,g];omega,λlo Qq=>?_⟩;have en:((((b.map λq=>c.getD q.2 0).map V.int).length:Nat):Int).toNat=b.length:=by rw[wa0,g,waG]
 rw[en];refine dU (λv=>!decide (v=.int (i:Int))) (λv=>v) (ot 0 b.length) Qq (av (by rw[wa0,waO];omega)) (λ_ _=>wbu) (λy I Q' hy X m=>?_) (λy I Q' hy _ X m=>⟨_,rfl,m I (a8.refl _)⟩) (λI X h8=>?_)
 ·obtain⟨n,BW,rfl⟩:=wab.mp hy;exact⟨_,rfl,_,rfl,t,_,_,_,rfl,rfl,X.Le Xf,rfl,rfl,_,rfl,m I (a8.refl _)⟩
 have e8:(((waH b.length).map λi:Nat=>V.int (0+(i:Nat))).filter λv=>!decide (v=.int (i:Int)))=(nI (restOf b.length i)).map V.int:=by
  have e9:((waH b.length).map λi:Nat=>V.int (0+(i:Nat)))=(nI (waH b.length)).map V.int:=by
   rw[<-vz];exact wb7 λn _=>by rw[wcG]
  rw[e9,yu (f:=λn=>decide (n≠i)) λn=>?_]
  ·rfl
  ·by_cases z:n=i
   ·subst z;simp
   ·have:¬V.int (n:Int)=V.int (i:Int):=λy=>z (by have:=V.int.inj y;omega);rw[decide_eq_false this,decide_eq_true z];rfl
 rw[wdX,e8]at h8;have Xg:=G.trans X;have ZN:=X.Le Xf;have Xh:=X _ _ h7;refine⟨_,rfl,_,rfl,t,_,_,_,rfl,rfl,ZN,rfl,by show 1<=sizeLine;decide,λl1 MF=>?_⟩;have s9:=a8.upd (H:=I) (o:=.lst [V.int (i:Int)]) MF;have h9:(upd I l1 (.lst [V.int (i:Int)])) l1=some (.lst [V.int (i:Int)]):=a6;generalize upd I l1 (.lst [V.int (i:Int)])=H9 at s9 h9;have ZO:many-1=(((many-1).toNat:Nat):Int):=by omega
 refine⟨_,rfl,_,rfl,_,_,rfl,rfl,(((many-1).toNat:Nat):Int),congrArg V.int ZO,lo,_,rfl,aM.of (s9 _ _ h8),λl2 Rl=>?_⟩;rw[Eb,<-wdB,El];have Y:=a8.upd (H:=H9) (o:=.lst ((nI ((restOf b.length i).take (many-1).toNat)).map V.int)) Rl;have GD:(upd H9 l2 (.lst ((nI ((restOf b.length i).take (many-1).toNat)).map V.int))) l2=some (.lst ((nI ((restOf b.length i).take (many-1).toNat)).map V.int)):=a6;generalize upd H9 l2 (.lst ((nI ((restOf b.length i).take (many-1).toNat)).map V.int))=Z at Y GD;have MD:=Be (k:=(many-1).toNat) hi (by omega);refine⟨l1,l2,_,_,rfl,rfl,Y _ _ h9,GD,av ?_,λl3 Kr=>?_⟩
 ·rw[wa0,cJ,wak];show 1+_<=_;omega
 rw[show [V.int (i:Int)]++(nI ((restOf b.length i).take (many-1).toNat)).map V.int=(nI (numsOf b.length i (many-1).toNat)).map V.int from rfl];have Oi:=a8.upd (H:=Z) (o:=.lst ((nI (numsOf b.length i (many-1).toNat)).map V.int)) Kr;have Rm:(upd Z l3 (.lst ((nI (numsOf b.length i (many-1).toNat)).map V.int))) l3=some (.lst ((nI (numsOf b.length i (many-1).toNat)).map V.int)):=a6;generalize upd Z l3 (.lst ((nI (numsOf b.length i (many-1).toNat)).map V.int))=MH at Oi Rm;have j:=(s9.trans Y).trans Oi;refine⟨_,rfl,lc,l3,many,b.map λq=>c.getD q.2 0,numsOf b.length i (many-1).toNat,rfl,aM.of (j _ _ Xh),aM.of Rm,m1,m2,by rw[MD];omega,λn hn=>by rw[g];exact zq hi n hn,λl i' j' GB LO V0 ZP hj hz p=>?_⟩;have b4:=Lx B m1 D ZP hj hz;have C:∀n∈((numsOf b.length i (many-1).toNat).take j').drop i',n<b.length:=λn hn=>zq hi n (((whp _ _).trans (wbi _ _)).subset hn)
 have G3:(((numsOf b.length i (many-1).toNat).take j').drop i').length<=1000:=by
  rw[wbp,wak];omega
 generalize ((numsOf b.length i (many-1).toNat).take j').drop i'=ns at *;have J:=Xg.trans (j.trans LO);have Oj:=LO _ _ (j _ _ Xh);refine⟨_,rfl,_,rfl,_,rfl,l,rfl,⟨_,aM.of p⟩,λls ZQ=>?_⟩;refine dU (λ_=>true) (λv=>match v with |.int n=>.int ((b.map λq=>c.getD q.2 0).getD n.toNat 0) |_=>.non) (aP K l _) ZQ (av (by rw[wa0,cJ];omega)) (λH' s'=>aM.of (s' _ _ p)) (λy I Q' hy X m=>m I (a8.refl _)) (λy MK Q' hy _ r m=>?_) (λMK r SU=>?_)
 ·obtain⟨n,BW,rfl⟩:=vy hy;have M:n<(b.map λq=>c.getD q.2 0).length:=by rw[g];exact C n BW
  exact⟨_,rfl,_,rfl,lc,_,_,_,rfl,rfl,aM.of (r _ _ Oj),bE (v:=.int ((b.map λq=>c.getD q.2 0).getD n 0)) (by rw[wa4,wa1 M,wa3,wa1 M];rfl),m MK (a8.refl _)⟩
 have ZR:(((nI ns).map V.int).filter λ_=>true).map (λv=>match v with |.int n=>V.int ((b.map λq=>c.getD q.2 0).getD n.toNat 0) |_=>.non)=(ns.map λn=>(b.map λq=>c.getD q.2 0).getD n 0).map V.int:=by
  rw[wb6.mpr (λ_ _=>rfl)];unfold nI;rw[wah,wah,wah];rfl
 rw[ZR]at SU;refine⟨ls,_,rfl,aM.of SU,_,rfl,_,_,rfl,rfl,⟨by omega,by omega⟩,by show 3<=sizeLine;decide,λt' V1=>?_⟩;exact k t' l d ns _ _ (J.trans (r.trans (a8.upd V1))) (none_of (Xg.trans j) V0) (none_of (J.trans r) V1) a6 (a8.upd V1 _ _ (r _ _ p)) b4 (by omega) G3
theorem jr(L:Lk K mg):aS P w K mg base (BX P w) 7 L.fB L.fC ["band","many","wide"] (J1 L.az L.oP):=by
 have T:=L.T;refine L.bM.F.Fs (N:=["band","many","wide","most","weights","in_all"]) (λX A outer s H vs Q E nd hr h=>?_);obtain⟨x,many,n,g,M,ss,ls,rfl,B,r,t,u,y,k,O⟩:=h
 refine⟨_,(a7 (b0 whq rfl (qO rfl T.range (a5 aq (a5 (aO dH (tZ (v:=.int 8) (by rfl) L.nh.choose_spec ⟨_,rfl⟩) aq) a9))) (aw (i:=3)) (a7 (ai (i:=4) (au (Bt L) L.oO (a5 (pv 0) (a5 (pv 1) (a5 (pv 2) (a5 (pv 3) a9))))))
  (a7 (ai (i:=5) (aC (FH rfl) (by rfl) T.sum Fn (a5 (E7 (K:=K) rfl wcv wdS wfG xZ (pv 4)) a9)))
  (a7 (bK (aH nL (pv 5) (tZ (v:=.int 40) (by rfl) L.gq.choose_spec ⟨_,rfl⟩) (aU _)) (ag (gz d1 rfl L.vU L.zz rfl L.zy (a5 eV a9))) aQ)
  (ag (bK (aH nL (pv 5) aq (aU _)) (ag (aB (pv 4))) aQ))))))
  (ag (gz d1 rfl L.vU L.zz rfl L.zy (a5 eV a9)))),?_⟩
 try dsimp only[dC,dA,b6,b7]
 refine⟨_,_,rfl,rfl,1,9,rfl,by decide,?_⟩;refine cU (lo:=1) (n:=8) (λi σ q=>∃z v4 C:Option V,σ=[some (.ref x),some (.int many),some (.int (n:Int)),z,v4,C]/\a8 H q/\∀(m:Int) (h:Str->Int),1<=m->m<1+(i:Int)->nO g M ss ls many n m h->(ls.map h).sum=0) ⟨none,none,none,rfl,a8.refl _,λm h R Y=>by omega⟩ ?_ ?_
 ·rintro i σ q hi ⟨z,v4,C,rfl,j,l⟩;refine⟨_,rfl,_,rfl,_,rfl,_,rfl,x,many,n,1+(i:Int),g,M,ss,ls,rfl,B.same j,r,t,u,y,by omega,λd f S Z fd D G=>?_⟩;refine⟨_,rfl,.inr (.inr (.inl ⟨rfl,.inl ⟨_,D⟩⟩)),d,_,rfl,rfl,D,λv hv=>?_⟩;have I:=a8.upd (o:=mc v d) hv;have J:=I _ _ D;have p:(upd S v (mc v d)) v=some (mc v d):=a6;generalize upd S v (mc v d)=U at I J p;have a:=j.trans (Z.trans I);refine⟨v,d,_,ls.map f,rfl,p,J,Ds f ls,?_⟩
  by_cases b:(40:Int)<(ls.map f).sum
  ·refine⟨_,rfl,_,_,rfl,rfl,true,congrArg V.bl (decide_eq_true b),fJ ⟨rfl,?_⟩⟩;exact O ⟨1+(i:Int),by omega,by omega,l,.inr ⟨f,G,b⟩⟩ U a
  refine⟨_,rfl,_,_,rfl,rfl,false,congrArg V.bl (decide_eq_false b),cm ?_⟩
  by_cases h0:(0:Int)<(ls.map f).sum
  ·refine⟨_,rfl,_,_,rfl,rfl,true,congrArg V.bl (decide_eq_true h0),fJ ⟨_,rfl,?_⟩⟩;exact k d f U a (none_of j fd) J ⟨⟨1+(i:Int),by omega,by omega,G,l⟩,h0,by omega⟩
  ·refine⟨_,rfl,_,_,rfl,rfl,false,congrArg V.bl (decide_eq_false h0),cm ?_⟩;refine⟨_,_,_,rfl,a,λm h R Y c=>?_⟩
   by_cases e:m=1+(i:Int)
   ·subst e;have:=FW G c;have:=uZ c.nn;omega
   ·exact l m h R (by omega) c
 ·rintro σ q ⟨z,v4,C,rfl,j,l⟩;exact⟨rfl,O ⟨9,by decide,by decide,l,.inl rfl⟩ q j⟩
theorem qx(L:Lk K mg):aS P w K mg base d8 6 L.jJ L.jK ["band","many","wide","weights"] (J4 L.az):=by
 have T:=L.T;refine L.gF.F.dQ (N:=["band","many","wide","weights","sheet","lots","homes","closed","place"]) (λhX A outer s H vs Q E nd hr h=>?_);obtain⟨x,d,many,n,f,g,ws,ss,ls,rfl,B,MA,Rn,EC,EA,Ez,Jo,hd,D,Z,Xi,k⟩:=h;have hu:=fb hr
 refine⟨_,(a7 (ai (i:=4) (au (nq L) L.gP (a5 (pv 0) (a5 (pv 1) (a5 (pv 2) (a5 (pv 3) a9))))))
  (a7 (fj (i:=5) rfl (ax ["sheet"] [4]) nd rfl rfl (cT rfl T.range (a5 (aC bx (by rfl) T.len waM (a5 (aD (pv 4) rfl) a9)) a9)) (λ_ _ _ _ _ _=>bq) (λ_ _ _ _ _ _=>(au (tO L) L.iX (a5 (pv 1) (a5 (pv 0) a9)))))
  (a7 (fj (i:=6) rfl (ax ["sheet"] [4]) nd rfl rfl (aN (Ls rfl (by rfl) T.min (by rfl) T.len (a5 (pv 5) a9))) (λ_ _ _ _ _ _=>bq) (λ_ _ _ _ _ _=>(bf (gY (K:=K) rfl) (nD (K:=K) rfl (pv 1) rfl) (pv 0) (λ_ _=>rfl))))
  (a7 (ai (i:=7) cY)
  (a7 (b0 wal rfl (AR (pv 3)) (aw (i:=8)) (ag (et hu (pv 7) (pv 8) (A9 (aH qQ (pv 8) (pv 6) rfl) (da hu (pv 3) (pv 8) (λ_ _=>rfl)) aq) rfl)))
  (ag (aB (pv 7)))))))),?_⟩
 try dsimp only[dC,dA,b6,b7]
 have nd:ls.Nodup:=B.nd.sublist B.lv.sub;have Dh:ls.length<=900:=waj B.lv.sub.length_le Ez;refine⟨_,rfl,_,rfl,_,rfl,_,rfl,x,d,many,n,cz f ls,f,g,ws,ss,ls,rfl,B,EC,EA,Ez,Jo,.inl hd,kD f ls,λy H1 s1 S1=>?_⟩;have S:=S1.same (bZ _ _);have hB:=jb.first (g:=g) (ws:=ws) (ss:=ss) (n:=n) (many:=many) D Z;have Xa:(ao ls f).length<=ls.length:=wb4 _ _;have I:=hB.l;have hmn:(1:Int)<=many:=by have:=Jo.a;omega
 generalize Xj:ao ls f=m at S hB Xa I;generalize V2:bB g ws ss ls n m=G at S hB I
 have V3:m≠[]:=λz=>by
  have h1:=yn D;rw[Xj,z]at h1;have:(0:Int)=(ls.map f).sum:=h1;omega
 have MJ:0<m.length:=wc8.mpr V3
 have V4:∀i,i<G.length->G.getD i []≠[]:=λi hi z=>by
  have U:G[i]?=some (G.getD i []):=by rw[wa3,wa1 hi];rfl
  have h1:=hB.b i _ U;rw[z]at h1;have h2:many*(m.map f).getD i 0<=0:=h1;have hw:=hB.w;have h3:=hB.p _ (getD_mem (ws:=m.map f) (i:=i) (by omega));have:=whw (show 0<many by omega) (show 0<(m.map f).getD i 0 by omega);omega
 obtain⟨dx,ah,bw,cl,hx,rh,K1,rl⟩:=id S;have hh:=uh rh;refine⟨_,rfl,y,L.aA,dx,_,_,rfl,hx,L.ay.cl,L.ay.fN,fA ah bw cl,ah,_,rfl,.inl (.inl hh),_,rfl,by omega,by rw[wa0];omega,λll V5=>?_⟩;have en:(((m.map V.str).length:Nat):Int).toNat=m.length:=by rw[wa0,waG]
 rw[en];refine B4 (λi v H'=>∃q r,v=.ref q/\q≠ll/\H' q=some (.lst ((nI r).map V.int))/\Reach G r) (λi v Ha Hb ys h hl kp=>?_) (ot 0 m.length) V5 (av (by rw[wa0,waO];omega)) (λ_ _=>wbu) (λi v H3 ys Q' hv s3 Kr qq=>?_) (λys H3 s3 h3 ME hR=>?_)
 ·obtain⟨q,r,rfl,U,ZS,X⟩:=h;exact⟨q,r,rfl,U,kp _ _ ZS U,X⟩
 ·have hi:i<m.length:=by have:=(wa6.mp hv).1;rwa[wa0,waO]at this
  rw[wa4,List.getElem?_range hi]at hv
  have hv:v=.int (i:Int):=by
   rw[<-wag hv];show V.int (0+(i:Int))=_;rw[wcG]
  subst hv;refine⟨_,rfl,_,rfl,y,i,m,_,G,rfl,S.same s3,by omega,λl hl q U=>by rw[I];exact hB.e l hl q U,V4 i (by omega),by omega,λl r H' s' fl Ra t=>?_⟩;exact qq _ H' s' ⟨l,r,rfl,(λz=>by rw[z,Kr]at fl;cases fl),Ra,t⟩
 obtain⟨ps,rfl,SV⟩:=Lz (ys:=ys) (R:=λq=>∃r,H3 q=some (.lst ((nI r).map V.int))/\Reach G r) λv hv=>by
  obtain⟨i,hi,e⟩:=wbR hv;obtain⟨q,r,e1,_,e2,e3⟩:=hR i v (by rw[wa1 hi,e]);exact⟨q,e1,r,e2,e3⟩
 have KH:ps≠[]:=λz=>by
  rw[wa0,wa0,waO,z]at ME;have:0=m.length:=ME;omega
 refine⟨_,rfl,ll,ps,rfl,aM.of h3,KH,λq U=>by obtain⟨r,e,_⟩:=SV q U;exact⟨_,aM.of e⟩,λq U=>?_⟩;obtain⟨r,X,t⟩:=SV q U;have Dw:=mw t.nd t.lt;refine⟨q,rfl,⟨_,aM.of X⟩,λlh Pb=>?_⟩;refine dU (λ_=>true) (λv=>match v with |.int d=>.str (m.getD d.toNat "") |_=>.non) (aP K q _) Pb (av (by rw[wa0,cJ];omega)) (λH' s'=>aM.of (s' _ _ X)) (λv H8 Q' hy s8 qq=>qq H8 (a8.refl _)) (λv H4 Q' hy _ s4 qq=>?_) (λH4 s4 h4=>?_)
 ·obtain⟨n',BW,rfl⟩:=vy hy;have Ro:n'<m.length:=by rw[<-I];exact t.lt n' BW
  have Y:=s3.trans s4;exact⟨_,rfl,y,L.aA,dx,_,_,rfl,Y _ _ hx,L.ay.cl,L.ay.fN,fA ah bw cl,_,rfl,ah,_,_,_,rfl,rfl,Y.seq (.inl hh),bE (v:=.str (m.getD n' "")) (by rw[wa4,wa1 Ro,wa3,wa1 Ro];rfl),qq H4 (a8.refl _)⟩
 have e4:(((nI r).map V.int).filter λ_=>true).map (λv=>match v with |.int d=>V.str (m.getD d.toNat "") |_=>.non)=(r.map λd=>m.getD d "").map V.str:=by
  rw[wb6.mpr (λ_ _=>rfl)];unfold nI;rw[wah,wah,wah];rfl
 rw[e4]at h4;have Y:=s3.trans s4;refine λdl C=>?_;have M:=s1.trans Y;have P6:d≠dl:=af (M _ _ hd) C;have K2:(upd H4 dl (.dK [])) d=some (.dK (bG (cz f ls))):=a8.upd C _ _ (M _ _ hd);refine⟨_,rfl,d,_,rfl,.inl K2,λo H5 h5 Ol=>?_⟩;have Xc:H5 dl=some (.dK []):=by rw[Ol dl (wb9 P6),a6]
 have ZT:lh≠d:=λz=>by rw[z]at h4;rw[M _ _ hd]at h4;cases h4
 have ZU:H5 lh=some (.lst ((r.map λd=>m.getD d "").map V.str)):=by rw[Ol lh ZT];exact a8.upd C _ _ h4
 have k5:∀c O,H c=some O->c≠d->H5 c=some O:=λc O e hc=>by rw[Ol c hc];exact a8.upd C _ _ (M _ _ e)
 have V6:H dl=none:=none_of M C;have V7:dl≠lh:=λz=>by rw[z]at C;rw[h4]at C;cases C
 have J:=jD d o (bG (cz f ls));rw[show ((bG (cz f ls)).map λkv=>kV kv.1)=ls.map V.str by unfold bG cz;rw[wah,wah];rfl]at J;refine m9 J (λj σ H6=>∃(v8:Option V),σ=[some (.ref x),some (.int many),some (.int (n:Int)),some (.ref d),some (.ref y),some (.ref ll),some (.ref lh),some (.ref dl),v8]/\H6 dl=some (.dK (bG (cz (d7 (r.map λd=>m.getD d "") f) (ls.take j))))/\∀c O,H5 c=some O->c≠dl->H6 c=some O) ⟨none,rfl,Xc,λc O e _=>e⟩ (λj σ H6 _ ⟨_,_,_,kk⟩=>kk _ _ h5 P6) ?_ ?_
 ·rintro j v σ H6 hy ⟨v8,rfl,h6,kk⟩;obtain⟨p,P7,rfl,hj,Dx,qL⟩:=gZ hy;have Jg:p∉(cz (d7 (r.map λd=>m.getD d "") f) (ls.take j)).map (·.1):=by rw[ri];exact iQ nd P7
  have put:∀u,u=d7 (r.map λd=>m.getD d "") f p->putK (bG (cz (d7 (r.map λd=>m.getD d "") f) (ls.take j))) (wai p:Key) (.int u)=bG (cz (d7 (r.map λd=>m.getD d "") f) (ls.take (j+1))):=λu ZV=>by
   rw[rg Jg,qL,ZV];unfold cz;rw[wao];rfl
  have hlen:(bG (cz (d7 (r.map λd=>m.getD d "") f) (ls.take j))).length<sizeLine:=by rw[jE];unfold cz;rw[wa0,wak];exact bz (by omega)
  have g6:=eD.f (k:=(wai p:Key)) (kk _ _ h5 P6);rw[eN,kD f ls p Dx]at g6;refine⟨_,rfl,_,rfl,lh,_,rfl,.inl (aM.of (kk _ _ ZU (wb9 V7))),rfl,fv _,decide (p∈r.map λd=>m.getD d ""),congrArg V.bl (jz p _),?_⟩
  by_cases hp:p∈r.map λd=>m.getD d ""
  ·rw[decide_eq_true hp];refine fJ ⟨_,rfl,_,rfl,d,_,rfl,g6,_,rfl,_,rfl,dl,_,rfl,ke.k (k:=wai p) h6 hlen,?_⟩;exact⟨_,rfl,by rw[a6,put (f p) (by unfold d7;rw[if_pos hp])],λc O e hc=>by rw[ae hc];exact kk c O e hc⟩
  ·rw[decide_eq_false hp];refine cm ⟨_,rfl,_,rfl,dl,_,rfl,ke.k (k:=wai p) h6 hlen,?_⟩;exact⟨_,rfl,by rw[a6,put 0 (by unfold d7;rw[if_neg hp])],λc O e hc=>by rw[ae hc];exact kk c O e hc⟩
 rintro σ H6 ⟨v8,rfl,h6,kk⟩;rw[wa0,waI]at h6;subst Xj;subst V2;exact⟨_,rfl,k dl _ H6 (λc o e hc=>kk _ _ (k5 c o e hc) (af e V6)) V6 h6 (vx D) (FR D Z t) (FQ D (λd hd=>by rw[<-I];exact t.lt d hd) t.ne) (Bc D) (FP D)⟩
theorem oR(L:Lk K mg):aS P w K mg base d8 1 L.eB L.g7 ["self","length","rows"] (UT L.cA "length" "rows" MI MI):=by
 refine L.qp.dQ (N:=["self","length","rows"]) (λm A outer s H n Q E nd o h=>?_);obtain⟨x,u,v,rfl,⟨i,rfl,a⟩,⟨j,rfl,b⟩,g,k⟩:=h
 refine⟨_,(a7 (bu (HR rfl L.tE L.XB (a5 (pv 0) (a5 (KN (CI (HU (pv 1) (CI (HU (pv 2) (CI Ny)))))) a9))))
  (a7 (KL (CB:=L.dF) (pv 0) (pv 1) rfl)
  (ag (Jk (CB:=L.dF) (pv 0) (pv 2) rfl)))),?_⟩
 try dsimp only[dC,dA,b6,b7]
 have l1:=weE a;have l:=weE b;refine⟨_,rfl,av ?_,_,rfl,.inl ⟨i,rfl,a,av ?_,av ?_,_,rfl,.inl ⟨j,rfl,b,av ?_,av ?_,av ?_,x,L.cA,_,_,rfl,g,L.hV,?_⟩⟩⟩
 ·exact waj (show _<=1000 by decide+kernel) (by decide)
 ·exact waj (g9 (show _<=1000 by decide+kernel) l1) (by decide)
 ·exact waj (g9 (g9 (show _<=1000 by decide+kernel) l1) (show _<=1000 by decide+kernel)) (by decide)
 ·exact waj (g9 (g9 (g9 (show _<=1000 by decide+kernel) l1) (show _<=1000 by decide+kernel)) l) (by decide)
 ·exact waj (g9 (g9 (g9 (g9 (show _<=1000 by decide+kernel) l1) (show _<=1000 by decide+kernel)) l) (show _<=1000 by decide+kernel)) (by decide)
 ·exact waj (g9 (g9 (g9 (g9 (show _<=1000 by decide+kernel) l1) (show _<=1000 by decide+kernel)) l) (show _<=1000 by decide+kernel)) (by decide)
 refine⟨_,rfl,_,rfl,x,L.cA,_,rfl,g,L.hV,L.lS,λd hd=>?_⟩;have f:d≠x:=λz=>by rw[z,g]at hd;cases hd
 refine⟨_,rfl,_,rfl,x,L.cA,_,d,[("length",.int i)],rfl,a6,by rw[ae f,a6],by show 1<=50;decide,L.hV,L.oa,by rw[wdu,show (("rows":Str) == "length")=false by decide+kernel];rfl,?_⟩
 have e:upd (upd (upd H d (.xd [(("length":Str),V.int i)])) x (XD x L.cA d)) d (.xd ([(("length":Str),V.int i)]++[(("rows":Str),V.int j)]))=upd (upd H d (.xd [(("length":Str),V.int i),(("rows":Str),V.int j)])) x (XD x L.cA d):=by
  funext c
  by_cases a:c=d
  ·subst a;rw[a6,ae f,a6];rfl
  ·rw[ae a]
   by_cases b:c=x
   ·subst b;rw[a6,a6]
   ·rw[ae b,ae b,ae a,ae a]
 rw[e];exact k d hd
theorem nJ(L:Lk K mg):aS P w K mg base (BX P w) 8 L.iV L.iW ["band","many","wide"] (LI L.az L.cA):=by
 refine L.cL.F.Fs (N:=["band","many","wide","length"]) (λC A outer s H S Q E nd D h=>?_);obtain⟨x,many,n,g,bw,ss,ls,rfl,B,l,m,f,k,G⟩:=h
 refine⟨_,(a7 (ai (i:=3) (au (G5 L) L.vM (a5 (pv 0) (a5 (pv 1) (a5 (pv 2) (a5 (tZ (v:=.int 24) (by rfl) L.ng.choose_spec ⟨_,rfl⟩) a9))))))
  (ag (bK (aH yS (pv 3) gu (aU _)) (ag (HS d1 rfl L.hV L.yI L.yJ (oR L) (D.mono (by decide)) L.qt rfl L.vT (a5 (pv 3) (a5 (au (Jh L) L.zx (a5 (pv 0) (a5 (aO gx (pv 3) (pv 2)) a9))) a9)))) aQ))),?_⟩
 try dsimp only[dC,dA,b6,b7]
 refine⟨_,rfl,_,rfl,_,rfl,x,many,(n:Int),24,g,bw,ss,ls,rfl,B,l,m,f,by decide,by decide,λv I o p=>?_⟩;rw[waG]at p;have q:=p
 cases p with
 |none a=>exact⟨_,rfl,rfl,false,rfl,cm (k (λj u J=>a j u J) I o)⟩
 |some j a b c d=>
  refine⟨_,rfl,rfl,true,rfl,fJ ?_⟩
  have hk:(j:Int)*(n:Int)<=100000:=by
   have u:(j:Int)*(n:Int)<=24*6:=Int.mul_le_mul b f.d (by omega) (by omega);omega
  have r:0<=(j:Int)*(n:Int):=Int.mul_nonneg (by omega) (by omega);have M:((j:Int)*(n:Int)).toNat=j*n:=by rw[<-wbo,waG]
  refine⟨_,rfl,_,rfl,_,rfl,_,rfl,_,_,rfl,rfl,?_,x,(j:Int)*(n:Int),g,bw,ss,ls,rfl,B.same o,l,m,r,hk,λT y=>?_⟩
  ·exact .inl ⟨by omega,by omega⟩
  rw[M];refine⟨by show 2<=sizeLine;decide,λe O=>⟨e,_,_,rfl,⟨_,rfl,?_⟩,⟨_,rfl,?_⟩,a6,λt hd=>⟨rfl,.inr ⟨t,a6,?_⟩⟩⟩⟩
  ·have:=Nat.log2_le_self ((j:Nat):Int).natAbs;omega
  ·exact Dz f b c
  obtain⟨U,z,R⟩:=CQ (o2:=.xd [("length",.int (j:Nat)),("rows",.int (iB g bw ss (j*n) ""))]) (o3:=XD e L.cA t) O hd;rw[R];exact G j t _ q ((o.trans y).trans (a8.upd z)) (none_of (o.trans y) z) a6
theorem lW(L:Lk K mg):aS P w K mg base d8 4 L.mG L.mH ["sheet"] (J7 K L.aA):=by
 refine L.fQ.F.dQ (N:=["sheet"]) (λB A outer s H vs Q E nd C h=>?_);obtain⟨x,D,G,j,rfl,S,n1,I,J,M,k⟩:=h;refine⟨_,(ag (aB (nB L.qm (g8 L) (C.mono (by decide)) rfl L.uj L.dm.b .nil bI (a5 (aD (pv 0) rfl) (a5 (aD (pv 0) rfl) (a5 (aD (pv 0) rfl) a9)))))),?_⟩
 try dsimp only[dC,dA,b6,b7]
 obtain⟨l,g,bw,cl,m,O,n,R⟩:=id S;refine⟨_,rfl,x,L.aA,l,_,_,rfl,m,L.ay.cl,L.ay.fN,fA g bw cl,_,rfl,x,L.aA,l,_,_,rfl,m,L.ay.cl,L.ay.dj,cF g bw cl,_,rfl,x,L.aA,l,_,_,rfl,m,L.ay.cl,L.ay.cN,bT g bw cl,?_⟩;intro y i p q T;have sm:a8 H (upd (upd H i (.own y)) y (.ins L.aA i [])):=fz p q;refine⟨y,i,.ref g,.ref bw,.ref cl,D,G,j,rfl,a6,bL.same sm _ _ O,bL.same sm _ _ n,bL.same sm _ _ R,n1,I,J,M,λU X Y a d Z q2 q3 f=>⟨rfl,?_⟩⟩;have t:a8 H a:=λc o e=>f _ _ (sm _ _ e) (af e p);have u:=λ(z:kF) (v:V) (r:bL K (aJ _ a) z v)=>bL.same (eP sm) z v r;exact k y a t ⟨i,U,X,Y,bX p d,u _ _ Z,u _ _ q2,u _ _ q3⟩
theorem rJ(L:Lk K mg):aS P w K mg base d8 5 L.i6 L.lG ["self","weights","splits","kept","last"] (LD K L.aR L.aA):=by
 have T:=L.T;refine L.ic.F.dQ (N:=["self","weights","splits","kept","last"]) (λhX A outer s H vs Q E nd hr h=>?_);obtain⟨x,f,d,z,u,v,m,p,Y,hs,ws,Z,rfl,D,hd,ZW,Ut,S,n1,n2,n3,n4,n5,k⟩:=h
 refine⟨_,(a7 (d4 (pv 0) (bH D6 (by rfl) T.dict Qz (a5 (pv 1) a9)) rfl)
  (a7 (d4 (pv 0) (IM rfl (ax [] []) (ax [] []) (ax [] []) ⟨by decide,by decide,by decide⟩ (aN (pv 2)) (λ_ _ _ _ _ _=>bq) (λ_ _ _ _ _ _=>(ee (a5 (pv 0) (a5 (bH (wY (K:=K) rfl) (by rfl) T.list iN (a5 (pv 1) a9)) (a5 (pv 2) a9)))))) rfl)
  (a7 (d4 (pv 0) (bH dI (by rfl) T.list iN (a5 (pv 3) a9)) rfl)
  (ag (d4 (pv 0) (au (lW L) L.fQ (a5 (pv 4) a9)) rfl))))),?_⟩
 try dsimp only[dC,dA,b6,b7]
 obtain⟨c,rfl,hc⟩:=iS Ut;obtain⟨b,xs,rfl,hb,Oh⟩:=ZW;have xl:xs.length=p.length:=by rw[Oh.len,wa0]
 have G:∀{d:Addr} {ys:List V} {H':Hp},aM K H d ys->(∀b o,H b=some o->b≠x->H' b=some o)->aM K H' d ys:=λhS kp=>(fh kp).seq (zg D hS);refine⟨_,rfl,d,_,rfl,hd,λa I=>?_⟩;have B:x≠a:=af D I;refine⟨_,rfl,x,L.aR,f,[],rfl,by rw[ae B];exact D,L.df.cl,L.df.dj,(show 0<1000 by decide),?_⟩;rw[QO];have k1:∀d o,H d=some o->d≠x->(upd (upd H a (.dK (bG m))) x (.ins L.aR f (sN a))) d=some o:=λd o e hd=>by rw[ae hd];exact a8.upd I _ _ e
 have x1:(upd (upd H a (.dK (bG m))) x (.ins L.aR f (sN a))) x=some (.ins L.aR f (sN a)):=a6;have a1:(upd (upd H a (.dK (bG m))) x (.ins L.aR f (sN a))) a=some (.dK (bG m)):=by rw[ae B.symm,a6]
 generalize upd (upd H a (.dK (bG m))) x (.ins L.aR f (sN a))=H1 at k1 x1 a1 ⊢;have V8:=bo.same (fh k1) _ _ (bo.off D _ _ Oh);have Xk:aM K H1 b xs:=G (.inl hb) k1;refine⟨_,rfl,b,rfl,⟨_,Xk⟩,λg IE=>?_⟩;refine J5 (K:=K) (p.map zu) (aP K b xs) IE (av (by omega)) (by rw[wa0,xl]) (λH' s'=>s'.seq Xk) (λi v dd n hv l U=>?_) (λn U r3=>?_)
 ·obtain⟨d',e',r⟩:=V8.get i v hv;rw[l]at e';cases e';rw[wa4]at l
  cases e:p[i]? with
  |none=>rw[e]at l;cases l
  |some sp=>
   rw[e]at l;cases l;obtain⟨r0,ys,rfl,hT,h2⟩:=r;obtain⟨v1,vs1,rfl,⟨rfl,_⟩,h3⟩:=h2;obtain⟨v2,ZX,rfl,r2,h4⟩:=h3;obtain⟨v3,ZY,rfl,⟨rfl,_⟩,h5⟩:=h4;cases(show ZY=[] from h5);obtain⟨l2,rfl,Rl⟩:=iS r2;refine⟨r0,_,_,_,rfl,gL.of (U _ _ hT),λQ' qq=>?_⟩;refine⟨_,rfl,_,rfl,l2,_,rfl,.inl (U.seq Rl),λl3 J=>?_⟩;refine⟨_,rfl,by show 3<=sizeLine;decide,λt ht=>?_⟩;have s4:a8 (upd n l3 (.lst ((nI sp.2.1).map V.int))) (upd (upd n l3 (.lst ((nI sp.2.1).map V.int))) t (.tup [.int (sp.1:Int),.ref l3,.int sp.2.2])):=a8.upd ht;refine qq _ _ ((a8.upd J).trans s4) ?_;exact Eo (d:=sp.1) (ns:=sp.2.1) (w:=sp.2.2) (bX (none_of (a8.upd J) ht) a6) (bX J (s4 _ _ a6))
 have nbx:x≠g:=af x1 IE;have x3:=U _ _ x1;have a3:=U _ _ a1;refine⟨_,rfl,x,L.aR,f,sN a,rfl,x3,L.df.cl,L.df.Bg,(show 1<1000 by decide),?_⟩;rw[My];have k3:∀d o,H d=some o->d≠x->(upd n x (.ins L.aR f (pD a g))) d=some o:=λd o e hd=>by rw[ae hd];exact U _ _ (k1 _ _ e hd)
 have x4:(upd n x (.ins L.aR f (pD a g))) x=some (.ins L.aR f (pD a g)):=a6;have a4:(upd n x (.ins L.aR f (pD a g))) a=some (.dK (bG m)):=by rw[ae B.symm];exact a3
 have old:a8 (aJ H1 n) (aJ H n):=λd o e=>by
  unfold aJ at e ⊢
  cases q:H d with
  |none=>
   cases M:H1 d with
   |none=>rw[M]at e;exact e
   |some z=>rw[M]at e;cases e
  |some z=>
   by_cases hd:d=x
   ·rw[hd,x1]at e;cases e
   ·rw[k1 _ _ q hd]at e;cases e
 have r4:bL K (aJ H (upd n x (.ins L.aR f (pD a g)))) (.lst (p.map zu)) (.ref g):=bL.same (old.trans (bR D λd o e hd=>by rw[ae hd];exact e)) _ _ r3;generalize upd n x (.ins L.aR f (pD a g))=X at k3 x4 a4 r4 ⊢;refine⟨_,rfl,c,_,rfl,.inl (G hc k3),λj O=>?_⟩;have C:x≠j:=af x4 O
 have ZZ:H j=none:=by
  cases q:H j with
  |none=>rfl
  |some o=>have:=k3 _ _ q C.symm;rw[O]at this;cases this
 refine⟨_,rfl,x,L.aR,f,pD a g,rfl,by rw[ae C];exact x4,L.df.cl,L.df.Ja,(show 2<1000 by decide),?_⟩;rw[J6];have s5:∀d o,X d=some o->d≠x->(upd (upd X j (.lst ((nI Y).map V.int))) x (.ins L.aR f (sP a g j))) d=some o:=λd o e hd=>by rw[ae hd];exact a8.upd O _ _ e
 have x5:(upd (upd X j (.lst ((nI Y).map V.int))) x (.ins L.aR f (sP a g j))) x=some (.ins L.aR f (sP a g j)):=a6;have c5:(upd (upd X j (.lst ((nI Y).map V.int))) x (.ins L.aR f (sP a g j))) j=some (.lst ((nI Y).map V.int)):=by rw[ae C.symm,a6]
 generalize upd (upd X j (.lst ((nI Y).map V.int))) x (.ins L.aR f (sP a g j))=H5 at s5 x5 c5 ⊢;have k5:∀d o,H d=some o->d≠x->H5 d=some o:=λd o e hd=>s5 _ _ (k3 _ _ e hd) hd
 have S5:cg K L.aA H5 z hs ws Z:=by
  obtain⟨dz,ah,bw,cl,hz,rh,K1,rl⟩:=id S;have nzx:z≠x:=λq=>by rw[q,D]at hz;have:=wag hz;injection this with _ _ M;cases M
  have go:=λ(dd:kF) (v:V) (r:bL K H dd v)=>bL.same (fh k5) dd v (bL.off D dd v r);exact⟨dz,ah,bw,cl,k5 _ _ hz nzx,go _ _ rh,go _ _ K1,go _ _ rl⟩
 refine⟨_,rfl,z,hs,ws,Z,rfl,S5,n1,n2,n3,n4,λy R s6 S6=>?_⟩;refine⟨_,rfl,x,L.aR,f,sP a g j,rfl,s6 _ _ x5,L.df.cl,L.df.Jb,(show 3<1000 by decide),?_⟩;rw[Em];have up:∀{Ha:Hp},(∀d o,Ha d=some o->d≠x->(upd R x (.ins L.aR f (vA a g j y))) d=some o)->a8 (aJ H Ha) (aJ H (upd R x (.ins L.aR f (vA a g j y)))):=λh=>bR D h;have u6:∀d o,R d=some o->d≠x->(upd R x (.ins L.aR f (vA a g j y))) d=some o:=λd o e hd=>by rw[ae hd];exact e
 have u4:∀d o,X d=some o->d≠x->(upd R x (.ins L.aR f (vA a g j y))) d=some o:=λd o e hd=>u6 _ _ (s6 _ _ (s5 _ _ e hd)) hd
 have V9:a8 (aJ H5 R) (aJ H R):=λd o e=>by
  unfold aJ at e ⊢
  cases q:H d with
  |none=>
   cases M:H5 d with
   |none=>rw[M]at e;exact e
   |some z=>rw[M]at e;cases e
  |some z=>
   by_cases hd:d=x
   ·rw[hd,x5]at e;cases e
   ·rw[k5 _ _ q hd]at e;cases e
 exact k a g j y _ a6 I (u4 _ _ a4 B.symm) (bL.same (up u4) _ _ r4) (jH (bX ZZ (u6 _ _ (s6 _ _ c5) C.symm))) (S6.same (V9.trans (up u6))) λd o e hd=>u6 _ _ (s6 _ _ (k5 _ _ e hd)) hd
theorem xo(L:Lk K mg):aS P w K mg base d8 5 L.pT L.pU ["self"] (FY K L.aR L.aA):=by
 refine L.iE.F.dQ (N:=["self"]) (λe A outer s H u Q E nd v h=>?_);obtain⟨x,m,f,B,g,i,d,rfl,⟨j,a,b,c,z,l,ha,C,hc,S⟩,n1,n,o,p,k⟩:=h;refine⟨_,(ag (aB (au (lW L) L.fQ (a5 (aD (pv 0) rfl) a9)))),?_⟩
 try dsimp only[dC,dA,b6,b7]
 exact⟨_,rfl,x,L.aR,j,_,_,rfl,l,L.df.cl,L.df.Jb,Dt a b c z,z,g,i,d,rfl,S,n1,n,o,p,λy q r t=>k y q r t⟩
theorem DB(L:Lk K mg):aS P w K mg base (BX P w) 9 L.yC L.yD ["band","many","wide"] (J8 K L.az L.aR L.aA L.cA L.oP):=by
 have T:=L.T;refine L.jL.F.Fs (N:=["band","many","wide","weights","sheet","splits","kept","part"]) (λhX A outer s H vs Q E nd hr h=>?_);obtain⟨x,many,n,g,bw,ss,ls,rfl,B,MA,Rn,EC,J,U,D,k,kS,kO⟩:=h
 refine⟨_,(a7 (bu (au (gU L) L.eQ (a5 (pv 0) (a5 (pv 1) (a5 (pv 2) a9)))))
  (a7 (bu (k9 (nJ L) (hr.mono (by decide)) rfl L.cL.g L.cL.F.kp L.cL.b .nil (y8 d1) (a5 (pv 0) (a5 (pv 1) (a5 (pv 2) a9)))))
  (a7 (ai (i:=3) (au (qx L) L.gF (a5 (pv 0) (a5 (pv 1) (a5 (pv 2) (a5 (k9 (jr L) (hr.mono (by decide)) rfl L.bM.g L.bM.F.kp L.bM.b .nil (y8 d1) (a5 (pv 0) (a5 (pv 1) (a5 (pv 2) a9)))) a9))))))
  (a7 (ai (i:=4) (au (nq L) L.gP (a5 (pv 0) (a5 (pv 1) (a5 (pv 2) (a5 (pv 3) a9))))))
  (a7 (ai (i:=5) (cC a9))
  (a7 (ai (i:=6) (au (oi L) L.iD (a5 (pv 4) (a5 (pv 1) a9))))
  (a7 (jw whq (aH rY (aC bx (by rfl) T.len waM (a5 (pv 6) a9)) aq (aU _)) (a7 (ai (i:=7) (au (xn L) L.kU (a5 (pv 4) (a5 (pv 1) a9))))
  (a7 (ai (i:=4) (k9 (Ji L) (hr.mono (by decide)) rfl L.pR.g L.pR.F.kp L.pR.b .nil (y8 d1) (a5 (pv 4) (a5 (pv 1) (a5 (bf fI (pv 7) aq (λ_ _=>rfl)) (a5 (bf fI (pv 7) aq (λ_ _=>rfl)) (a5 (bf fI (pv 7) aq (λ_ _=>rfl)) a9)))))))
  (a7 (bu (j8 waT waX waZ cV (pv 5) (a5 (pv 7) a9)))
  (ag (ai (i:=6) (au (oi L) L.iD (a5 (pv 4) (a5 (pv 1) a9)))))))))
  (ag (aB (nB L.Ex (rJ L) (hr.mono (by decide)) rfl L.Jd L.ic.b .nil bI (a5 (pv 3) (a5 (pv 5) (a5 (pv 6) (a5 (pv 4) a9)))))))))))))),?_⟩
 try dsimp only[dC,dA,b6,b7]
 obtain⟨ra,rb,rc,rd,re⟩:=id D
 have K3:g.length^n<=64:=by
  rw[waG]at re;have:((g.length^n:Nat):Int)<=64:=by rw[wdK];exact re
  omega
 have nd:ls.Nodup:=B.nd.sublist B.lv.sub;refine⟨_,rfl,_,rfl,_,rfl,x,many,n,g,bw,ss,ls,rfl,B,J,D,?_⟩;refine⟨_,rfl,_,rfl,_,rfl,x,many,n,g,bw,ss,ls,rfl,B,J,U,D,λRp H1 s1=>?_,kS⟩;refine⟨_,rfl,_,rfl,_,rfl,_,rfl,_,rfl,_,rfl,x,many,n,g,bw,ss,ls,rfl,B.same s1,EC,J,U,D,λd f0 H2 s2 fd h2 hL=>?_,λhno H2 s2=>kO Rp hno H2 (s1.trans s2)⟩;obtain⟨most,Zc,ZB,hG,_⟩:=id hL.gr;refine⟨x,d,many,n,f0,g,bw,ss,ls,rfl,B.same (s1.trans s2),MA,Rn,EC,J,U,D,h2,hG.nn,hG.fit,hL.ps,λdl f H3 k3 V6 h3 Xl FI SV hle Va=>?_⟩;have s3:a8 H H3:=λc o e=>k3 c o (s2 _ _ (s1 _ _ e)) (af (s1 _ _ e) fd);have X:(ls.map f).sum<=40:=wdY Va hL.le;refine⟨_,rfl,_,rfl,_,rfl,_,rfl,x,dl,many,n,cz f ls,f,g,bw,ss,ls,rfl,B.same s3,EC,J,U,D,.inl h3,kD f ls,λy H4 s4 S4=>?_⟩;have S4:=S4.same (bZ _ _);have L0:fo g bw ss ls many n f [] _ _ _:=fo.start Rn B.pm MA (λp hp=>B.lv.sub.subset hp) nd Xl FI;refine⟨waB _,λb hb=>?_⟩;have s5:a8 H4 (upd H4 b (.lst [])):=a8.upd hb;have h5:(upd H4 b (.lst [])) b=some (.lst []):=a6;have o5:a8 H4 (fH (upd H4 b (.lst [])) b):=Bf s5 hb;generalize upd H4 b (.lst [])=H5 at s5 h5 o5;have W0:=L0.whole X K3;generalize ao ls f=v at S4 L0 W0;generalize v.map f=C at S4 L0 W0;generalize bB g bw ss ls n v=a at S4 L0 W0;have G3:a.length<=1000:=by rw[W0.l];exact W0.n
 refine⟨_,rfl,_,rfl,y,many,v,C,a,rfl,S4.same s5,G3,λl hl=>by have:=W0.m l hl;omega,λu G H6 s6 I Y hK=>?_⟩;have Vb:u≠b:=λz=>by rw[z,h5]at I;cases I
 refine⟨λq σ M=>∃(y u:Addr) (v:List Str) (C:List Int) (a:List (List (Str×Nat))) (j:List zt) (r:List V) (G:List Nat) (v7:Option V),q=40-v.length/\σ=[some (.ref x),some (.int many),some (.int (n:Int)),some (.ref dl),some (.ref y),some (.ref b),some (.ref u),v7]/\a8 H M/\M dl=some (.dK (bG (cz f ls)))/\cg K L.aA (fH M b) y v C a/\fo g bw ss ls many n f j v C a/\M b=some (.lst r)/\bo K (fH M b) (j.map zu) r/\u≠b/\M u=some (.lst ((nI G).map V.int))/\oG a many G,
  ⟨_,y,u,v,C,a,[],[],G,none,rfl,rfl,s3.trans (s4.trans (s5.trans s6)),s6 _ _ (s5 _ _ (s4 _ _ h3)),S4.same (o5.trans (pE s6)),L0,s6 _ _ h5,rfl,Vb,Y,hK⟩,?_⟩
 clear hK Y Vb I s6 G3 W0 L0 o5 h5 s5 S4;have Uu:H b=none:=none_of (s3.trans s4) hb;have QR:dl≠b:=af (s4 _ _ h3) hb;rintro q σ M ⟨y,u,v,C,a,j,r,G,v7,rfl,rfl,s7,Xm,S7,O,Z,r7,Vb,Vc,hK⟩;have W7:=O.whole X K3;have hlen:=O.len;have Ay:=O.b.w;have G3:a.length<=1000:=by rw[W7.l];exact W7.n
 have ME:r.length=j.length:=by rw[r7.len,wa0]
 have za2:=O.sl
 by_cases Rq:G=[]
 ·subst Rq
  have Aq:v≠[]:=λz=>by
   have h1:=O.sm;rw[z]at Ay;rw[wbz Ay]at h1;have:(0:Int)=(ls.map f).sum:=h1;omega
  refine⟨_,rfl,u,_,rfl,.inl (aM.of Vc),rfl,true,Ig _,fJ ?_⟩;refine⟨λσ' H'=>∃(y u:Addr) (R:List Str) (C:List Int) (a:List (List (Str×Nat))) (j:List zt) (r:List V) (G:List Nat) (v7:Option V),R.length=v.length+1/\σ'=[some (.ref x),some (.int many),some (.int (n:Int)),some (.ref dl),some (.ref y),some (.ref b),some (.ref u),v7]/\a8 H H'/\H' dl=some (.dK (bG (cz f ls)))/\cg K L.aA (fH H' b) y R C a/\fo g bw ss ls many n f j R C a/\H' b=some (.lst r)/\bo K (fH H' b) (j.map zu) r/\u≠b/\H' u=some (.lst ((nI G).map V.int))/\oG a many G,?_,?_⟩
  ·rintro σ' H' ⟨y,u,R,C,a,j,r,G,v7,e1,rfl,s',K2,S',L',IE,r',nk',K0,Vd⟩;have:=L'.len;exact⟨_,by omega,y,u,R,C,a,j,r,G,v7,rfl,rfl,s',K2,S',L',IE,r',nk',K0,Vd⟩
  refine⟨_,rfl,_,rfl,y,many,v,C,a,rfl,S7.same vB,O.b,hK,Aq,by omega,λl hl=>by have:=W7.m l hl;omega,by omega,by omega,λt l d ns w H8 s8 fl ft Xn Xo ok G4 MD=>?_⟩;have hT:=gL.of (K:=K) Xn;have S8:=(S7.same vB).same s8;refine⟨_,rfl,_,rfl,_,rfl,t,_,_,_,rfl,rfl,hT,rfl,_,rfl,t,_,_,_,rfl,rfl,hT,rfl,_,rfl,t,_,_,_,rfl,rfl,hT,rfl,y,l,many,(d:Int),w,nI ns,v,C,a,rfl,S8,aM.of Xo,by rw[cJ];omega,W7,by omega,by omega,.inl ⟨ok,λy' H9 s9 S9=>?_⟩⟩;rw[waG]at S9;have Xp:=s8 _ _ Z;have Xq:=s9 _ _ Xp;have L9:=O.step ok;have W9:=L9.whole X K3;have Ve:(dN a d (nI ns)).length<=1000:=by rw[W9.l];exact W9.n
  have nlb:l≠b:=λz=>by rw[z,Z]at fl;cases fl
  have ntb:t≠b:=λz=>by rw[z,Z]at ft;cases ft
  have r9:bo K (fH H9 b) ((j++[(d,ns,w)]).map zu) (r++[.ref t]):=by
   rw[wao];exact iH (bo.same (pE (s8.trans s9)) _ _ r7) (Eo (gC (s9 _ _ Xn) ntb) (gC (s9 _ _ Xo) nlb))
  have SW:cg K L.aA (fH H9 b) y' _ _ _:=S9.same (En Xp);refine⟨_,rfl,.inl ⟨rfl,_,aM.of Xq⟩,_,rfl,b,_,_,rfl,rfl,Xq,bz (by omega),?_⟩;have eo:fH (upd H9 b (.lst (r++[.ref t]))) b=fH H9 b:=LC;rw[<-eo]at r9 SW;have Ga:a8 H (upd H9 b (.lst (r++[.ref t]))):=λc o e=>by rw[ae (af e Uu)];exact s9 _ _ (s8 _ _ (s7 _ _ e))
  have Xr:(upd H9 b (.lst (r++[.ref t]))) dl=some (.dK (bG (cz f ls))):=by rw[ae QR];exact s9 _ _ (s8 _ _ Xm)
  have Vf:(upd H9 b (.lst (r++[.ref t]))) b=some (.lst (r++[.ref t])):=a6;generalize upd H9 b (.lst (r++[.ref t]))=BZ at Ga Xr Vf r9 SW;refine⟨_,rfl,_,rfl,y',many,_,_,_,rfl,SW.same vB,Ve,λl hl=>by have:=W9.m l hl;omega,λkl' ks' MH S I Y Vd=>?_⟩;refine⟨y',kl',_,_,_,j++[(d,ns,w)],r++[.ref t],ks',_,?_,rfl,Ga.trans S,S _ _ Xr,SW.same (pE S),L9,S _ _ Vf,bo.same (pE S) _ _ r9,(λz=>by rw[z,Vf]at I;cases I),Y,Vd⟩;unfold cR;rw[wa5];rfl
 ·refine⟨_,rfl,u,_,rfl,.inl (aM.of Vc),rfl,false,congrArg V.bl (decide_eq_false λz=>Rq (wbz (by have:=V.int.inj z;rw[wa0,cJ]at this;omega))),cm ?_⟩;refine⟨_,rfl,_,rfl,_,rfl,_,rfl,?_⟩;intro z dz nz SX Xs;have sm:a8 M (upd (upd M dz (.own z)) z (.ins L.aR dz [])):=fz nz SX;refine⟨z,dz,dl,y,.ref b,.ref u,cz f ls,j,G,v,C,a,rfl,a6,.inl (sm _ _ Xm),⟨b,r,rfl,.inl (sm _ _ Z),bo.same (vB.trans sm) _ _ r7⟩,jH (sm _ _ Vc),(S7.same vB).same sm,by omega,by omega,by omega,λl hl=>by have:=W7.m l hl;omega,by omega,λa' b' c' y' H8 h8 fa h8a r8 r8c S8 kp8=>⟨rfl,?_⟩⟩;have s8:a8 M H8:=λc o e=>kp8 _ _ (sm _ _ e) (af e nz);have nw:a8 (aJ (upd (upd M dz (.own z)) z (.ins L.aR dz [])) H8) (aJ H H8):=eP (s7.trans sm);refine k Rp z f0 f j G v C a H8 (s7.trans s8) ⟨dz,a',b',c',y',bX (none_of s7 nz) h8,bX (none_of (s7.trans sm) fa) h8a,bL.same nw _ _ r8,bL.same nw _ _ r8c,S8.same nw⟩ hL hle ⟨Xl,λp hp=>?_,FI,SV,X,O.rn,O.b,O.cv,by omega,hK,Rq,by omega,O.sb⟩;have h1:=hle p hp;have h2:=hG.le p hp;omega
end
end K53
namespace Bs
open PySem L2 Sx
theorem fG:∀{fs:List (Str×V)},n∉fs.map (·.1)->cH n v fs=fs++[(n,v)]
 |[],_=>rfl
 |(a,u)::fs,h=>by
  have b:¬a=n:=λz=>h (by grind);show (if a=n then _ else _)=_;rw[if_neg b,fG (fs:=fs) λz=>h (by grind)];rfl
theorem dS:∀{fs:List (Str×V)},n∉fs.map (·.1)->(fs++(n,v)::g).lookup n=some v:=by grind [wg4,waf,wac]
theorem j1:∀{fs:List (Str×V)},n∉fs.map (·.1)->fs.lookup n=none:=by grind [waf,wac]
noncomputable def Om(p:Addr):List (Str×V):=[("scheme",.ref p)]
noncomputable def Ph(p b:Addr):List (Str×V):=[("scheme",.ref p),("band",.ref b)]
noncomputable def Oo(p b:Addr)(many:Int):List (Str×V):=[("scheme",.ref p),("band",.ref b),("many",.int many)]
noncomputable def ML(p b:Addr)(many wide:Int):List (Str×V):=[("scheme",.ref p),("band",.ref b),("many",.int many),("wide",.int wide)]
noncomputable def MM(p b:Addr)(many wide:Int)(h:Addr):List (Str×V):=[("scheme",.ref p),("band",.ref b),("many",.int many),("wide",.int wide),("homes",.ref h)]
noncomputable def Jp(p b:Addr)(many wide:Int)(h l:Addr):List (Str×V):=[("scheme",.ref p),("band",.ref b),("many",.int many),("wide",.int wide),("homes",.ref h),("lines",.ref l)]
noncomputable def Pj(p b:Addr)(many wide:Int)(h l:Addr)(o:Str):List (Str×V):=[("scheme",.ref p),("band",.ref b),("many",.int many),("wide",.int wide),("homes",.ref h),("lines",.ref l),("opening",.str o)]
noncomputable def nr(p b:Addr)(many wide:Int)(h l:Addr)(o:Str)(i:Int):List (Str×V):=[("scheme",.ref p),("band",.ref b),("many",.int many),("wide",.int wide),("homes",.ref h),("lines",.ref l),("opening",.str o),("first",.int i)]
section
variable(p b h l:Addr)(many wide i:Int)(o:Str)
theorem Rr:cH "scheme" (.ref p) []=Om p:=rfl
theorem Rt:cH "band" (.ref b) (Om p)=Ph p b:=fG (by show ("band":Str)∉[("scheme":Str)];decide+kernel)
theorem Ru:cH "many" (.int many) (Ph p b)=Oo p b many:=fG (by show ("many":Str)∉[("scheme":Str),"band"];decide+kernel)
theorem Rv:cH "wide" (.int wide) (Oo p b many)=ML p b many wide:=fG (by show ("wide":Str)∉[("scheme":Str),"band","many"];decide+kernel)
theorem Rw:cH "homes" (.ref h) (ML p b many wide)=MM p b many wide h:=fG (by show ("homes":Str)∉[("scheme":Str),"band","many","wide"];decide+kernel)
theorem Rx:cH "lines" (.ref l) (MM p b many wide h)=Jp p b many wide h l:=fG (by show ("lines":Str)∉[("scheme":Str),"band","many","wide","homes"];decide+kernel)
theorem Ry:cH "opening" (.str o) (Jp p b many wide h l)=Pj p b many wide h l o:=fG (by show ("opening":Str)∉[("scheme":Str),"band","many","wide","homes","lines"];decide+kernel)
theorem Rz:cH "first" (.int i) (Pj p b many wide h l o)=nr p b many wide h l o i:=fG (by show ("first":Str)∉[("scheme":Str),"band","many","wide","homes","lines","opening"];decide+kernel)
theorem qy:(ML p b many wide).lookup ("scheme":Str)=some (.ref p):=dS (fs:=[]) (by decide+kernel)
theorem DC:(Jp p b many wide h l).lookup ("band":Str)=some (.ref b):=dS (fs:=Om p) (by show ("band":Str)∉[("scheme":Str)];decide+kernel)
theorem DE:(Jp p b many wide h l).lookup ("wide":Str)=some (.int wide):=dS (fs:=Oo p b many) (by show ("wide":Str)∉[("scheme":Str),"band","many"];decide+kernel)
theorem Bu:(Jp p b many wide h l).lookup ("lines":Str)=some (.ref l):=dS (fs:=MM p b many wide h) (by show ("lines":Str)∉[("scheme":Str),"band","many","wide","homes"];decide+kernel)
theorem zE:(Jp p b many wide h l).lookup ("behind":Str)=none:=j1 (by show ("behind":Str)∉[("scheme":Str),"band","many","wide","homes","lines"];decide+kernel)
theorem zF:(nr p b many wide h l o i).lookup ("scheme":Str)=some (.ref p):=dS (fs:=[]) (by decide+kernel)
theorem lz:(nr p b many wide h l o i).lookup ("band":Str)=some (.ref b):=dS (fs:=Om p) (by show ("band":Str)∉[("scheme":Str)];decide+kernel)
theorem DF:(nr p b many wide h l o i).lookup ("many":Str)=some (.int many):=dS (fs:=Ph p b) (by show ("many":Str)∉[("scheme":Str),"band"];decide+kernel)
theorem j2:(nr p b many wide h l o i).lookup ("wide":Str)=some (.int wide):=dS (fs:=Oo p b many) (by show ("wide":Str)∉[("scheme":Str),"band","many"];decide+kernel)
theorem tG:(nr p b many wide h l o i).lookup ("homes":Str)=some (.ref h):=dS (fs:=ML p b many wide) (by show ("homes":Str)∉[("scheme":Str),"band","many","wide"];decide+kernel)
theorem tH:(nr p b many wide h l o i).lookup ("lines":Str)=some (.ref l):=dS (fs:=MM p b many wide h) (by show ("lines":Str)∉[("scheme":Str),"band","many","wide","homes"];decide+kernel)
theorem oj:(nr p b many wide h l o i).lookup ("opening":Str)=some (.str o):=dS (fs:=Jp p b many wide h l) (by show ("opening":Str)∉[("scheme":Str),"band","many","wide","homes","lines"];decide+kernel)
theorem Bv:(nr p b many wide h l o i).lookup ("first":Str)=some (.int i):=dS (fs:=Pj p b many wide h l o) (by show ("first":Str)∉[("scheme":Str),"band","many","wide","homes","lines","opening"];decide+kernel)
theorem cM(hn:n∉[("scheme":Str),"band","many","wide","homes","lines","opening","first"]):(nr p b many wide h l o i).lookup n=none:=j1 hn
end
structure Bw(K:wa2)(C CP CS:Addr)(H:Hp)(x xb:Addr)(many:Int)(n:Nat)(m:List (Str×Int))(qM:List zt)(ks:List Nat)(hs:List Str)(ws:List Int)(lns:List (List (Str×Nat)))(b:Nat):Prop where
 ex:∃dx p a l,H x=some (.ins C dx (nr p xb many (n:Int) a l (cG (fq lns ks many.toNat) 0 (wam b 0)).1 ((cG (fq lns ks many.toNat) 0 (wam b 0)).2:Int)))/\oJ K CP CS H p m qM ks hs ws lns/\bL K H (sE (ks.map λd=>hs.getD d "")) (.ref a)/\bL K H (kH (fq lns ks many.toNat)) (.ref l)
end Bs
namespace Sx
open PySem L2 Bs
inductive Jq(C CB:Addr)(vs:List V)(H:Hp)(Q:VK)(eE:XK):Prop
 |mk (x xb dx:Addr) (fs:List (Str×V)) (n:Nat) (g:Str) (bw ss ls:List Str) (_:vs=[.ref x]) (_:H x=some (.ins C dx fs)) (_:fs.lookup ("band":Str)=some (.ref xb)) (_:fs.lookup ("wide":Str)=some (.int (n:Int))) (_:aX CB H xb g bw ss ls) (_:1<=n) (_:n<=10) (_:(∀w∈bw,w.length<=900)) (_:bw.length<=1000) (_:∀(b:Nat) (H':Hp),a8 H H'->nj bw n b->Q (.int (b:Int)) H')
inductive Gb(K:wa2)(C CB CP CS CX CO:Addr)(vs:List V)(H:Hp)(Q:VK)(E:XK):Prop
 |mk (x dx xb:Addr) (many:Int) (n:Nat) (g:Str) (bw ss ls:List Str) (_:vs=[.ref x,.ref xb,.int many,.int (n:Int)]) (_:H x=some (.ins C dx [])) (_:aX CB H xb g bw ss ls) (_:(∀w∈bw,1<=w.length/\w.length<=900)) (_:bw.length<=1000) (_:("":Str)∈ss) (_:(ch g).Nodup) (_:2<=g.length) (_:g.length<=10) (_:ss.length<=900) (_:gA g.length many n) (_:(FZ g bw ss many n->∀(p a l:Addr) (f0 f:Str->Int) (qM:List zt) (ks:List Nat) (hs:List Str) (ws:List Int) (lns:List (List (Str×Nat))) (b:Nat) (H':Hp),(∀c o,H c=some o->c≠x->H' c=some o)->H' x=some (.ins C dx (nr p xb many (n:Int) a l (cG (fq lns ks many.toNat) 0 (wam b 0)).1 ((cG (fq lns ks many.toNat) 0 (wam b 0)).2:Int)))->oJ K CP CS (aJ H H') p (cz f ls) qM ks hs ws lns->bL K (aJ H H') (sE (ks.map λd=>hs.getD d "")) (.ref a)->bL K (aJ H H') (kH (fq lns ks many.toNat)) (.ref l)->ui g bw ss ls many n f0->(∀p∈ls,f p<=f0 p)->i5 g bw ss ls many n f qM ks hs ws lns->GC many n (fq lns ks many.toNat)->nj bw n b->Q .non H')) (_:Uh CX g bw ss many n H E) (_:(FZ g bw ss many n->zr g bw ss ls many n->∀H',a8 H H'->E (.ref CO) none H'))
end Sx
namespace Bs
open PySem L2 Sx
theorem Jr(B:aX C H j g bw ss ls)(I:H x=some (.ins J T fs))(hn:j≠x):aX C (fH H x) j g bw ss ls:=by
 obtain⟨⟨f,b,d,q,t,u,h,i,v,k,r⟩,p,o,l⟩:=B;have ne:∀{c:Addr} {o:HO},H c=some o->(∀a b e,o≠.ins a b e)->c≠x:=λe n z=>by grind
 exact⟨⟨f,b,d,q,t,gC u hn,gC h (ne h λ_ _ _ z=>by cases z),gC i (ne i λ_ _ _ z=>by cases z),v,λm s=>gC (k m s) (ne (k m s) λ_ _ _ z=>by cases z),gC r (ne r λ_ _ _ z=>by cases z)⟩,p,o,l⟩
theorem vZ:∀b:Nat,(wam b [V.int 0]).flatten=(nI (wam b 0)).map V.int
 |0=>rfl
 |b+1=>by
  rw[wcz,wc5,vZ b,wcz];rfl
theorem DG(h:∀c o,H c=some o->∃g,j c=some g):a8 (aJ j l) (aJ H l):=by grind [a8,aJ]
end Bs
namespace K53
open PySem L2 Bs Sx
section
variable{P:wau}{w:World}{K:wa2}{mg:Str->Option Value}{base:Heap}
theorem dq(L:Lk K mg):aS P w K mg base d8 3 L.lJ L.lK ["self"] (Jq L.ak L.az):=by
 refine L.b5.F.dQ (N:=["self"]) (λe A outer s H l Q E nd m h=>?_);obtain⟨x,f,c,fs,n,g,bw,ss,ls,rfl,d,i,j,B,n1,wH,a,b,k⟩:=h;refine⟨_,(ag (aB (au (rH L) L.i7 (a5 (aD (pv 0) rfl) (a5 (aD (pv 0) rfl) a9))))),?_⟩
 try dsimp only[dC,dA,b6,b7]
 exact⟨_,rfl,x,L.ak,c,_,_,rfl,d,L.aj.cl,L.aj.vD,i,_,rfl,x,L.ak,c,_,_,rfl,d,L.aj.cl,L.aj.rx,j,f,n,g,bw,ss,ls,rfl,B,n1,wH,a,b,k⟩
theorem oS(L:Lk K mg):aS P w K mg base (BX P w) 10 L.fT L.jc ["self","band","many","wide"] (Gb K L.ak L.az L.aR L.aA L.cA L.oP):=by
 refine L.fV.F.Fs (N:=["self","band","many","wide","sheet","kept","found"]) (λhX A outer s H vs Q E nd hr h=>?_);obtain⟨x,a,j,many,n,g,bw,ss,ls,rfl,hx,B,MA,Oh,hes,Rn,EC,EA,Ez,Jo,k,kS,kO⟩:=h
 refine⟨_,(a7 (d4 (pv 0) (k9 (DB L) (hr.mono (by decide)) rfl L.jL.g L.jL.F.kp L.jL.b .nil (y8 d1) (a5 (pv 1) (a5 (pv 2) (a5 (pv 3) a9)))) rfl)
  (a7 (d4 (pv 0) (pv 1) rfl)
  (a7 (d4 (pv 0) (pv 2) rfl)
  (a7 (d4 (pv 0) (pv 3) rfl)
  (a7 (ai (i:=4) (bP (aD (pv 0) rfl) L.df.cl L.iE.m (xo L) (hr.mono (by decide)) L.iE.b .nil bI))
  (a7 (ai (i:=5) (aD (aD (pv 0) rfl) rfl))
  (a7 (d4 (pv 0) (cD rfl (ax ["sheet"] [4]) (aN (pv 5)) (λ_ _ _ _ _ _=>bq) (λ_ _ _ _ _ _=>(bf (gY (K:=K) rfl) (nD (K:=K) rfl (pv 1) rfl) (pv 0) (λ_ _=>rfl)))) rfl)
  (a7 (d4 (pv 0) (cD rfl (ax ["sheet","kept","many"] [4,5,2]) (aN (pv 5)) (λ_ _ _ _ _ _=>bq) (λ_ _ _ _ _ _=>(au (jQ L) L.dO (a5 (bf (gY (K:=K) rfl) (nD (K:=K) rfl (pv 1) rfl) (pv 0) (λ_ _=>rfl)) (a5 (pv 2) (a5 (pv 3) a9)))))) rfl)
  (a7 (ai (i:=6) (au (yL L) L.q9 (a5 (aD (pv 0) rfl) (a5 aq (a5 (aO Hl (cC (a5 aq a9)) (bP (pv 0) L.aj.cl L.b5.m (dq L) (hr.mono (by decide)) L.b5.b .nil bI)) a9)))))
  (a7 (d4 (pv 0) (bf fI (pv 6) aq (λ_ _=>rfl)) rfl)
  (ag (d4 (pv 0) (bf fI (pv 6) aq (λ_ _=>rfl)) rfl)))))))))))),?_⟩
 try dsimp only[dC,dA,b6,b7]
 obtain⟨ra,rb,rc,rd,re⟩:=id Jo
 have nxb:j≠x:=λz=>by
  obtain⟨dx',b,d,q,mv,h1,_⟩:=id B.ex;rw[z,hx]at h1;have:=wag h1;injection this with _ _ q2
  cases q2
 refine⟨_,rfl,_,rfl,_,rfl,j,many,n,g,bw,ss,ls,rfl,B,λw hw=>(MA w hw).1,Rn,EC,EA,Ez,Jo,λRp p f0 f qM D T ws u H1 s1 P1 hL hle G=>?_,kS,kO⟩;have W0:=Rh (n:=n) G.ko G.ne (show 0<=many by omega) (G.cv.word G.b.l (λq M=>B.lv.sub.subset (G.sb q M)) hes);have P1':=P1.same (bZ _ _);have zad:=G.ln;have hwL:=G.b.w;have TC:=G.b.l
 have K3:g.length^n<=64:=by
  rw[waG]at re;have:((g.length^n:Nat):Int)<=64:=by rw[wdK];exact re
  omega
 have R9:∀l∈u,l.length<=10000:=λl hm=>by
  have h1:=G.cv.line G.b.l (b:=64) (λp=>waj (gB g bw ss ls n p) K3) l hm;have h2:64*T.length<=64*40:=wc7 _ (by omega);omega
 have Wt:D.length<=40:=by have:=G.ko.ab.sub.length_le;rw[waO]at this;omega
 have Xu:∀d∈D,d<u.length:=λd hd=>(G.ko.st d hd).1;refine⟨_,rfl,x,L.ak,a,[],rfl,s1 _ _ hx,L.aj.cl,L.aj.pF,(show 0<1000 by decide),?_⟩;rw[Rr];refine⟨_,rfl,_,rfl,x,L.ak,a,_,rfl,a6,L.aj.cl,L.aj.vD,(show 1<1000 by decide),?_⟩;rw[Rt];refine⟨_,rfl,_,rfl,x,L.ak,a,_,rfl,a6,L.aj.cl,L.aj.Jc,(show 2<1000 by decide),?_⟩;rw[Ru];refine⟨_,rfl,_,rfl,x,L.ak,a,_,rfl,a6,L.aj.cl,L.aj.rx,(show 3<1000 by decide),?_⟩;rw[Rv];have x2:(upd (upd (upd (upd H1 x (.ins L.ak a (Om p))) x (.ins L.ak a (Ph p j))) x (.ins L.ak a (Oo p j many))) x (.ins L.ak a (ML p j many (n:Int)))) x=some (.ins L.ak a (ML p j many (n:Int))):=a6;have k2:∀c o,H1 c=some o->c≠x->(upd (upd (upd (upd H1 x (.ins L.ak a (Om p))) x (.ins L.ak a (Ph p j))) x (.ins L.ak a (Oo p j many))) x (.ins L.ak a (ML p j many (n:Int)))) c=some o:=λc o e hc=>by rw[ae hc,ae hc,ae hc,ae hc];exact e
 generalize upd (upd (upd (upd H1 x (.ins L.ak a (Om p))) x (.ins L.ak a (Ph p j))) x (.ins L.ak a (Oo p j many))) x (.ins L.ak a (ML p j many (n:Int)))=H2 at x2 k2;have Vg:∀c o,H c=some o->c≠x->H2 c=some o:=λc o e hc=>k2 c o (s1 _ _ e) hc;have n2:a8 (aJ H H1) (aJ H H2):=bR hx k2;have P2:=P1.same (n2.trans (bZ _ _));obtain⟨dp,wa,wb,U,wz,RA,_,_,rc2,_⟩:=id P2;refine⟨_,rfl,x,L.ak,a,_,_,rfl,x2,L.aj.cl,L.aj.pF,qy p j many n,p,dp,_,rfl,RA,j1 (by show ("sheet":Str)∉[("weights":Str),"splits","kept","last"];decide+kernel),p,cz f ls,qM,D,T,ws,u,rfl,P2,by omega,by omega,by omega,R9,λy H3 s3 S3=>?_⟩;have x3:=s3 _ _ x2;refine⟨_,rfl,x,L.ak,a,_,_,rfl,x3,L.aj.cl,L.aj.pF,qy p j many n,p,L.aR,dp,_,_,rfl,s3 _ _ RA,L.df.cl,L.df.Ja,Du wa wb U wz,?_⟩
 have Vh:aM K H3 U ((nI D).map V.int):=by
  obtain⟨c',e,h⟩:=iS (bL.same s3 _ _ rc2);cases e;exact h
 have S3':=S3.same (bZ _ _);obtain⟨dy,ah,Xv,cl,hy,rh,rwt,rl⟩:=id S3';have hh:=uh rh;obtain⟨QT,xs,ec,hc,A5⟩:=id rl;cases ec;refine⟨_,rfl,U,rfl,⟨_,Vh⟩,λr RB=>?_⟩;refine dU (λ_=>true) (λv=>match v with |.int d=>.str (T.getD d.toNat "") |_=>.non) (aP K U _) RB (av (by rw[wa0,cJ];omega)) (λH' s'=>s'.seq Vh) (λv H8 Q' hy s8 qq=>qq H8 (a8.refl _)) (λv H4 Q' hv _ O qq=>?_) (λH4 O h4=>?_)
 ·obtain⟨n',BW,rfl⟩:=vy hv;have X:n'<T.length:=by rw[<-TC];exact Xu n' BW
  exact⟨_,rfl,y,L.aA,dy,_,_,rfl,O _ _ hy,L.ay.cl,L.ay.fN,fA ah Xv cl,_,rfl,ah,_,_,_,rfl,rfl,O.seq (.inl hh),bE (v:=.str (T.getD n' "")) (by rw[wa4,wa1 X,wa3,wa1 X];rfl),qq H4 (a8.refl _)⟩
 have e4:(((nI D).map V.int).filter λ_=>true).map (λv=>match v with |.int d=>V.str (T.getD d.toNat "") |_=>.non)=(D.map λd=>T.getD d "").map V.str:=by
  rw[wb6.mpr (λ_ _=>rfl)];unfold nI;rw[wah,wah,wah];rfl
 rw[e4]at h4;have Y:r≠x:=wb9 (af x3 RB);refine⟨_,rfl,x,L.ak,a,_,rfl,O _ _ x3,L.aj.cl,L.aj.fN,(show 4<1000 by decide),?_⟩;rw[Rw];have x5:(upd H4 x (.ins L.ak a (MM p j many (n:Int) r))) x=some (.ins L.ak a (MM p j many (n:Int) r)):=a6;have k5:∀c o,H4 c=some o->c≠x->(upd H4 x (.ins L.ak a (MM p j many (n:Int) r))) c=some o:=λc o e hc=>by rw[ae hc];exact e
 generalize upd H4 x (.ins L.ak a (MM p j many (n:Int) r))=H5 at x5 k5;have x4:=O _ _ x3
 have nyx:y≠x:=λz=>by
  obtain⟨_,_,_,_,h,_⟩:=id S3;rw[z]at h;unfold aJ at h;rw[x2]at h;cases h
 have Ol:aM K H5 U ((nI D).map V.int):=(fh k5).seq (zg x4 (O.seq Vh));have UZ:=k5 _ _ (O _ _ hy) nyx;have rl5:bL K H5 (kH u) (.ref cl):=bL.same (fh k5) _ _ (bL.off x4 _ _ (bL.same O _ _ rl));obtain⟨WM,xs5,ec5,hc5,Vi⟩:=id rl5;cases ec5;refine⟨_,rfl,U,rfl,⟨_,Ol⟩,λC Dh=>?_⟩;refine vf (K:=K) ((fq u D many.toNat).map bY) (aP K U _) Dh (av (by rw[wa0,cJ];omega)) (by unfold fq;rw[wa0,wa0,wa0,cJ]) (λH' s'=>s'.seq Ol) (λi v dd H6 Q' hv P8 Z qq=>?_) (λH6 Z r6=>?_)
 ·have hi:i<D.length:=by have:=(wa6.mp hv).1;rwa[wa0,cJ]at this
  rw[vr (wa1 hi)]at hv;cases hv;unfold fq at P8;rw[wa4,wa4,wa1 hi]at P8;cases P8;have G4:=Xu _ (waL hi);generalize D[i]=d at qq G4;have M:=cW G4;obtain⟨v',Of,rd'⟩:=Vi.at (i:=d) (d:=bY (u.getD d [])) (by rw[wa4,M];rfl);exact⟨_,rfl,y,L.aA,dy,_,_,rfl,Z _ _ UZ,L.ay.cl,L.ay.cN,bT ah Xv cl,_,rfl,cl,xs5,_,_,rfl,rfl,Z.seq (.inl hc5),bE Of,_,rfl,_,rfl,v',U,many,D,u.getD d [],rfl,bL.same Z _ _ rd',Z.seq Ol,by omega,R9 _ (wa9 M),by omega,λz R s7 r7=>qq z R s7 r7⟩
 have x6:=Z _ _ x5;refine⟨_,rfl,x,L.ak,a,_,rfl,x6,L.aj.cl,L.aj.cN,(show 5<1000 by decide),?_⟩;rw[Rx];have x7:(upd H6 x (.ins L.ak a (Jp p j many (n:Int) r C))) x=some (.ins L.ak a (Jp p j many (n:Int) r C)):=a6;have k7:∀c o,H6 c=some o->c≠x->(upd H6 x (.ins L.ak a (Jp p j many (n:Int) r C))) c=some o:=λc o e hc=>by rw[ae hc];exact e
 generalize upd H6 x (.ins L.ak a (Jp p j many (n:Int) r C))=R at x7 k7;have Xw:∀c o,H c=some o->c≠x->H5 c=some o:=λc o e hc=>k5 _ _ (O _ _ (s3 _ _ (Vg c o e hc))) hc;have kH7:∀c o,H c=some o->c≠x->R c=some o:=λc o e hc=>k7 _ _ (Z _ _ (Xw c o e hc)) hc;have r7:bL K R (kH (fq u D many.toNat)) (.ref C):=bL.same ((En x5).trans (fh k7)) _ _ r6;have B7:aX L.az R j g bw ss ls:=(Jr B hx nxb).same (fh kH7);refine⟨_,rfl,x,L.ak,a,_,_,rfl,x7,L.aj.cl,L.aj.cN,Bu p j r C many n,by show 1<=sizeLine;decide,λl0 MJ=>?_⟩;have s8:=a8.upd (H:=R) (o:=.lst [V.int 0]) MJ;have h8:(upd R l0 (.lst [V.int 0])) l0=some (.lst [V.int 0]):=a6;generalize upd R l0 (.lst [V.int 0])=H8 at s8 h8;have x8:=s8 _ _ x7;refine⟨_,rfl,x,a,_,rfl,x8,zE p j r C many n,x,j,a,_,n,g,bw,ss,ls,rfl,x8,DC p j r C many n,DE p j r C many n,B7.same s8,by omega,by omega,λw hw=>(MA w hw).2,Oh,λb H9 s9 hb=>?_⟩;have hb1:=hb.le;refine⟨l0,(b:Int),[V.int 0],rfl,rfl,s9 _ _ h8,by omega,by omega,av (by show 1*((b:Int)).toNat<=_;omega),λpr Vj=>?_⟩;rw[waG,vZ];have Ga:=a8.upd (H:=H9) (o:=.lst ((nI (wam b 0)).map V.int)) Vj;have GD:(upd H9 pr (.lst ((nI (wam b 0)).map V.int))) pr=some (.lst ((nI (wam b 0)).map V.int)):=a6;generalize upd H9 pr (.lst ((nI (wam b 0)).map V.int))=BZ at Ga GD;have RC:=s8.trans (s9.trans Ga);refine⟨.ref C,0,pr,many,n,fq u D many.toNat,wam b 0,rfl,bL.same RC _ _ r7,aM.of GD,W0,wc8.mpr W0.ne,λt ht=>by rw[(wdh.mp ht).2];omega,by rw[waP];omega,by omega,λq S Oi M=>?_⟩;have RD:=RC.trans Oi;have Xx:=RD _ _ x7;have Uk:q≠x:=λz=>by rw[z,Xx]at M;cases M
 generalize hwk:cG (fq u D many.toNat) 0 (wam b 0)=I at M;refine⟨_,rfl,q,_,_,_,rfl,rfl,gL.of M,rfl,_,rfl,x,L.ak,a,_,rfl,Xx,L.aj.cl,L.aj.ry,(show 6<1000 by decide),?_⟩;rw[Ry];refine⟨_,rfl,q,_,_,_,rfl,rfl,gL.of (by rw[ae Uk];exact M),rfl,_,rfl,x,L.ak,a,_,rfl,a6,L.aj.cl,L.aj.Ep,(show 7<1000 by decide),?_⟩;rw[Rz];have Vk:(upd (upd S x (.ins L.ak a (Pj p j many (n:Int) r C I.1))) x (.ins L.ak a (nr p j many (n:Int) r C I.1 (I.2:Int)))) x=some (.ins L.ak a (nr p j many (n:Int) r C I.1 (I.2:Int))):=a6;have Xy:∀c o,S c=some o->c≠x->(upd (upd S x (.ins L.ak a (Pj p j many (n:Int) r C I.1))) x (.ins L.ak a (nr p j many (n:Int) r C I.1 (I.2:Int)))) c=some o:=λc o e hc=>by rw[ae hc,ae hc];exact e
 generalize upd (upd S x (.ins L.ak a (Pj p j many (n:Int) r C I.1))) x (.ins L.ak a (nr p j many (n:Int) r C I.1 (I.2:Int)))=J at Vk Xy;have RE:∀c o,R c=some o->c≠x->J c=some o:=λc o e hc=>Xy _ _ (RD _ _ e) hc;have Vl:∀c o,H5 c=some o->c≠x->J c=some o:=λc o e hc=>RE _ _ (k7 _ _ (Z _ _ e) hc) hc;have RF:∀c o,H4 c=some o->c≠x->J c=some o:=λc o e hc=>Vl _ _ (k5 _ _ e hc) hc;have RG:∀c o,H2 c=some o->c≠x->J c=some o:=λc o e hc=>RF _ _ (O _ _ (s3 _ _ e)) hc
 have fla:H r=none:=by
  cases e:H r with
  |none=>rfl
  |some o=>have:=s3 _ _ (Vg r o e Y);rw[RB]at this;cases this
 have m5:∀c o,H c=some o->∃o',H5 c=some o':=λc o e=>by
  by_cases z:c=x
  ·rw[z];exact⟨_,x5⟩
  ·exact⟨o,Xw c o e z⟩
 rw[<-hwk]at Vk;refine k Rp p r C f0 f qM D T ws u b J (λc o e hc=>RG _ _ (Vg c o e hc) hc) Vk (P1.same (n2.trans (bR hx RG))) (pz (bX fla (RF _ _ h4 Y))) (bL.same ((DG m5).trans (bR hx λc o e hc=>RE _ _ (k7 _ _ e hc) hc)) _ _ r6) hL hle G W0 hb
end
end K53
namespace L2
open PySem PySem.Spec PyProof.Rows Sx
section
variable{X:Cx}{e:Expr}{es:List Expr}{te:TE}{t:TJ}{pos:Pos}
end
end L2
namespace Sx
open PySem L2 Bs
noncomputable def LV(wl:List (List (Str×Nat)))(b c:Nat)(ts:List Nat):Str:=(cG wl 0 (wam b 0)).1++(cG wl (cG wl 0 (wam b 0)).2 (ts++wam c 0)).1
end Sx
namespace L2
open PySem PySem.Spec PyProof.Rows
section
variable{M:Model}{A:Around}{E:Value->Shared->Prop}{e C C1 CB:Addr}{nm q:Str}{N:Addr}{bs:List Value}{hdct:Bool}{sn:List Str}{sub:List Value}{ab:Bool}{col:Option Bool}{dd:Option Addr}{k0 k1 k2 k3 k5:Option Value}
 {Qx q':Str} {N':Addr} {bs':List Value} {RH:Bool} {sn':List Str} {Vm:List Value} {ab':Bool} {Vn:Option Bool} {dd':Option Addr} {k0' k1' k2' k3' k5':Option Value}
theorem zG{h:Heap}{g:Array wdr}{d:Drawn}{t:Nat}{os:wbS}{I:Obj}{Q:Bool->Shared->Prop}(j:h.get? C1=some (wbs Qx q' C1 N' bs' (oA CB) RH sn' Vm ab' Vn dd' k0' k1' k2' k3' k5' "ValueError.__new__"))
 (J:h.get? C=some (wbs nm q C N bs (oA CB) hdct sn sub ab col dd k0 k1 k2 k3 k5 "ValueError.__new__"))
 (T:h.get? e=some I) (l:I.cls=.ref C) (p:C1≠C) (r:C1≠CB) (U:Q false ⟨h,g,d,t,os⟩) :
 wpAny M A (wgI (.ref e) (.ref C1)) Q E ⟨h,g,d,t,os⟩:=by
 have a:(wan C1::oA CB).contains (.type "BaseException")=true:=by simp[whc,oA]
 have b:(wan C::oA CB).contains (.ref C1)=false:=by simp[whc,oA,p,r]
 have f:=tc_notTuple;unfold wgI
 repeat (first |(with_reducible refine wbb T ?_;rw[l]) |with_reducible refine wbb j ?_ |with_reducible refine wbb J ?_ |(with_reducible refine wbQ J ?_;rw[b]) |(with_reducible refine wbQ j ?_;rw[a]) |wp_step)
 exact U
end
def RJ(C1 C2:Addr)(tb:Mo)(i:Nat):TS:=λD σ H=>tb (λσ' cv od H'=>(cv=.ref C1\/cv=.ref C2)/\D.nx (σ'.set i (some .non)) H') D σ H
section
variable{X:Cx}{CB C1 C2:Addr}{QE SY x nm Qx:Str}{body:List Stmt}{tb:Mo}{i jj jk:Nat}{p1 p2 p3 p4 NF q1 q2 q3 q4 Vo pos:Pos}
theorem LW(l:X.stack=X.env::X.outer/\X.env.frame=some X.env.locals)(g:Qw X body tb)(hg:Gl X QE)(hm:X.mg QE=some (.ref C1))(hg':Gl X SY)(TV:X.mg SY=some (.ref C2))(U:eZ X.K C1 CB nm)(U':eZ X.K C2 CB Qx)(Aq:C1≠C2)(hnb:C1≠CB)(hN:X.N.Nodup)(hi:X.N[i]?=some x)
 (hx:Loc X.env.scope x) (J:(QE==("__debug__":Str))=false:=by decide) (T:(SY==("__debug__":Str))=false:=by decide)
 (hf:X.fn x=true\/X.env.scope.names.lookup x=some .local:=by first |exact .inl rfl |exact .inr rfl |assumption) (TH:wc6 (.Constant .none jj p3) (some (.Name x p2)) p4.line X.env=pure false:=by rfl) (Vp:wc6 (.Constant .none jk q3) (some (.Name x q2)) q4.line X.env=pure false:=by rfl) :
 PS X (.Try body [.ExceptHandler (some (.Name QE p1)) none [.Assign [.Name x p2] (.Constant .none jj p3) p4] NF,.ExceptHandler (some (.Name SY q1)) none [.Assign [.Name x q2] (.Constant .none jk q3) q4] Vo] [] [] pos) (RJ C1 C2 tb i):=by
 intro a s σ H D I h;refine wpAny_Try_except (wb8 (g a s σ H D _ I h) (λf s1 q=>?_) λY s1 q=>?_)
 ·cases f with
  |next=>exact wco q
  |ret v=>exact q
  |brk=>exact q
  |cont=>exact q
 obtain⟨r,H0,G,d,e,C',od,m,rfl,k,bare,un,b4,F,c,hD⟩:=q;have I1:Inv X a r m s1:=d.xI k un b4 bare λb z=>absurd z (by simp);have hfs:(X.env::X.outer).filterMap (·.frame)=rX X.stack:=by rw[l.1];rfl
 have t:=I1.tY
 have L:G.heap.objs.size<=s1.heap.objs.size:=whA λz=>by
  obtain⟨Qs,_,vs,sl,he,_⟩:=F;exact absurd (waw (wbe Qs (wae he)) (wfn z)) (wbh _)
 refine Az (lo:=G.heap.objs.size) (H:=m) (base:=X.base) (outer:=X.outer) (by rw[<-l.1];exact d.ok.frames) (by rw[<-l.1];exact I1.stack) l.2 L (λb g=>b4.fresh g) F λZ F2 p=>?_;rw[hfs]at p;obtain⟨M,n,J2⟩:=d.CJ k bare un b4 p t;have u:=J2 s1.toks;obtain⟨qC,NC,bsC,snC,zaA,abC,zaB,ddC,c0,c1,c2,c3,c5,O⟩:=U.lk;obtain⟨qD,ND,bsD,snD,zaC,abD,zaD,ddD,e0,e1,e2,e3,e5,Q⟩:=U'.lk;obtain⟨ZX,sl2,w,_⟩:=id F2.ob;rcases c with c |c
 ·cases c;refine weL (weo (gK (X:=X.marked e) (u.marked (e:=e)) hg hm ?_ J)) (by intro z;cases z);refine sD (u.iz _ _ O) w rfl ?_;refine wgg ?_;refine uN F2 λR F3 S=>?_;have A:Fm G.heap.objs.size m (rX X.stack) Z R:=⟨λb o q g _=>S b o q g,λb o q g=>⟨o.slots,S b o q (.inl ?_)⟩⟩
  rotate_left
  ·have:∃o,G.heap.get? b=some o:=by
    obtain⟨_,o,B,_⟩:=d.stack.mem g;exact⟨o,B⟩
   obtain⟨o,B⟩:=this;exact wae B
  obtain⟨un3,V,J3⟩:=d.CJ (s1:={s1 with heap:=Z}) k bare M n A t;have I3:=J3 s1.toks;have Y:=gu (X:=(X.marked e).M9) (j:=jj) (pos:=p3) a {s1 with heap:=R} r m (λv C=>v=.non/\C=m) ((I3.marked (e:=e)).om _) ⟨rfl,rfl⟩;refine wcV (we3 (Nz (bO Y λv s5 ⟨y,H5,E,r5,ey,eH⟩=>?_)) TH);subst ey;subst eH;have E:=(E.gw).unmarked d.ok;refine jv E hN hi hx r5 (λs6 I6=>wco ?_) hf;exact⟨_,_,I6,hD⟩
 ·cases c;refine weL (weo (gK (X:=X.marked e) (u.marked (e:=e)) hg hm ?_ J)) (by intro z;cases z);refine zG (u.iz _ _ O) (u.iz _ _ Q) w rfl Aq hnb ?_;refine weL (weo (gK (X:=X.marked e) (u.marked (e:=e)) hg' TV ?_ T)) (by intro z;cases z);refine sD (u.iz _ _ Q) w rfl ?_;refine wgg ?_;refine uN F2 λR F3 S=>?_;have A:Fm G.heap.objs.size m (rX X.stack) Z R:=⟨λb o q g _=>S b o q g,λb o q g=>⟨o.slots,S b o q (.inl ?_)⟩⟩
  rotate_left
  ·have:∃o,G.heap.get? b=some o:=by
    obtain⟨_,o,B,_⟩:=d.stack.mem g;exact⟨o,B⟩
   obtain⟨o,B⟩:=this;exact wae B
  obtain⟨un3,V,J3⟩:=d.CJ (s1:={s1 with heap:=Z}) k bare M n A t;have I3:=J3 s1.toks;have Y:=gu (X:=(X.marked e).M9) (j:=jk) (pos:=q3) a {s1 with heap:=R} r m (λv C=>v=.non/\C=m) ((I3.marked (e:=e)).om _) ⟨rfl,rfl⟩;refine wcV (we3 (Nz (bO Y λv s5 ⟨y,H5,E,r5,ey,eH⟩=>?_)) Vp);subst ey;subst eH;have E:=(E.gw).unmarked d.ok;refine jv E hN hi hx r5 (λs6 I6=>wco ?_) hf;exact⟨_,_,I6,hD⟩
end
end L2
namespace Bs
open PySem L2 Sx
structure Oq(K:wa2)(C CB CP CS:Addr)(H:Hp)(x:Addr)(g:Str)(bw:List Str)(many:Int)(n:Nat):Prop where
 ex:∃(xb:Addr) (ss ls:List Str) (f0 f:Str->Int) (qM:List zt) (ks:List Nat) (hs:List Str) (ws:List Int) (lns:List (List (Str×Nat))) (b:Nat),aX CB H xb g bw ss ls/\Bw K C CP CS H x xb many n (cz f ls) qM ks hs ws lns b/\FZ g bw ss many n/\ui g bw ss ls many n f0/\(∀p∈ls,f p<=f0 p)/\i5 g bw ss ls many n f qM ks hs ws lns/\GC many n (fq lns ks many.toNat)/\nj bw n b
end Bs
namespace Sx
open PySem L2 Bs
inductive LX(K:wa2)(C CB CP CS:Addr)(vs:List V)(H:Hp)(Q:VK)(eE:XK):Prop
 |mk (g:Str) (a:Addr) (many:Int) (n:Nat) (bw:List Str) (_:vs=[.str g,.ref a,.int many,.int (n:Int)]) (_:aM K H a (bw.map V.str)) (_:Av g) (_:bw.length<=6) (_:(∀w∈bw,z9 g w)) (_:gA g.length many n) (_:∀(v:V) (H':Hp),a8 H H'->(v=.non\/∃x,v=.ref x/\Oq K C CB CP CS H' x g bw many n)->Q v H')
end Sx
namespace Bs
open PySem L2 Sx AC
section
variable{ws ss:List Str}{r:Str}
theorem Bx(g:ss.Perm (bQ ws "" ws))(hw:∀w∈ws,1<=w.length)(l:bears ws r=false)(w:Str):∀i,i<=w.length->bears ws (lend ss r++di w i)=bears ws (r++di w i)/\(bears ws (r++di w i)=false->lend ss (lend ss r++di w i)=lend ss (r++di w i))
 |0,_=>by
  have n:("":Str)∈ss:=g.mem_iff.mpr (cn ws);rw[take_zero,kE,kE];obtain⟨o,p⟩:=oC g hw (pf n r);exact⟨by rw[o,l],λ_=>p⟩
 |i+1,hi=>by
  obtain⟨f,j⟩:=Bx g hw l w i (by omega);have hc:(ch w)[i]?=some ((ch w)[i]'(by rw[aV];omega)):=wa1 _;generalize (ch w)[i]'(by rw[aV];omega)=c at hc;rw[take_snoc hc,<-eO,<-eO]
  cases d:bears ws (r++di w i) with
  |true=>
   have up:∀q:Str,bears ws q=true->bears ws (q++⟨#[c]⟩)=true:=λq s=>by
    cases e:bears ws (q++⟨#[c]⟩) with
    |true=>rfl
    |false=>
     have:=jC (a:=q) (b:=q++⟨#[c]⟩) (by rw[aY];exact(wdW _ _).isInfix) e;rw[s]at this;cases this
   rw[up _ d,up _ (f.trans d)];exact⟨rfl,λz=>by cases z⟩
  |false=>
   have hl:=j d;have h:=f.trans d;have t:=ky (c:=c) g d hw;have k:=ky (c:=c) g h hw;have u:=nE (c:=c) g d;have m:=nE (c:=c) g h;rw[hl]at k m;exact⟨k.symm.trans t,λ_=>m.symm.trans u⟩
theorem Ot(g:ss.Perm (bQ ws "" ws))(hw:∀w∈ws,1<=w.length)(j:bears ws r=false){w:Str}(h:bears ws (lend ss r++w)=false):bears ws (r++w)=false/\lend ss (r++w)=lend ss (lend ss r++w):=by
 obtain⟨a,b⟩:=Bx g hw j w w.length (waa _);rw[take_all]at a b;rw[h]at a;exact⟨a.symm,(b a.symm).symm⟩
end
theorem snoc_ind{α:Type}{P:List α->Prop}(h0:P [])(g:∀l a,P l->P (l++[a]))(l:List α):P l:=by
 have h:∀m:List α,P m.reverse:=λm=>by
  induction m with
  |nil=>exact h0
  |cons a m b=>rw[List.reverse_cons];exact g _ _ b
 rw[<-List.reverse_reverse l];exact h _
theorem Js(wl:List (List (Str×Nat))):∀(b:List Nat) (r:Str) (e:Nat),b.foldl (lV wl) (r,e)=(r++(b.foldl (lV wl) ("",e)).1,(b.foldl (lV wl) ("",e)).2):=by intro b;induction b<;>grind [kE,wdH,lV,wl,ue,eO]
def Jt(bw ss hk:List Str)(wl:List (List (Str×Nat))):Prop:=∀d,d<wl.length->∀q∈wl.getD d [],bears bw (hk.getD d ""++q.1)=false/\lend ss (hk.getD d ""++q.1)=hk.getD q.2 ""
theorem Gd{many:Int}{n:Nat}{bw ss hk:List Str}{wl:List (List (Str×Nat))}(g:GC many n wl)(j:ss.Perm (bQ bw "" bw))(hw:∀w∈bw,1<=w.length)(G:Jt bw ss hk wl){d:Nat}(hd:d<wl.length)(p:hk.getD d ""∈ss):∀ts:List Nat,(∀t∈ts,(t:Int)<many)->bears bw (hk.getD d ""++(cG wl d ts).1)=false/\lend ss (hk.getD d ""++(cG wl d ts).1)=hk.getD (cG wl d ts).2 "":=by
 intro ts;refine snoc_ind (P:=λ(ts:List Nat)=>(∀t∈ts,(t:Int)<many)->bears bw (hk.getD d ""++(cG wl d ts).1)=false/\lend ss (hk.getD d ""++(cG wl d ts).1)=hk.getD (cG wl d ts).2 "") ?_ ?_ ts
 ·intro _;obtain⟨c,e⟩:=oC j hw p;show bears bw (hk.getD d ""++("":Str))=false/\lend ss (hk.getD d ""++("":Str))=hk.getD d "";rw[kE];exact⟨c,e⟩
 ·intro ts t f h;obtain⟨i,k⟩:=f λx a=>h x (waU _ a);have r:=h t (waJ _ (wat.mpr rfl));obtain⟨b,_⟩:=qw g hd (ts:=ts) λx a=>h x (waU _ a);rw[yK];unfold lV;have hl:=wa9 (cW b);have m:=g.ln _ hl;have o:=wa9 (rG (l:=wl.getD (cG wl d ts).2 []) (t:=t) (by omega));obtain⟨g1,g2⟩:=G _ b _ o;rw[<-k]at g1 g2;obtain⟨c1,q⟩:=Ot j hw i g1;dsimp only;rw[<-eO];exact⟨c1,q.trans g2⟩
theorem wZ.Fh{g:Str}{bw ss ls:List Str}{n:Nat}{hs:List Str}{lns:List (List (Str×Nat))}(h:wZ (aT g bw ss ls n) hs lns)(hl:lns.length=hs.length)(j:∀p∈hs,p∈ss)(l:ss.Perm (bQ bw "" bw))(hw:∀w∈bw,1<=w.length){i:Nat}(hi:i<hs.length){q:Str×Nat}(r:q∈lns.getD i []):bears bw (hs.getD i ""++q.1)=false/\lend ss (hs.getD i ""++q.1)=hs.getD q.2 ""/\q.1∈JZ g n:=by
 have k:hs.getD i ""=hs[i]:=by rw[wa3,wa1 hi];rfl
 have m:hs[i]?=some hs[i]:=wa1 hi;have o:lns[i]?=some (lns.getD i []):=by rw[wa3,wa1 (by omega)];rfl
 have a:0<hH hs[i] (q.1,q.2) hs lns:=by
  have:=kK (z:=(q.1,q.2)) m o;have hc:0<(lns.getD i []).count (q.1,q.2):=wbZ.mpr r;omega
 rw[h hs[i] q.1 q.2]at a
 by_cases c:q.2<hs.length/\hs[i]∈hs/\(q.1,hs.getD q.2 "")∈aT g bw ss ls n hs[i]
 ·have e:=(wav.mp c.2.2).1;rw[ve l hw (j _ (waL hi))]at e;obtain⟨z,s,d⟩:=wd7.mp e;unfold kG at d;rw[k]
  by_cases b:bears bw (hs[i]++z)=true
  ·rw[if_pos b]at d;cases d
  ·rw[if_neg b]at d;have f:=wag d;have t:z=q.1:=congrArg Prod.fst f;have u:lend ss (hs[i]++z)=hs.getD q.2 "":=congrArg Prod.snd f;subst t;exact⟨by simpa using b,u,s⟩
 ·rw[if_neg c]at a;omega
noncomputable def oU(hs:List Str)(ks:List Nat):List Str:=ks.map λd=>hs.getD d ""
theorem jR{hs:List Str}{g:List Nat}{i:Nat}(hi:i<g.length):(oU hs g).getD i ""=hs.getD g[i] "":=by
 unfold oU;rw[wa3,wa4,wa1 hi];rfl
theorem i5.steps{g:Str}{bw ss ls:List Str}{many:Int}{n:Nat}{f:Str->Int}{r:List zt}{j:List Nat}{hs:List Str}{ws:List Int}{lns:List (List (Str×Nat))}(P:i5 g bw ss ls many n f r j hs ws lns)(C:ss.Perm (bQ bw "" bw))(hw:∀w∈bw,1<=w.length)(t:∀p∈ls,p∈ss)(m:Nat){d:Nat}(hd:d<j.length):j[d]<hs.length/\∀q∈(fq lns j m).getD d [],∃e,(q.1,e)∈lns.getD j[d] []/\e∈j/\q.2=j.idxOf e/\bears bw (hs.getD j[d] ""++q.1)=false/\lend ss (hs.getD j[d] ""++q.1)=hs.getD e ""/\q.1∈JZ g n:=by
 have hk:=(P.ko.st j[d] (waL hd)).1;rw[P.b.l]at hk;refine⟨hk,λq c=>?_⟩
 have i:(fq lns j m).getD d []=gb j m (lns.getD j[d] []):=by
  unfold fq;rw[wa3,wa4,wa1 hd];rfl
 rw[i]at c;unfold gb at c;obtain⟨z,k,rfl⟩:=wab.mp c;have a:=wav.mp ((wbi _ _).subset k);obtain⟨c1,o,s⟩:=P.cv.Fh P.b.l (λp h=>t p (P.sb p h)) C hw hk a.1;exact⟨z.2,a.1,of_decide_eq_true a.2,rfl,c1,o,s⟩
theorem i5.Fh{g:Str}{bw ss ls:List Str}{many:Int}{n:Nat}{f:Str->Int}{l:List zt}{j:List Nat}{hs:List Str}{ws:List Int}{lns:List (List (Str×Nat))}(P:i5 g bw ss ls many n f l j hs ws lns)(t:ss.Perm (bQ bw "" bw))(hw:∀w∈bw,1<=w.length)(r:∀p∈ls,p∈ss)(m:Nat):Jt bw ss (oU hs j) (fq lns j m):=by
 intro d hd q i
 have a:d<j.length:=by
  unfold fq at hd;rwa[wa0]at hd
 obtain⟨hk,h⟩:=P.steps t hw r m a;obtain⟨e,o,b,c,c1,k,_⟩:=h q i;have hi:=wc0.mpr b;rw[jR a,c,jR hi,wdZ hi];exact⟨c1,k⟩
end Bs
namespace Bs
open PySem L2 Sx
theorem w4{p:Str}{z:Str×Nat}:∀{hs:List Str} {lns:List (List (Str×Nat))} {i j:Nat} {l m:List (Str×Nat)},i<j->hs[i]?=some p->hs[j]?=some p->lns[i]?=some l->lns[j]?=some m->l.count z+m.count z<=hH p z hs lns
 |[],_,_,_,_,_,_,h,_,_,_=>nomatch h
 |_,[],_,_,_,_,_,_,_,h,_=>nomatch h
 |h::hs,k::lns,0,j+1,l,m,_,a,b,c,d=>by
  cases a;cases c;have:=kK (z:=z) (p:=p) (hs:=hs) (lns:=lns) (i:=j) (by simpa using b) (by simpa using d);show _<=(if p=p then k.count z else 0)+_;rw[if_pos rfl];omega
 |h::hs,k::lns,i+1,j+1,l,m,q,a,b,c,d=>by
  have:=w4 (z:=z) (hs:=hs) (lns:=lns) (i:=i) (j:=j) (l:=l) (m:=m) (by omega) (by simpa using a) (by simpa using b) (by simpa using c) (by simpa using d);show _<=(if h=p then k.count z else 0)+_;omega
theorem getD_some{α:Type}{l:List α}{i:Nat}(x:α)(h:i<l.length):l[i]?=some (l.getD i x):=by
 rw[wa3,wa1 h];rfl
theorem wZ.most{B:Str->List (Str×Str)}{hs:List Str}{lns:List (List (Str×Nat))}(h:wZ B hs lns)(p:Str)(z:Str×Nat):hH p z hs lns<=1:=by
 have:=h p z.1 z.2;rw[show (z.1,z.2)=z from rfl]at this;rw[this];split<;>omega
theorem wZ.one{B:Str->List (Str×Str)}{hs:List Str}{lns:List (List (Str×Nat))}(h:wZ B hs lns)(hl:lns.length=hs.length){d d':Nat}(hd:d<hs.length)(g:d'<hs.length)(e:hs.getD d ""=hs.getD d' ""){q:Str×Nat}(j:q∈lns.getD d [])(l:q∈lns.getD d' []):d=d':=by
 have c1:=wbZ.mpr j;have f:=wbZ.mpr l;have a:=getD_some ("":Str) hd;have b:=getD_some ("":Str) g;rw[<-e]at b;have m:=h.most (hs.getD d "") q;have l1:=getD_some [] (show d<lns.length by omega);have c:=getD_some [] (show d'<lns.length by omega);rcases wfg d d' with z |z |z
 ·have:=w4 (z:=q) z a b l1 c;omega
 ·exact z
 ·have:=w4 (z:=q) z b a c l1;omega
theorem wZ.cnt{B:Str->List (Str×Str)}{hs:List Str}{lns:List (List (Str×Nat))}(h:wZ B hs lns)(hl:lns.length=hs.length){d:Nat}(hd:d<hs.length)(q:Str×Nat):(lns.getD d []).count q<=1:=
 waj (kK (getD_some ("":Str) hd) (getD_some [] (show d<lns.length by omega))) (h.most _ q)
def jS(lns:List (List (Str×Nat))):Nat->List Str->Prop
 |_,[]=>True
 |d,w::ws=>∃e,(w,e)∈lns.getD d []/\jS lns e ws
def Ge(hs:List Str)(lns:List (List (Str×Nat)))(s:Nat):Prop:=∀d d' ws,d<lns.length->d'<lns.length->hs.getD d ""=hs.getD d' ""->ws.length=s->jS lns d ws->jS lns d' ws->d=d'
noncomputable def tQ(d t e:Nat):Nat:=if e=t then d else e
theorem w5{l:List (Str×Nat)}{w:Str}{d t e:Nat}(hl:∀q∈l,q.2<t)(h:(w,e)∈eS d t l):(w,tQ d t e)∈l:=by
 unfold eS at h;obtain⟨q,a,h⟩:=wcB.mp h;have:=hl q a;unfold tQ
 by_cases c:q.2=d
 ·rw[if_pos c]at h;rcases waC.mp h with z |z
  ·rw[<-z]at a this;rw[if_neg (show ¬e=t from war this)];exact a
  ·have z:=wat.mp z;obtain⟨rfl,rfl⟩:=wc9 z;rw[if_pos rfl,<-c];exact a
 ·rw[if_neg c]at h;have z:=wat.mp h;rw[<-z]at a this;rw[if_neg (show ¬e=t from war this)];exact a
theorem Gf{lns:List (List (Str×Nat))}{d i:Nat}{ns:List Int}(hd:d<lns.length)(hi:i<lns.length+1):(dN lns d ns).getD i []=eS d lns.length (if i=d then aZ ns (lns.getD d []) else if i=lns.length then aW ns (lns.getD d []) else lns.getD i []):=by
 unfold dN;rw[wa3,wa4,List.getElem?_set]
 by_cases a:i=d
 ·subst a;rw[if_pos rfl,if_pos rfl,if_pos (by rw[wa5];omega)];rfl
 ·rw[if_neg (λz=>a z.symm),if_neg a]
  by_cases b:i=lns.length
  ·subst b;rw[if_pos rfl,waD (waa _),wbC];rfl
  ·rw[if_neg b,waF (by omega),getD_some [] (show i<lns.length by omega)];rfl
theorem nG{lns:List (List (Str×Nat))}{d i e:Nat}{ns:List Int}{w:Str}(hd:d<lns.length)(hi:i<lns.length+1)(p:∀l∈lns,∀q∈l,q.2<lns.length)(h:(w,e)∈(dN lns d ns).getD i []) :
 (w,tQ d lns.length e)∈lns.getD (tQ d lns.length i) []/\(i=d->(w,tQ d lns.length e)∈aZ ns (lns.getD d []))/\(i=lns.length->(w,tQ d lns.length e)∈aW ns (lns.getD d [])):=by
 have g:∀j,∀q∈lns.getD j [],q.2<lns.length:=λj q f=>by
  by_cases z:j<lns.length
  ·exact p _ (wa9 (getD_some [] z)) q f
  ·rw[wa3,wck (by omega)]at f;cases f
 rw[Gf hd hi]at h
 by_cases a:i=d
 ·rw[if_pos a]at h;have c:=w5 (λq f=>g d q (dX f)) h;refine⟨?_,λ_=>c,λz=>absurd z (by omega)⟩;have:tQ d lns.length i=d:=by unfold tQ;rw[if_neg (by omega)];exact a
  rw[this];exact dX c
 ·rw[if_neg a]at h
  by_cases b:i=lns.length
  ·rw[if_pos b]at h;have c:=w5 (λq f=>g d q (dX f)) h;refine⟨?_,λz=>absurd z a,λ_=>c⟩;have:tQ d lns.length i=d:=by unfold tQ;rw[if_pos b]
   rw[this];exact dX c
  ·rw[if_neg b]at h;refine⟨?_,λz=>absurd z a,λz=>absurd z b⟩;have:tQ d lns.length i=i:=by unfold tQ;rw[if_neg b]
   rw[this];exact w5 (g i) h
theorem rK{lns:List (List (Str×Nat))}{d i e:Nat}{ns:List Int}{w:Str}(hd:d<lns.length)(hi:i<lns.length+1)(g:∀l∈lns,∀q∈l,q.2<lns.length)(h:(w,e)∈(dN lns d ns).getD i []):e<lns.length+1:=by
 have a:=(nG hd hi g h).1
 by_cases z:e=lns.length
 ·omega
 ·have:tQ d lns.length e=e:=by unfold tQ;rw[if_neg z]
  rw[this]at a;have b:tQ d lns.length i<lns.length:=by unfold tQ;split<;>omega
  have:=g _ (wa9 (getD_some [] b)) _ a;have:e<lns.length:=this;omega
theorem zH{lns:List (List (Str×Nat))}{d:Nat}{ns:List Int}(hd:d<lns.length)(g:∀l∈lns,∀q∈l,q.2<lns.length):∀(ws:List Str) (i:Nat),i<lns.length+1->jS (dN lns d ns) i ws->jS lns (tQ d lns.length i) ws
 |[],_,_,_=>trivial
 |w::ws,i,hi,⟨e,h,r⟩=>⟨tQ d lns.length e,(nG hd hi g h).1,zH hd g ws e (rK hd hi g h) r⟩
theorem Gg{hs:List Str}{d i:Nat}(hi:i<hs.length+1):(cR hs d).getD i ""=hs.getD (tQ d hs.length i) "":=by
 unfold cR tQ;rw[wa3]
 by_cases z:i=hs.length
 ·rw[if_pos z,z,waD (waa _),wbC];rfl
 ·rw[if_neg z,waF (by omega),getD_some ("":Str) (show i<hs.length by omega)];rfl
theorem Ge.split{B:Str->List (Str×Str)}{hs:List Str}{lns:List (List (Str×Nat))}{m d:Nat}{F:Str->Str->Str}(D:Ge hs lns m)(C:wZ B hs lns)(hl:lns.length=hs.length)(g:∀l∈lns,∀q∈l,q.2<hs.length)(hd:d<hs.length)(I:∀i,i<hs.length->∀q∈lns.getD i [],hs.getD q.2 ""=F (hs.getD i "") q.1)(ns:List Int):Ge (cR hs d) (dN lns d ns) (m+1):=by
 intro i j f hi b o a r s;have sl:(dN lns d ns).length=lns.length+1:=by unfold dN;rw[wa0,wcq,wa5];rfl
 rw[sl]at hi b;rw[<-hl]at g hd;have H:=λk (hk:k<lns.length+1)=>Gg (hs:=hs) (d:=d) (i:=k) (by omega)
 cases f with
 |nil=>cases a
 |cons w f=>
  obtain⟨e,v,p⟩:=r;obtain⟨z,A,t⟩:=s;obtain⟨a1,a2,a3⟩:=nG hd hi g v;obtain⟨b1,E,G⟩:=nG hd b g A;have p:=zH hd g f e (rK hd hi g v) p;have t:=zH hd g f z (rK hd b g A) t;rw[H i hi,H j b,<-hl]at o;have lt:∀k,k<lns.length+1->tQ d lns.length k<lns.length:=λk hk=>by unfold tQ;split<;>omega
  have J:=I _ (by have:=lt i hi;omega) _ a1;have L:=I _ (by have:=lt j b;omega) _ b1;have M:=g _ (wa9 (getD_some [] (lt i hi))) _ a1;have N:=g _ (wa9 (getD_some [] (lt j b))) _ b1;have u:=D _ _ f M N (by rw[J,L,o]) (wh7 a) p t;have u:tQ d lns.length e=tQ d lns.length z:=u;rw[<-u]at b1 E G;have c:=C.one hl (by have:=lt i hi;omega) (by have:=lt j b;omega) o a1 b1
  have hc:∀{q},q∈aZ ns (lns.getD d [])->q∈aW ns (lns.getD d [])->False:=λ{q} x y=>by
   have c1:=wbZ.mpr x;have O:=wbZ.mpr y;have:=C.cnt hl (by omega:d<hs.length) q;have:=oF (λi=>decide ((i:Int)∈ns)) q 0 (lns.getD d []);unfold aZ at c1;unfold aW at O;omega
  unfold tQ at c
  by_cases n:i=lns.length
  ·by_cases h:j=lns.length
   ·omega
   ·rw[if_pos n,if_neg h]at c;exact(hc (E c.symm) (a3 n)).elim
  ·by_cases h:j=lns.length
   ·rw[if_neg n,if_pos h]at c;exact(hc (a2 c) (G h)).elim
   ·rw[if_neg n,if_neg h]at c;exact c
theorem i5.det{g:Str}{bw ss ls:List Str}{many:Int}{n:Nat}{f:Str->Int}{j:List zt}{I:List Nat}{hs:List Str}{ws:List Int}{lns:List (List (Str×Nat))}(P:i5 g bw ss ls many n f j I hs ws lns)(nd:(ch g).Nodup)(C:ss.Perm (bQ bw "" bw))(hw:∀w∈bw,1<=w.length)(t:∀p∈ls,p∈ss)(hl:ls.Nodup):Ge hs lns j.length:=by
 have key:∀{j hs ws lns},Runs many (ao ls f) ((ao ls f).map f) (bB g bw ss ls n (ao ls f)) j hs ws lns->fo g bw ss ls many n f j hs ws lns/\Ge hs lns j.length:=by
  intro j hs ws lns h
  induction h with
  |nil=>
   refine⟨fo.start nd C hw t hl P.nn P.fit,λd o ws a b e _ _ _=>?_⟩;have hn:(ao ls f).Nodup:=hl.filter _;have c:(bB g bw ss ls n (ao ls f)).length=(ao ls f).length:=by unfold bB;rw[wa0]
   rw[c]at a b;rw[wa3,wa3,wa1 a,wa1 b]at e;exact(wcg hn).mp e
  |@snoc l hs ws lns d ns w r ok k=>
   obtain⟨L,D⟩:=k;refine⟨L.step ok,?_⟩;rw[wa5];exact D.split L.cv L.b.l L.b.e (L.b.split ok).2 (F:=λp w=>lend ss (p++w)) (λi hi q m=>((L.cv.Fh L.b.l (λp h=>t p (L.sb p h)) C hw hi m).2.1).symm) _
 exact(key P.rn).2
theorem MN{lns:List (List (Str×Nat))}{g:List Nat}{m d:Nat}(hd:d<g.length):(fq lns g m).getD d []=gb g m (lns.getD (g.getD d 0) []):=by
 unfold fq;rw[wa3,wa4,getD_some 0 hd];rfl
theorem w6(lns:List (List (Str×Nat)))(g:List Nat)(m:Nat):(fq lns g m).length=g.length:=wa0 ..
theorem Ju{lns:List (List (Str×Nat))}{g:List Nat}{m d:Nat}{q:Str×Nat}(h:q∈(fq lns g m).getD d []):d<g.length:=by
 refine wcl λz=>?_;rw[wa3,wck (by rw[w6];omega)]at h;cases h
theorem zI{lns:List (List (Str×Nat))}{g:List Nat}{m d e:Nat}{w:Str}(h:(w,e)∈(fq lns g m).getD d []):e<g.length/\(w,g.getD e 0)∈lns.getD (g.getD d 0) []:=by
 rw[MN (Ju h)]at h;unfold gb at h;obtain⟨q,b,c⟩:=wab.mp h;obtain⟨f,a⟩:=wav.mp (wc2 b);have a:=of_decide_eq_true a;obtain⟨rfl,rfl⟩:=wc9 c;have hl:=wc0.mpr a;refine⟨hl,?_⟩;have:g.getD (g.idxOf q.2) 0=q.2:=by rw[wa3,wa1 hl];exact wdZ hl
 rw[this];exact f
theorem zJ{lns:List (List (Str×Nat))}{g:List Nat}{m:Nat}:∀(ws:List Str) (d:Nat),jS (fq lns g m) d ws->jS lns (g.getD d 0) ws
 |[],_,_=>trivial
 |_::ws,_,⟨e,h,r⟩=>⟨g.getD e 0,(zI h).2,zJ ws e r⟩
theorem yM:∀{l:List (Str×Nat)},(∀q,l.count q<=1)->l.Nodup
 |[],_=>wdn
 |a::l,h=>by
  refine wbF.mpr ⟨λz=>?_,yM λq=>waj (List.count_le_count_cons ..) (h q)⟩;have b:=h a;rw[List.count_cons_self]at b;have:=wbZ.mpr z;omega
structure yN(bw ss hk:List Str)(wl:List (List (Str×Nat)))(s:Nat):Prop where
 det:Ge hk wl s
 go:Jt bw ss hk wl
 inj:∀(d i j:Nat) (z:Str×Nat),(wl.getD d [])[i]?=some z->(wl.getD d [])[j]?=some z->i=j
 e:∀(d:Nat),∀q∈wl.getD d [],q.2<wl.length
theorem i5.read{g:Str}{bw ss ls:List Str}{many:Int}{n:Nat}{f:Str->Int}{I:List zt}{t:List Nat}{hs:List Str}{ws:List Int}{lns:List (List (Str×Nat))}(P:i5 g bw ss ls many n f I t hs ws lns)(nd:(ch g).Nodup)(J:ss.Perm (bQ bw "" bw))(hw:∀w∈bw,1<=w.length)(C:∀p∈ls,p∈ss)(hl:ls.Nodup)(m:Nat):yN bw ss (oU hs t) (fq lns t m) I.length:=by
 have D:=P.det nd J hw C hl;have E:t.Nodup:=P.ko.ab.sub.nodup wfF;have s:∀{d},d<t.length->t.getD d 0<lns.length:=λ{d} hd=>(P.ko.st _ (wa9 (getD_some 0 hd))).1;refine⟨λd S G a b e l r H=>?_,P.Fh J hw C m,λd i j z c k=>?_,λd q u=>?_⟩
 ·rw[w6]at a b
  have h:=D _ _ G (s a) (s b) (by
   have v:=jR (hs:=hs) a;have A:=jR (hs:=hs) b;rw[v,A]at e;rw[wa3 (l:=t),wa1 a,wa3 (l:=t),wa1 b]
   exact e) l (zJ _ _ r) (zJ _ _ H)
  rw[wa3,wa1 a,wa3,wa1 b]at h;exact(wcg E).mp h
 ·have hd:=Ju (wa9 c);rw[MN hd]at c k;have o:(lns.getD (t.getD d 0) []).Nodup:=yM λq=>P.cv.cnt P.b.l (by have:=s hd;have:=P.b.l;omega) q;generalize lns.getD (t.getD d 0) []=B at c k o;have nt:((cS t B).take m).Nodup:=(o.filter _).sublist (wbi _ _);have mem:∀q∈(cS t B).take m,q.2∈t:=λq u=>of_decide_eq_true (wav.mp (wc2 u)).2;unfold gb at c k;generalize (cS t B).take m=l at c k nt mem;rw[wa4]at c k;obtain⟨p,c,v⟩:=wdi.mp c;obtain⟨q,k,A⟩:=wdi.mp k;have L:=v.trans A.symm;obtain⟨a,b⟩:=wc9 L;have M:=wc0.mpr (mem p (wa9 c));have N:=wc0.mpr (mem q (wa9 k))
  have b:p.2=q.2:=by
   have x:=wdZ M;have y:=wdZ N;rw[<-x,<-y];congr 1
  have O:p=q:=wec a b;rw[<-O]at k;obtain⟨T,Q⟩:=wa6.mp c;obtain⟨U,R⟩:=wa6.mp k;exact(wcg nt).mp (Q.trans R.symm)
 ·rw[w6];exact(zI (w:=q.1) (e:=q.2) u).1
theorem nH{wl:List (List (Str×Nat))}:∀(k:Nat) (ws:List Str) (d:Nat),jS wl d ws->jS wl d (ws.take k)
 |0,_,_,_=>trivial
 |_+1,[],_,_=>trivial
 |k+1,_::ws,_,⟨e,h,r⟩=>⟨e,h,nH k ws e r⟩
theorem yN.one{bw ss hk:List Str}{wl:List (List (Str×Nat))}{s:Nat}(R:yN bw ss hk wl s){d d' i l e g:Nat}{w:Str}{us:List Str}(hd:d<wl.length)(j:d'<wl.length)(r:hk.getD d ""=hk.getD d' "")(t:(wl.getD d [])[i]?=some (w,e))(p:(wl.getD d' [])[l]?=some (w,g))(hl:us.length=s)(C:jS wl e us)(I:jS wl g us):i=l:=by
 have m1:=wa9 t;have c:=wa9 p;have a:=(R.go d hd _ m1).2;have b:=(R.go d' j _ c).2
 have f:e=g:=R.det e g us (R.e d _ m1) (R.e d' _ c) (by
  show hk.getD (w,e).2 ""=hk.getD (w,g).2 ""
  rw[<-a,<-b,r]) hl C I
 have h:=nH s (w::us) d ⟨e,m1,C⟩;have k:=nH s (w::us) d' ⟨g,c,I⟩;have m:=R.det d d' _ hd j r (by rw[wak,waK];omega) h k;rw[<-f,<-m]at p;exact R.inj d i l _ t p
end Bs
namespace L2
open PySem PySem.Spec PyProof.Rows
inductive Vq(a:Addr)(y z:V)(H:Hp)(Q:VK):Prop
 |mk (kvs k) (_:H a=some (.dK kvs)) (_:y=kV k) (_:(putK kvs k z).length<=sizeLine) (_:∀v,bA kvs k=some v->Q v H) (_:bA kvs k=none->Q z (upd H a (.dK (putK kvs k z))))
def RK(td ty tx:TE):TE:=λσ H Q=>td σ H λx H1=>∃a,x=.ref a/\Tz H1 a/\ty σ H1 λy H2=>tx σ H2 λz H3=>Vq a y z H3 Q
section
variable{X:Cx}{o e f:Expr}{apos eX:Pos}{td ty tx:TE}
theorem w9(t:PE X o td)(C:PE X e ty)(J:PE X f tx)(m:M2 X o "setdefault" apos e f eX):PE X (.Call (.Attribute o "setdefault" apos) [e,f] [] eX) (RK td ty tx):=by
 intro b s σ H Q I h;refine wpAny_Call_method m.base m.few m.line wcv weQ PySem.F.type_dict_setdefault (bO (t b s σ H _ I h) λu A ⟨x,B,j,D,a,ex,d,E⟩=>?_);subst ex;obtain rfl:u=wan a:=D;obtain⟨G,L,_⟩:=Ho j d;refine⟨G,L,?_⟩;rw[m.trees]
 refine wdk rfl (weu (wd9 (bO (C b A σ B _ j E) λiv M ⟨y,N,O,R,S⟩=>
  wd9 (bO (J b M σ N _ O S) λT s3 ⟨z,U,i,l,V⟩=>wf8 ?_))))
 obtain⟨c,k,n,Y,Z,qa,qb⟩:=V;subst Y;obtain⟨z0,hd,vs,rel,p⟩:=p8 i.b4 n;refine wex weQ p.typeIs PySem.F.entry_dict_setdefault (PySem.F.args_dict_setdefault_3 _ _ _) (kt_meets_setdefault (bc X.prog X.w) a (sf R) hd T) ⟨vs,p,by rw[<-rel.length];exact z0,λv hv=>?_,λhn h' g hs=>?_⟩
 ·have r:=rel.val k;rw[hv]at r
  cases q:bA c k with
  |none=>rw[q]at r;exact(show False from r).elim
  |some x=>rw[q]at r;exact⟨x,U,i.tok _,r,qa x q⟩
 ·have r:=rel.val k;rw[hn]at r
  have q:bA c k=none:=by
   cases q:bA c k with
   |none=>rfl
   |some x=>rw[q]at r;exact(show False from r).elim
  have hx:∃q,h'.get? a=some q:=let ⟨q,_,_,hq,_⟩:=g;⟨q,hq⟩
  exact⟨z,_,ua i (by rw[n];exact wbu) hs hx (Cj Z hd (rel.put k l) g),l,qb q⟩
end
noncomputable def Ou(K:wa2)(a:Addr)(n:Nat):It:=
 ⟨λi H=>∃xs x,aM K H a xs/\xs.length=n/\i<n/\xs[n-1-i]?=some x,λi H x H'=>H'=H/\∀xs,aM K H a xs->xs[n-1-i]?=some x,λi _=>i=n⟩
theorem Jv(K:wa2)(a:Addr)(xs:List V):lY (Ou K a xs.length) (λH=>aM K H a xs) xs.reverse:=
 ⟨λi H q hi=>⟨xs,xs[xs.length-1-i]'(by rw[wcA]at hi;omega),q,rfl,by rwa[wcA]at hi,wa1 _⟩,λi H x b q hi y=>⟨y.1,by rw[wgy (by rwa[wcA]at hi)];exact y.2 xs q⟩,λH _=>wcA ..⟩
theorem Jw{P:wau}{w:World}{K:wa2}{J:Expr}(a it:Addr)(n:Nat):Turn P w K J (Ou K a n) [it] it (λi h=>h.IsRevIter it a ((n:Int)-1-(i:Int))) where
 mem:=by simp
 obj:=λi h st b j=>by
  have e:b=it:=by simpa using j
  subst e;obtain⟨o,e,c,d⟩:=st;exact⟨o,e,λv z=>by rw[d]at z;cases z⟩
 keep:=λi h l st k=>st.at λo e=>k it (by simp) o e
 item:=by
  intro X r hw t hc i g s σ H E I m st q;subst r hw t;obtain⟨V,x,D,hn,hi,G⟩:=q;obtain⟨L,M,p,Y⟩:=I.list D;obtain⟨u,N,O⟩:=M.get G;obtain⟨y,f1,f2,A,B,C⟩:=m it (by simp);have Q:(n:Int)-1-(i:Int)=((n-1-i:Nat):Int):=by omega
  have f:s.heap.IsRevIter it a ((n-1-i:Nat):Int):=by rw[<-Q];exact st
  refine wpAny_pyNext_rev_item f p.isList (x:=u) (by simpa using N) λl f sb=>?_;have R:((n-1-i:Nat):Int)-1=(n:Int)-1-((i+1:Nat):Int):=by omega
  rw[R]at f;have S:Inv X g σ H {s with heap:=l}:=I.turned (t':=s.toks) (λb o j e=>(sb.2 b j).trans e) y f1 A B C;obtain⟨o,e,c,d⟩:=id f;exact⟨u,rfl,xJ (s:={s with heap:=l}) e c d (by decide) ⟨x,H,S,O,⟨rfl,λZ T=>by rw[I.p0 T D];exact G⟩,f,λb j=>(m b j).1⟩⟩
 done:=by
   intro X r hw t hc i g s σ H E I m st q;subst r hw t;have q:i=n:=q;obtain⟨y,f1,f2,A,B,C⟩:=m it (by simp);have f:s.heap.IsRevIter it a (-1):=by rw[show (-1:Int)=(n:Int)-1-(i:Int) by omega];exact st
   exact wpAny_pyNext_rev_end (I.ok.hd hc) f λl U=>⟨rfl,I.turned (t':=s.toks) (λb o j e=>U b o j e) y f1 A B C⟩
 self:=λ_ _ _ _ _ st h=>wgL st h
inductive Vr(K:wa2)(vs:List V)(H:Hp)(R:It->Hp->Prop):Prop
 |mk (a xs) (_:vs=[.ref a]) (_:aM K H a xs) (_:R (Ou K a xs.length) H)
def Vs(K:wa2)(ta:TA):TI:=λσ H R=>ta σ H λvs H1=>Vr K vs H1 R
theorem Ov{X:Cx}{tg l:Expr}{ta:TA}{p pos:Pos}(hg:Gl X "reversed")(hm:X.mg "reversed"=none)(ha:PA X [l] ta)(hs:starEach [l] X.env=[(false,eval l X.env)]:=by rfl) :
 PI X tg (.Call (.Name "reversed" p) [l] [] pos) (Vs X.K ta):=by
 intro pins s σ H R I h;refine Call_ (gv I hg hm PyProof.Rows.boot_reversed (wbr (bO (ha pos pins s σ H _ I h) λus s1 ⟨vs,H1,I1,r1,q1⟩=>?_) hs rfl));obtain⟨a,xs,e,hq,q⟩:=q1;subst e;obtain⟨u,rfl,ru⟩:=vals1 r1;cases ru;obtain⟨its,rv,pl,hz⟩:=I1.list hq;have hl:its.toArray.size=xs.length:=by rw[waE];exact rv.length.symm
 refine call_reversed_list pl.isList ?_
 have hit:(s1.heap.push (revObj a ((its.toArray.size:Int)-1))).IsRevIter s1.heap.objs.size a ((xs.length:Int)-1-((0:Nat):Int)):=by
  refine⟨_,waq _ rfl,rfl,?_⟩;show wdC _=_;rw[hl];rw[show (xs.length:Int)-1-((0:Nat):Int)=(xs.length:Int)-1 by omega]
 refine wgL hit ?_;refine⟨s1.heap.objs.size,[s1.heap.objs.size],_,_,H1,rfl,I1.kept (t':=s1.toks) λb o e=>wa8 _ e,Jw a _ _,hit,λb hb=>?_,q⟩;have e:b=s1.heap.objs.size:=by simpa using hb
 subst e;exact I1.wK (waa _) (I1.b4.fresh (waa _))
end L2
namespace Bs
open PySem L2 Sx
noncomputable def cat:List Str->Str
 |[]=>""
 |w::ws=>w++cat ws
theorem Jx:∀ws:List Str,ch (cat ws)=(ws.map ch).flatten
 |[]=>rfl
 |w::ws=>by
  show ch (w++cat ws)=_;rw[aY,Jx ws,waz,wc5]
theorem gf{n:Nat}:∀{ws:List Str},(∀w∈ws,w.length=n)->(cat ws).length=n*ws.length
 |[],_=>rfl
 |w::ws,h=>by
  show (w++cat ws).length=_;rw[len_app,gf λx a=>h x (wac _ a),h w (waf ..),waK,weS,Nat.mul_one,wh6]
theorem qz:∀a b:List Str,cat (a++b)=cat a++cat b
 |[],b=>(ue _).symm
 |w::a,b=>by
  show w++cat (a++b)=w++cat a++cat b;rw[qz a b,eO]
theorem By{n:Nat}{ws:List Str}(h:∀w∈ws,w.length=n)(i:Nat):(ch (cat ws)).drop (n*i)=ch (cat (ws.drop i)):=by
 by_cases c:i<=ws.length
 ·have e:ch (cat ws)=ch (cat (ws.take i))++ch (cat (ws.drop i)):=by rw[<-aY,<-qz,wbT]
  have hl:(ch (cat (ws.take i))).length=n*i:=by rw[aV,gf λw hw=>h w (wc2 hw),wak,wdI c]
  rw[e,wcu (by omega),<-hl,whG,wdJ]
 ·rw[wby (show ws.length<=i by omega),wby]
  ·rfl
  ·rw[aV,gf h];exact wc7 _ (by omega)
theorem Bz{n:Nat}{ws:List Str}(h:∀w∈ws,w.length=n)(i:Nat):(ch (cat ws)).take (n*i)=ch (cat (ws.take i)):=by
 by_cases c:i<=ws.length
 ·have e:ch (cat ws)=ch (cat (ws.take i))++ch (cat (ws.drop i)):=by rw[<-aY,<-qz,wbT]
  have hl:(ch (cat (ws.take i))).length=n*i:=by rw[aV,gf λw hw=>h w (wc2 hw),wak,wdI c]
  rw[e,List.take_append_of_le_length (by omega),<-hl,waI]
 ·rw[wbd (show ws.length<=i by omega),wbd];rw[aV,gf h];exact wc7 _ (by omega)
theorem Gh(x:Str){i j:Nat}(h:i<=j)(g:j<=x.length):ch (wb0 x (some (i:Int)) (some (j:Int)))=((ch x).take j).drop i:=by
 rw[me,StrLaws.sliceText_nat x h g,wgw]
theorem zK{n:Nat}{ws:List Str}(h:∀w∈ws,w.length=n){i j:Nat}(g:i<=j)(l:j<=ws.length):wb0 (cat ws) (some ((n*i:Nat):Int)) (some ((n*j:Nat):Int))=cat ((ws.take j).drop i):=by
 refine cI ?_;rw[Gh _ (wc7 _ g) (by rw[gf h];exact wc7 _ l),Bz h,By λw hw=>h w (wc2 hw)]
theorem Ow{n:Nat}{ws:List Str}(h:∀w∈ws,w.length=n)(j:Nat):wb0 (cat ws) none (some ((n*j:Nat):Int))=cat (ws.take j):=by
 refine cI ?_;rw[Au,Bz h]
theorem Jy{n:Nat}{ws:List Str}(h:∀w∈ws,w.length=n)(j:Nat):wb0 (cat ws) (some ((n*j:Nat):Int)) none=cat (ws.drop j):=by
 refine cI ?_;rw[ow,By h]
theorem ED(w:Str):cat [w]=w:=kE w
noncomputable def gg(wl:List (List (Str×Nat)))(d t:Nat):Str×Nat:=(wl.getD d []).getD t ("",0)
noncomputable def eK(wl:List (List (Str×Nat))):Nat->List Nat->List Str
 |_,[]=>[]
 |d,t::ts=>(gg wl d t).1::eK wl (gg wl d t).2 ts
noncomputable def qA(wl:List (List (Str×Nat))):Nat->List Nat->Nat
 |d,[]=>d
 |d,t::ts=>qA wl (gg wl d t).2 ts
theorem lA(wl:List (List (Str×Nat))):∀(ts:List Nat) (d:Nat),cG wl d ts=(cat (eK wl d ts),qA wl d ts)
 |[],_=>rfl
 |t::ts,d=>by
  have h:=lA wl ts (gg wl d t).2;unfold cG at h ⊢;rw[wdH,show lV wl ("",d) t=(("":Str)++(gg wl d t).1,(gg wl d t).2) from rfl,ue,Js,h];rfl
theorem jT(wl:List (List (Str×Nat))):∀(ts:List Nat) (d:Nat),(eK wl d ts).length=ts.length
 |[],_=>rfl
 |_::ts,_=>congrArg (· + 1) (jT wl ts _)
theorem step_at{many:Int}{n:Nat}{wl:List (List (Str×Nat))}(g:GC many n wl){d t:Nat}(hd:d<wl.length)(j:(t:Int)<many):(wl.getD d [])[t]?=some (gg wl d t):=by
 have:=g.ln _ (wa9 (cW hd));exact rG (by omega)
theorem we{many:Int}{n:Nat}{wl:List (List (Str×Nat))}(g:GC many n wl):∀(ts:List Nat) (d:Nat),d<wl.length->(∀t∈ts,(t:Int)<many)->(∀w∈eK wl d ts,w.length=n)/\jS wl d (eK wl d ts)/\qA wl d ts<wl.length
 |[],d,hd,_=>⟨(λw h=>nomatch h),trivial,hd⟩
 |t::ts,d,hd,h=>by
  have f:=wa9 (step_at g hd (h t (waf ..)));have hl:=wa9 (cW hd);obtain⟨a,b,c⟩:=we g ts (gg wl d t).2 (g.e _ hl _ f) λx i=>h x (wac _ i);refine⟨λw hw=>?_,⟨_,f,b⟩,c⟩;rcases waC.mp hw with rfl |hw
  ·exact g.wd _ hl _ f
  ·exact a w hw
theorem Gi{ss:List Str}{a p:Str}(l:("":Str)∈ss)(h:∀s∈ss,s.length<=p.length):lend ss (a++p)=lend ss p:=by
 have key:∀r:Str,∃k,k<=r.length/\lend ss r=d9 r k/\d9 r k∈ss/\∀m,m<k->d9 r m∉ss:=by
  intro r
  have i:∃k,k<=r.length/\d9 r k∈ss/\∀m,m<k->d9 r m∉ss:=by
   have:∀j,j<=r.length->(∃k,k<=j/\d9 r k∈ss)->∃k,k<=j/\d9 r k∈ss/\∀m,m<k->d9 r m∉ss:=by
    intro j
    induction j with
    |zero=>rintro _ ⟨k,hk,f⟩;exact⟨k,hk,f,λm d=>absurd d (by omega)⟩
    |succ j n=>
     rintro w ⟨k,hk,f⟩
     by_cases c:∃k,k<=j/\d9 r k∈ss
     ·obtain⟨k,a,b⟩:=n (by omega) c;exact⟨k,by omega,b⟩
     ·exact⟨k,hk,f,λm d z=>c ⟨m,by omega,z⟩⟩
   obtain⟨k,a,b⟩:=this r.length (waa _) ⟨r.length,waa _,by
    have:d9 r r.length="":=cI (by rw[kq];exact we7 (wdN (aV r)))
    rw[this];exact l⟩
   exact⟨k,a,b⟩
  obtain⟨k,a,b,c⟩:=i;exact⟨k,a,by unfold lend;rw[uL b c a],b,c⟩
 obtain⟨k,x,o,g,q⟩:=key (a++p);obtain⟨m,m1,t,u,v⟩:=key p;rw[o,t];have hd:∀j,d9 (a++p) (a.length+j)=d9 p j:=λj=>cI (by rw[kq,kq,aY,<-aV a,whH];simp)
 have hk:a.length<=k:=by
  have:=h _ g;rw[<-aV,kq,wbp,aV,len_app]at this;omega
 have e:a.length+m=k:=by
  rcases wfg (a.length+m) k with z |z |z
  ·exact absurd (by rw[hd];exact u) (q _ z)
  ·exact z
  ·have:=hd (k-a.length);rw[show a.length+(k-a.length)=k by omega]at this;exact absurd (by rw[<-this];exact g) (v (k-a.length) (by omega))
 rw[<-e,hd]
theorem jU(wl:List (List (Str×Nat)))(b:List Nat):∀(a:List Nat) (d:Nat),eK wl d (a++b)=eK wl d a++eK wl (qA wl d a) b/\qA wl d (a++b)=qA wl (qA wl d a) b
 |[],_=>⟨rfl,rfl⟩
 |_::a,_=>⟨congrArg (_ :: ·) (jU wl b a _).1,(jU wl b a _).2⟩
def jV(ss hk:List Str)(wl:List (List (Str×Nat)))(p w:Str)(as:List Str)(i:Nat):Prop:=∃d e,d<wl.length/\hk.getD d ""=lend ss p/\(wl.getD d [])[i]?=some (w,e)/\jS wl e as
theorem jV.one{bw ss hk:List Str}{wl:List (List (Str×Nat))}{c:Nat}{p w:Str}{as:List Str}{i j:Nat}(R:yN bw ss hk wl c)(hl:as.length=c)(g:jV ss hk wl p w as i)(l:jV ss hk wl p w as j):i=j:=by
 obtain⟨d,e,a1,a2,a3,a⟩:=g;obtain⟨k,m,b1,b,f,h⟩:=l;exact R.one a1 b1 (a2.trans b.symm) a3 f hl a h
noncomputable def ik(b c:Nat)(ts:List Nat):List Nat:=wam b 0++(ts++wam c 0)
theorem Gj(wl:List (List (Str×Nat)))(b c:Nat)(ts:List Nat):LV wl b c ts=cat (eK wl 0 (ik b c ts)):=by
 unfold LV ik;rw[(jU wl _ _ 0).1,qz,lA,lA]
theorem rL{many:Int}(m1:1<=many){ts:List Nat}(h:∀t∈ts,(t:Int)<many)(b c:Nat):∀t∈ik b c ts,(t:Int)<many:=λt a=>by
 unfold ik at a;rcases waA.mp a with z |z
 ·rw[(wdh.mp z).2];omega
 ·rcases waA.mp z with z |z
  ·exact h t z
  ·rw[(wdh.mp z).2];omega
theorem DH{bw ss hk:List Str}{wl:List (List (Str×Nat))}{many:Int}{n b c:Nat}(R:yN bw ss hk wl c)(j:GC many n wl)(m1:1<=many)(I:ss.Perm (bQ bw "" bw))(hw:∀w∈bw,1<=w.length)(h0:hk.getD 0 ""∈ss)(hs:∀s∈ss,s.length<=n*b){ts:List Nat}(J:∀t∈ts,(t:Int)<many){k:Nat}(p:k<ts.length) :
 ∃bs w as,((eK wl 0 (ik b c ts)).take (k+(b+1+c))).drop k=bs++w::as/\bs.length=b/\as.length=c/\bears bw (cat bs)=false/\jV ss hk wl (cat bs) w as ts[k]:=by
 have g:=rL m1 J b c
 have E:(ik b c ts).drop (k+b)=ts[k]::(ts.drop (k+1)++wam c 0):=by
  unfold ik;rw[whH,wby (by rw[waP];omega),wdJ,waP,show k+b-b=k by omega,wcu (by omega),wfm p];rfl
 have m:(ik b c ts).length=b+(ts.length+c):=by unfold ik;rw[wa5,wa5,waP,waP]
 generalize ik b c ts=l at g E m;have i:l=l.take k++((l.drop k).take b++l.drop (k+b)):=by rw[<-List.drop_drop,wbT,wbT]
 generalize H:l.take k=d at i;generalize L:(l.drop k).take b=f at i;have M:d.length=k:=by rw[<-H,wak];omega
 have N:f.length=b:=by rw[<-L,wak,wbp];omega
 rw[E]at i;generalize O:ts.drop (k+1)++wam c 0=rest at i;have U:c<=rest.length:=by rw[<-O,wa5,waP];omega
 have o:0<wl.length:=wc8.mpr j.ne;have q:∀t∈d++f,(t:Int)<many:=λt h=>g t (by rw[i,<-waS];exact waU _ h);have v:∀t∈rest,(t:Int)<many:=λt h=>g t (by rw[i,<-waS];exact waJ _ (wac _ h));obtain⟨a1,a2⟩:=jU wl (ts[k]::rest) (d++f) 0;obtain⟨b1,V⟩:=jU wl f d 0;obtain⟨G,_,u⟩:=we j (d++f) 0 o q;obtain⟨g1,g2⟩:=Gd j I hw R.go o h0 (d++f) q;rw[lA]at g1 g2;generalize X:qA wl 0 (d++f)=D at a1 u g2;have x:=J _ (waL p);have a:=step_at j u x;have y:=wa9 (cW u);have z:=j.e _ y _ (wa9 a);obtain⟨v1,Q,_⟩:=we j rest (gg wl D ts[k]).2 z v;rw[b1]at g1 g2 a1 G;generalize A:eK wl 0 d=S at *;generalize B:eK wl (qA wl 0 d) f=bs at *;have T:S.length=k:=by rw[<-A,jT,M]
 have r:bs.length=b:=by rw[<-B,jT,N]
 have C:(cat bs).length=n*b:=by rw[gf λw h=>G w (waJ _ h),r]
 rw[qz,<-eO]at g1 g2;refine⟨bs,(gg wl D ts[k]).1,(eK wl (gg wl D ts[k]).2 rest).take c,?_,r,by rw[wak,jT];omega,jC (by rw[aY];exact⟨_,[],by rw[waY]⟩) g1,D,(gg wl D ts[k]).2,u,?_,a,nH c _ _ Q⟩
 ·rw[i,<-waS,a1,show eK wl D (ts[k]::rest)=(gg wl D ts[k]).1::eK wl (gg wl D ts[k]).2 rest from rfl,wgw,waS,wcu (by omega),wby (by omega),wdJ,show k+(b+1+c)-k=bs.length+(c+1) by omega,List.take_length_add_append,List.take_succ_cons]
 ·rw[<-g2];exact(Gi (I.mem_iff.mpr (cn bw)) (λs h=>by rw[C];exact hs s h))
structure Wr where
 g:Str
 bw:List Str
 ss:List Str
 ls:List Str
 hk:List Str
 many:Int
 n:Nat
 b:Nat
 c:Nat
 wl:List (List (Str×Nat))
noncomputable def Wr.o(R:Wr):Str×Nat:=cG R.wl 0 (wam R.b 0)
structure DI(R:Wr):Prop where
 w:GC R.many R.n R.wl
 m1:1<=R.many
 m8:R.many<=8
 n1:1<=R.n
 wH:R.n<=10
 b1:R.b<=1000
 c1:R.c<=1000
 hl:R.hk.length=R.wl.length
 l1:R.wl.length<=40
 bh:nj R.bw R.n R.b
 hw:∀w∈R.bw,1<=w.length/\w.length<=900
 bl:R.bw.length<=1000
 gl:R.g.length<=10
 rd:yN R.bw R.ss R.hk R.wl R.c
 gd:∀(d:Nat),∀q∈R.wl.getD d [],∀c∈ch q.1,c∈ch R.g
 h0:R.hk.getD 0 ""∈R.ss
 sh:∀s∈R.ss,s.length<=R.n*R.b
 pm:R.ss.Perm (bQ R.bw "" R.bw)
structure rM(K:wa2)(C CB CP:Addr)(H:Hp)(x:Addr)(R:Wr):Prop where
 ex:∃dx p xb a l dp wa wb wc wz ys,H x=some (.ins C dx (nr p xb R.many (R.n:Int) a l R.o.1 (R.o.2:Int)))/\H p=some (.ins CP dp (vA wa wb wc wz))/\aM K H wb ys/\ys.length=R.c/\bL K H (kH R.wl) (.ref l)/\aM K H a (R.hk.map V.str)/\aX CB H xb R.g R.bw R.ss R.ls
 ok:DI R
theorem rM.same(h:rM K C CB g H x R)(s:a8 H j):rM K C CB g j x R:=by
 obtain⟨⟨b,p,c,a,l,dp,d,e,f,i,k,m,n,o,q,r,t,u⟩,v⟩:=h;exact⟨⟨b,p,c,a,l,dp,d,e,f,i,k,s _ _ m,s _ _ n,s.seq o,q,bL.same s _ _ r,s.seq t,u.same s⟩,v⟩
theorem nj.one(h:nj bw n b)(h':nj bw n g):b=g:=by
 obtain⟨_,M,⟨u,a⟩,e⟩:=h;obtain⟨_,N,⟨v,c⟩,f⟩:=h'
 have:M=N:=by
  rcases a with⟨a1,a2⟩ |⟨w,hw,a⟩<;>rcases c with⟨c1,i⟩ |⟨j,d,c⟩
  ·omega
  ·rw[a2]at d;cases d
  ·rw[i]at hw;cases hw
  ·have:=u j d;have:=v w hw;omega
 rw[this]at e;omega
theorem Gk{ss:List Str}(h:nj bw n b)(hn:1<=n)(g:ss.Perm (bQ bw "" bw)):∀s∈ss,s.length<=n*b:=by
 intro s a;obtain⟨_,M,⟨u,_⟩,e⟩:=h;rcases(jm _).mp (g.mem_iff.mp a) with rfl |⟨w,hw,i,hi,rfl,_⟩
 ·exact waB _
 ·have d:=u w hw;have f:(di w (1+i)).length=min (1+i) w.length:=by rw[<-aV,ja,wak,aV]
  have j:M-1<=(n:Int)*(b:Int):=by
   rw[if_neg (by omega)]at e;have c:=wgx (M-1+(n:Int)-1) (n:Int);have k:=wbl (M-1+(n:Int)-1) (show 0<(n:Int) by omega);rw[<-e]at c;omega
  have l:((n*b:Nat):Int)=(n:Int)*(b:Int):=wbo ..;omega
noncomputable def jW(p:Nat×Nat):List V:=[.int (p.1:Int),.int (p.2:Int)]
structure iF(H:Hp)(a:Addr)(wl:List (List (Str×Nat))):Prop where
 ex:∃kvs:List (Key×V),H a=some (.dK kvs)/\∀w:Str,(bA kvs (wai w:Key)=none/\∀(i e:Nat),(w,e)∉wl.getD i [])\/∃(l:Addr) (rs:List Addr) (ps:List (Nat×Nat)),bA kvs (wai w:Key)=some (.ref l)/\H l=some (.lst (rs.map V.ref))/\b8 H rs (ps.map jW)/\ps.length<=1000/\∀i e:Nat,(i,e)∈ps↔(w,e)∈wl.getD i []
theorem b8.same(h:b8 H rs g)(s:a8 H j):b8 j rs g:=⟨h.1,λi r c a b=>s _ _ (h.2 i r c a b)⟩
theorem iF.same{wl:List (List (Str×Nat))}(h:iF H a wl)(s:a8 H g):iF g a wl:=by
 obtain⟨e,f,i⟩:=h;refine⟨e,s _ _ f,λw=>?_⟩;rcases i w with z |⟨l,j,ps,a,b,c,d⟩
 ·exact .inl z
 ·exact .inr ⟨l,j,ps,a,s _ _ b,c.same s,d⟩
theorem iF.put{wl:List (List (Str×Nat))}(h:iF H a wl)(j:H z=some (.ins C d f))(o:HO):iF (upd H z o) a wl:=by
 obtain⟨g,k,m⟩:=h;have n:∀{c u},H c=some u->(∀x y q,u≠.ins x y q)->(upd H z o) c=some u:=λ{c u} e q=>by rw[ae (λy=>by rw[y,j]at e;cases e;exact q _ _ _ rfl)];exact e
 refine⟨g,n k (λ_ _ _ z=>nomatch z),λw=>?_⟩;rcases m w with z |⟨l,p,ps,a,b,c,d⟩
 ·exact .inl z
 ·exact .inr ⟨l,p,ps,a,n b (λ_ _ _ z=>nomatch z),⟨c.1,λi r s x y=>n (c.2 i r s x y) (λ_ _ _ z=>nomatch z)⟩,d⟩
noncomputable abbrev xq:=Nat×Str×Nat
noncomputable def pairsOf(done:List xq)(w:Str):List (Nat×Nat):=(done.filter λt=>decide (t.2.1=w)).map λt=>(t.1,t.2.2)
theorem BA(done:List xq)(w:Str)(i e:Nat):(i,e)∈pairsOf done w↔(i,w,e)∈done:=by
 unfold pairsOf;constructor
 ·intro h;obtain⟨⟨a,b,c⟩,f,g⟩:=wab.mp h;obtain⟨j,d⟩:=wav.mp f;have d:b=w:=of_decide_eq_true d;obtain⟨rfl,rfl⟩:=wc9 g;rw[<-d];exact j
 ·intro h;exact wab.mpr ⟨(i,w,e),wav.mpr ⟨h,decide_eq_true rfl⟩,rfl⟩
theorem zL(done:List xq)(i e:Nat)(w v:Str):pairsOf (done++[(i,w,e)]) v=if v=w then pairsOf done v++[(i,e)] else pairsOf done v:=by
 unfold pairsOf;rw[wbw,wao]
 by_cases h:v=w
 ·subst h;rw[if_pos rfl,wb3 (by exact decide_eq_true rfl)];rfl
 ·rw[if_neg h,wba (by exact λz=>h (of_decide_eq_true z).symm)];exact waY _
structure eC(H0 H:Hp)(a:Addr)(done:List xq):Prop where
 s:a8 H0 H
 fa:H0 a=none
 ex:∃kvs:List (Key×V),H a=some (.dK kvs)/\kvs.length<=done.length /\
  (∀w:Str,(bA kvs (wai w:Key)=none/\pairsOf done w=[])\/∃(l:Addr) (rs:List Addr),bA kvs (wai w:Key)=some (.ref l)/\H0 l=none/\H l=some (.lst (rs.map V.ref))/\b8 H rs ((pairsOf done w).map jW)) /\
  ∀(w v:Str) (l:Addr),bA kvs (wai w:Key)=some (.ref l)->bA kvs (wai v:Key)=some (.ref l)->w=v
theorem eC.start{H:Hp}(h:H a=none):eC H (upd H a (.dK [])) a []:=
 ⟨a8.upd h,h,[],a6,waa _,λ_=>.inl ⟨rfl,rfl⟩,λ_ _ _ h=>nomatch h⟩
theorem eC.same{g H j:Hp}{done:List xq}(h:eC g H a done)(s:a8 H j):eC g j a done:=by
 obtain⟨h0,fa,e,f,i,k,m⟩:=h;refine⟨h0.trans s,fa,e,s _ _ f,i,λw=>?_,m⟩;rcases k w with z |⟨l,n,a,b,c,d⟩
 ·exact .inl z
 ·exact .inr ⟨l,n,a,b,s _ _ c,d.same s⟩
theorem b8.app{H:Hp}{rs:List Addr}{g:List (List V)}(h:b8 H rs g)(j:H r=some (.tup xs)):b8 H (rs++[r]) (g++[xs]):=by
 refine⟨by rw[wa5,wa5,h.1];rfl,λi q c a b=>?_⟩
 by_cases z:i<rs.length
 ·rw[waF z]at a;rw[waF (by rw[<-h.1];exact z)]at b;exact h.2 i q c a b
 ·rw[waD (by omega)]at a;rw[waD (by rw[<-h.1];omega)]at b
  have e:i-rs.length=0:=by
   have:=(wa6.mp a).1;rw[wci]at this;omega
  rw[<-h.1]at b;rw[e]at a b;cases a;cases b;exact j
theorem eC.add{p H:Hp}{done:List xq}{w:Str}{i e:Nat}{l:Addr}{rs:List Addr}{g:List (Key×V)}(s:a8 p H)(fa:p a=none)(hk:H a=some (.dK g))(hl:g.length<=done.length+1)
 (hw:bA g (wai w:Key)=some (.ref l)) (fl:p l=none) (t:H l=some (.lst (rs.map V.ref))) (C:b8 H rs ((pairsOf done w).map jW))
 (I:∀v:Str,v≠w->(bA g (wai v:Key)=none/\pairsOf done v=[])\/∃(l:Addr) (rs:List Addr),bA g (wai v:Key)=some (.ref l)/\p l=none/\H l=some (.lst (rs.map V.ref))/\b8 H rs ((pairsOf done v).map jW))
 (hi:∀(w v:Str) (l:Addr),bA g (wai w:Key)=some (.ref l)->bA g (wai v:Key)=some (.ref l)->w=v) (j:H r=none) :
 eC p (upd (upd H r (.tup (jW (i,e)))) l (.lst (rs.map V.ref++[.ref r]))) a (done++[(i,w,e)]):=by
 have k:r≠l:=λz=>by rw[z,t]at j;cases j
 have m:a≠l:=λz=>by rw[z,t]at hk;cases hk
 have n:a≠r:=λz=>by rw[z,j]at hk;cases hk
 have c:∀{q:Addr} {d:List V},H q=some (.tup d)->(upd (upd H r (.tup (jW (i,e)))) l (.lst (rs.map V.ref++[.ref r]))) q=some (.tup d):=λ{q d} h=>by
  have n1:q≠l:=λz=>by rw[z,t]at h;cases h
  have f:q≠r:=λz=>by rw[z,j]at h;cases h
  rw[ae n1,ae f];exact h
 refine⟨λb o h=>?_,fa,g,by rw[ae m,ae n];exact hk,by rw[wa5];exact hl,λv=>?_,hi⟩
 ·have n1:b≠l:=λz=>by rw[z,fl]at h;cases h
  have f:b≠r:=λz=>by have:=s _ _ h;rw[z,j]at this;cases this
  rw[ae n1,ae f];exact s _ _ h
 rw[zL]
 by_cases z:v=w
 ·subst z;rw[if_pos rfl];refine .inr ⟨l,rs++[r],hw,fl,by rw[a6,wao];rfl,?_⟩;rw[wao];have B:b8 (upd (upd H r (.tup (jW (i,e)))) l (.lst (rs.map V.ref++[.ref r]))) rs ((pairsOf done v).map jW):=⟨C.1,λi q d a b=>c (C.2 i q d a b)⟩;exact b8.app B (by rw[ae k,a6])
 ·rw[if_neg z];rcases I v z with y |⟨u,x,a1,a2,a3,A⟩
  ·exact .inl y
  ·have n1:u≠l:=λy=>z (hi v w l (by rw[<-y];exact a1) hw);have f:u≠r:=λy=>by rw[y,j]at a3;cases a3
   exact .inr ⟨u,x,a1,a2,by rw[ae n1,ae f];exact a3,⟨A.1,λi q d a b=>c (A.2 i q d a b)⟩⟩
theorem eC.step{B H:Hp}{done:List xq}{g:Addr}(M:eC B H a done)(h0:H g=none)(w:Str)(i e:Nat):∃kvs:List (Key×V),(upd H g (.lst [])) a=some (.dK kvs)/\kvs.length<=done.length /\
 (∀v,bA kvs (wai w:Key)=some v->∃(l:Addr) (rs:List Addr),v=.ref l/\(upd H g (.lst [])) l=some (.lst (rs.map V.ref))/\rs.length<=done.length/\∀r,(upd H g (.lst [])) r=none->eC B (upd (upd (upd H g (.lst [])) r (.tup (jW (i,e)))) l (.lst (rs.map V.ref++[.ref r]))) a (done++[(i,w,e)])) /\
 (bA kvs (wai w:Key)=none->(upd (upd H g (.lst [])) a (.dK (putK kvs (wai w:Key) (.ref g)))) g=some (.lst (([]:List Addr).map V.ref))/\∀r,(upd (upd H g (.lst [])) a (.dK (putK kvs (wai w:Key) (.ref g)))) r=none->eC B (upd (upd (upd (upd H g (.lst [])) a (.dK (putK kvs (wai w:Key) (.ref g)))) r (.tup (jW (i,e)))) g (.lst (([]:List Addr).map V.ref++[.ref r]))) a (done++[(i,w,e)])):=by
 have t:a8 H (upd H g (.lst [])):=a8.upd h0;have I:(upd H g (.lst [])) g=some (.lst []):=a6;have M1:=M.same t;have J:B g=none:=none_of M.s h0;have nl:∀{c o},H c=some o->c≠g:=λh z=>by rw[z,h0]at h;cases h
 obtain⟨_,_,b,A,_,L,_⟩:=id M;generalize upd H g (.lst [])=G at *;obtain⟨s,fa,kvs,j,C,m,D⟩:=M1;have N:b=kvs:=by have:=t _ _ A;rw[j]at this;cases this;rfl
 subst N;refine⟨b,j,C,λv d=>?_,λhn=>?_⟩
 ·rcases m w with⟨z,_⟩ |⟨l,rs,a1,a2,a3,f⟩
  ·rw[z]at d;cases d
  ·rw[a1]at d;cases d;refine⟨l,rs,rfl,a3,?_,λr n=>eC.add s fa j (whl C) a1 a2 a3 f (λv _=>m v) D n⟩;have:=f.1;rw[wa0]at this;rw[this];unfold pairsOf;rw[wa0];exact wb4 ..
 ·have na:a≠g:=nl A;have E:(upd G a (.dK (putK b (wai w:Key) (.ref g)))) g=some (.lst []):=by rw[ae na.symm];exact I
  have O:a8 B (upd G a (.dK (putK b (wai w:Key) (.ref g)))):=λc o h=>by rw[ae (af h fa)];exact s _ _ h
  refine⟨E,λr n=>eC.add (rs:=[]) O fa a6 ?_ (by rw[uA,if_pos rfl]) J E ?_ (λv d=>?_) (λu v l x y=>?_) n⟩
  ·have:=fu b (wai w:Key) (.ref g);omega
  ·rcases m w with⟨_,z⟩ |⟨l,rs,a1,_⟩
   ·rw[z];exact b8.nil _
   ·rw[hn]at a1;cases a1
  ·rw[uA,if_neg (λz=>d (wca z))];rcases m v with z |⟨l,rs,a1,a2,a3,f⟩
   ·exact .inl z
   ·have n1:l≠a:=λz=>by rw[z,j]at a3;cases a3
    exact .inr ⟨l,rs,a1,a2,by rw[ae n1];exact a3,f.1,λi q Q x y=>by
     have h:=f.2 i q Q x y
     rw[ae (λz=>by rw[z,j]at h;cases h)];exact h⟩
  ·rw[uA]at x y
   have old:∀{v:Str} {l:Addr},bA b (wai v:Key)=some (.ref l)->l≠g:=λ{v l} h=>by
    rcases L v with⟨z,_⟩ |⟨R,rs,a1,a2,a3,f⟩
    ·rw[z]at h;cases h
    ·rw[a1]at h;cases h;exact nl a3
   by_cases p:u=w
   ·by_cases k:v=w
    ·rw[p,k]
    ·rw[if_pos (congrArg wai p)]at x;rw[if_neg (λz=>k (wca z))]at y;cases x;exact absurd rfl (old y)
   ·rw[if_neg (λz=>p (wca z))]at x
    by_cases k:v=w
    ·rw[if_pos (congrArg wai k)]at y;cases y;exact absurd rfl (old x)
    ·rw[if_neg (λz=>k (wca z))]at y;exact D u v l x y
noncomputable def nu(H0 H2 H3:Hp):Hp:=λc=>match H2 c with
 |none=>H3 c
 |some _=>H0 c
theorem Jz{g j l:Hp}(s:a8 g j):a8 g (nu g j l):=λc o h=>by
 unfold nu;rw[s _ _ h];exact h
theorem JA{l g j:Hp}:a8 (aJ g j) (nu l g j):=λc o h=>by
 unfold aJ at h;unfold nu
 cases e:g c with
 |none=>rw[e]at h;exact h
 |some u=>rw[e]at h;cases h
theorem eC.over{p g j:Hp}{done:List xq}(M:eC p g a done)(s:a8 g j):eC (nu p g j) j a done:=by
 obtain⟨h0,fa,b,d,i,k,m⟩:=id M;obtain⟨_,_,f,g1,_,g3,_⟩:=M.same s;have n:f=b:=by have:=s _ _ d;rw[g1]at this;cases this;rfl
 subst n;refine⟨λc o h=>?_,by unfold nu;rw[d];exact fa,f,g1,i,λw=>?_,m⟩
 ·unfold nu at h
  cases e:g c with
  |none=>rw[e]at h;exact h
  |some u=>rw[e]at h;exact s _ _ (h0 _ _ h)
 ·rcases k w with z |⟨l,q,a1,a2,a3,r⟩
  ·exact .inl z
  ·exact .inr ⟨l,q,a1,by unfold nu;rw[a3];exact a2,s _ _ a3,r.same s⟩
theorem eC.back{g B H:Hp}{done:List xq}(M:eC B H a done)(s:a8 g B):eC g H a done:=by
 obtain⟨h0,fa,b,c,d,e,f⟩:=M;refine⟨s.trans h0,none_of s fa,b,c,d,λw=>?_,f⟩;rcases e w with z |⟨l,h,a1,a2,a3⟩
 ·exact .inl z
 ·exact .inr ⟨l,h,a1,none_of s a2,a3⟩
noncomputable def dP(wl:List (List (Str×Nat)))(k:Nat):List xq:=(waH k).flatMap λd=>(wl.getD d []).map λq=>(d,q.1,q.2)
theorem wg(wl:List (List (Str×Nat)))(k:Nat):dP wl (k+1)=dP wl k++(wl.getD k []).map λq=>(k,q.1,q.2):=by
 unfold dP;rw[wde,weJ];simp
theorem Gm{wl:List (List (Str×Nat))}{i e:Nat}{w:Str}:(i,w,e)∈dP wl wl.length↔(w,e)∈wl.getD i []:=by
 unfold dP;constructor
 ·intro h;obtain⟨d,_,h⟩:=wcB.mp h;obtain⟨q,a,b⟩:=wab.mp h;obtain⟨rfl,c⟩:=wc9 b;obtain⟨rfl,rfl⟩:=wc9 c;exact a
 ·intro h;refine wcB.mpr ⟨i,wb5.mpr ?_,wab.mpr ⟨(w,e),h,rfl⟩⟩;refine wcl λz=>?_;rw[wa3,wck (by omega)]at h;cases h
theorem eC.done{g H:Hp}{wl:List (List (Str×Nat))}(h:eC g H a (dP wl wl.length))(hl:(dP wl wl.length).length<=1000):iF H a wl:=by
 obtain⟨_,_,b,d,m,f,n⟩:=h;refine⟨b,d,λw=>?_⟩;have c:=λi e=>(BA (dP wl wl.length) w i e).trans Gm;rcases f w with⟨z,y⟩ |⟨l,j,a1,a2,a3,k⟩
 ·refine .inl ⟨z,λi e q=>?_⟩;have:=(c i e).mpr q;rw[y]at this;cases this
 ·refine .inr ⟨l,j,_,a1,a3,k,?_,c⟩;unfold pairsOf;rw[wa0];exact waj (wb4 ..) hl
end Bs
namespace L2
open PySem PySem.Spec PyProof.Rows
section
variable{X:Cx}{tg:Expr}
theorem EE{c:Int}(hc:0<c)(m:Nat):wcY 0 (c*(m:Int)) c=(m:Int):=by
 unfold wcY;rw[if_pos hc]
 cases m with
 |zero=>rw[if_neg (by simp)];rfl
 |succ m=>
  have a:0<c*((m+1:Nat):Int):=whw hc (by omega);rw[if_pos a,show c*((m+1:Nat):Int)-0-1=(c-1)+c*(m:Int) by rw[wcK,Int.mul_add];omega,Int.add_mul_ediv_left _ _ (by omega),Int.ediv_eq_zero_of_lt (by omega) (by omega)];omega
theorem JB{g:List (Addr×Obj)}{σ:St}{H:Hp}{s:Shared}{R:It->Hp->Prop}{E:Value->Shared->Prop}{c:Int}{m:Nat}{t u v:Tok}(I:Inv X g σ H s)(j:1<=c)(l:c<=1000)(p:c*(m:Int)<=1000000)(r:m<=1000000)
 (q:R (Lb 0 c m) H):wpAny (model X.prog X.w) X.A (pyIter (.ref s.heap.objs.size)) (OW X g σ tg R) E {s with heap:=s.heap.push {cls:=.type "range",data:=.fields #[.int 0 t,.int (c*(m:Int)) u,.int c v]}}:=by
 have h0:0<=c*(m:Int):=Int.mul_nonneg (by omega) (by omega)
 have a:wgW 0 (c*(m:Int)) c=true:=by
  unfold wgW;rw[EE (by omega)];simp only[Builtin.Range.rangeFitsLong,wbV,whN,decide_eq_true_eq,beq_iff_eq,show c>0 by omega,if_true];omega
 refine wpAny_pyIter_range (wi0 ..) a ?_;have d:Inv X g σ H {s with heap:=s.heap.push {cls:=.type "range",data:=.fields #[.int 0 t,.int (c*(m:Int)) u,.int c v]}}:=I.kept (t':=s.toks) λb o e=>wa8 _ e
 refine⟨(s.heap.push {cls:=.type "range",data:=.fields #[.int 0 t,.int (c*(m:Int)) u,.int c v]}).objs.size,[(s.heap.push {cls:=.type "range",data:=.fields #[.int 0 t,.int (c*(m:Int)) u,.int c v]}).objs.size],_,_,H,rfl,
  d.kept (t':=s.toks) λb o e=>wa8 _ e,AY _ 0 c m,?_,λb f=>?_,q⟩
 ·have h:(0:Int)+((0:Nat):Int)*c=0:=by simp
  have i:((m:Nat):Int)-((0:Nat):Int)=wcY 0 (c*(m:Int)) c:=by rw[EE (by omega)];simp
  show wg0 _ _ ((0:Int)+((0:Nat):Int)*c) (((m:Nat):Int)-((0:Nat):Int)) c;rw[h,i];exact waq _ rfl
 ·have e:b=(s.heap.push {cls:=.type "range",data:=.fields #[.int 0 t,.int (c*(m:Int)) u,.int c v]}).objs.size:=by simpa using f
  subst e;exact d.wK (waa _) (d.b4.fresh (waa _))
inductive Vt(vs:List V)(H:Hp)(R:It->Hp->Prop):Prop
 |mk (c:Int) (m:Nat) (_:vs=[.int 0,.int (c*(m:Int)),.int c]) (_:1<=c) (_:c<=1000) (_:c*(m:Int)<=1000000) (_:m<=1000000) (_:R (Lb 0 c m) H)
def RL(ta:TA):TI:=λσ H R=>ta σ H λvs H1=>Vt vs H1 R
theorem Gn(l:Gl X "range")(C:X.mg "range"=none)(ha:PA X [a,b,c] J)(hs:starEach [a,b,c] X.env=[(false,eval a X.env),(false,eval b X.env),(false,eval c X.env)]:=by rfl)(g:starEach [b,c] X.env=[(false,eval b X.env),(false,eval c X.env)]:=by rfl) :
 PI X tg (.Call (.Name "range" p) [a,b,c] [] pos) (RL J):=by
 intro d s σ H R I h;refine Call_ (gv I l C boot_range (wbr (bO (ha pos d s σ H _ I h) λy z ⟨A,B,k,n,i⟩=>?_) (by rw[hs,g]) (by rw[g];rfl)));obtain⟨c,m,e,i,o,u,v,q⟩:=i;subst e
 cases n with
 |cons r f=>
  cases f with
  |cons w f=>
   cases f with
   |cons j f=>
    cases f;obtain⟨t,rfl⟩:=r;obtain⟨D,rfl⟩:=w;obtain⟨x,rfl⟩:=j;exact call_range_3 (by omega) (JB k i o u v q) (.inl (wg3 (by omega)))
end
end L2
namespace L2
open PySem Bs
theorem JC(e:Nat)(rs:List Nat):∃g,putK (dB rs) (wb2 (e:Int):Key) (.bl true)=dB g/\(∀x,x∈g↔x∈rs\/x=e)/\g.length<=rs.length+1:=by
 by_cases h:e∈rs
 ·refine⟨rs,?_,λx=>⟨.inl,λz=>z.elim id λz=>z ▸ h⟩,wc1 _⟩;unfold putK;rw[if_pos (show ((dB rs).any λb=>decide (b.1=(wb2 (e:Int):Key)))=true from wch.mpr ⟨((wb2 (e:Int):Key),V.bl true),wab.mpr ⟨e,h,rfl⟩,decide_eq_true rfl⟩)];refine(wb7 λb a=>?_).trans (List.map_id _);obtain⟨n,_,rfl⟩:=wab.mp a;show (if _ then _ else _)=_;split<;>rfl
 ·exact⟨rs++[e],IW h,λx=>by rw[waA,wat],by rw[wa5];exact waa _⟩
end L2
namespace L2
open PySem
noncomputable def yO(a:Addr):List (Str×V):=[("writer",.ref a)]
noncomputable def JD(a b:Addr):List (Str×V):=[("writer",.ref a),("pairs",.ref b)]
theorem MO(a:Addr):cH "writer" (.ref a) []=yO a:=rfl
theorem JE(a b:Addr):cH "pairs" (.ref b) (yO a)=JD a b:=by
 show (if ("writer":Str)="pairs" then _ else(("writer":Str),V.ref a)::cH "pairs" (.ref b) [])=_;rw[if_neg (by decide+kernel)];rfl
theorem BC(a b:Addr):(JD a b).lookup ("pairs":Str)=some (.ref b):=by
 rw[<-JE,aE,if_pos rfl]
theorem bg(a b:Addr):(JD a b).lookup ("writer":Str)=some (.ref a):=by
 rw[<-JE,aE,if_neg (by decide+kernel),<-MO,aE,if_pos rfl]
end L2
namespace Bs
open PySem L2 Sx
structure BD(K:wa2)(C CB CP CR:Addr)(H:Hp)(z:Addr)(R:Wr):Prop where
 ex:∃dz x a,H z=some (.ins CR dz (JD x a))/\iF H a R.wl/\rM K C CB CP H x R
theorem BD.same{CR:Addr}(h:BD K C CB g CR H z R)(s:a8 H j):BD K C CB g CR j z R:=by
 obtain⟨b,x,a,c,d,e⟩:=h;exact⟨b,x,a,s _ _ c,d.same s,e.same s⟩
end Bs
namespace K53
open PySem L2 Bs Sx
section
variable{P:wau}{w:World}{K:wa2}{mg:Str->Option Value}{base:Heap}
inductive JF(vs:List V)(H:Hp)(Q:VK)(eE:XK):Prop
 |mk (a ts many) (_:vs=[.ref a,.int many]) (_:H a=some (.lst ((nI ts).map V.int))) (_:(∀t∈ts,(t:Int)<many)) (_:∀H',a8 H H'->Q .non H')
theorem xr(L:Lk K mg):aS P w K mg base d8 2 L.q0 L.q8 ["data","many"] JF:=by
 have T:=L.T;refine L.kW.F.dQ (N:=["data","many","number","thing"]) (λg A outer s H t Q E nd u h=>?_);obtain⟨a,j,many,rfl,ha,c,k⟩:=h
 refine⟨_,(a7 (bK (eW (cQ (aC cZ (by rfl) T.LJ zb (a5 (pv 0) (a5 (iA (v:=.ty "list") (by rfl) T.list iN rfl) a9))))) dg aQ)
  (ag (b0 wal rfl (kj (by rfl) T.enum (a5 (pv 0) a9)) (dG rfl (aK (aw (i:=2)) (aK (aw (i:=3)) cB))) (ag (bK (PW.pt (j7 (eW (cQ (au (ni L) L.iT (a5 (pv 3) a9)))) (j7 (aH nK (pv 3) aq (aU _)) (m3 (aH GX (pv 3) (pv 1) (aU _)))))) dg aQ))))),?_⟩
 try dsimp only[dC,dA,b6,b7]
 refine⟨_,rfl,_,_,_,true,rfl,j4.lst ha,rfl,true,rfl,cm ?_⟩;refine⟨_,rfl,a,_,rfl,aM.of ha,md (K:=K) (a:=a) (xs:=(nI j).map V.int) (λi σ b=>a8 H b/\∃d e,σ=[some (.ref a),some (.int many),d,e]) ⟨a8.refl _,none,none,rfl⟩ (λi σ b _ p=>p.1.seq (aM.of ha)) ?_ (λσ b p=>k b p.1)⟩;rintro i x σ b T l ⟨m,d,e,rfl⟩ q;obtain⟨n,hn,rfl⟩:=vy (wa9 l);have r:=c n hn;refine⟨T,_,rfl,gL.of a6,rfl,_,_,rfl,_,_,rfl,rfl,?_⟩;have f:=m.trans (a8.upd (o:=.tup [.int (i:Nat),.int (n:Int)]) q);generalize upd b T (.tup [.int (i:Nat),.int (n:Int)])=y at f;refine⟨_,rfl,(n:Int),rfl,true,rfl,cm ?_⟩;refine⟨_,rfl,_,_,rfl,rfl,false,congrArg V.bl (decide_eq_false (by omega)),cm ?_⟩;refine⟨_,rfl,_,rfl,_,_,rfl,rfl,false,congrArg V.bl (decide_eq_false (by omega)),cm ?_⟩;exact⟨f,_,_,rfl⟩
inductive DJ(K:wa2)(C CB CP:Addr)(u:Wr->V)(vs:List V)(H:Hp)(Q:VK)(eE:XK):Prop
 |mk (x R) (_:vs=[.ref x]) (_:rM K C CB CP H x R) (_:Q (u R) H)
theorem ip(L:Lk K mg):aS P w K mg base d8 1 L.mL L.mM ["self"] (DJ K L.ak L.az L.aR (λR=>.int (R.c:Int))):=by
 have T:=L.T;refine L.cp.F.dQ (N:=["self"]) (λd A outer s H r Q E nd t h=>?_);obtain⟨x,R,rfl,⟨⟨e,p,u,a,l,dp,f,b,g,i,j,m,n,o,q,_⟩,_⟩,k⟩:=h;refine⟨_,(ag (aB (aC bx (by rfl) T.len waM (a5 (aD (aD (pv 0) rfl) rfl) a9)))),?_⟩
 try dsimp only[dC,dA,b6,b7]
 refine⟨_,rfl,x,L.ak,e,_,_,rfl,m,L.aj.cl,L.aj.pF,zF ..,p,L.aR,dp,_,_,rfl,n,L.df.cl,L.df.Bg,zv f b g i,b,j,rfl,.inl o,?_⟩;rw[q];exact k
theorem wh(L:Lk K mg):aS P w K mg base d8 1 L.nY L.nZ ["self"] (DJ K L.ak L.az L.aR (λR=>.str R.o.1)):=by
 refine L.gR.F.dQ (N:=["self"]) (λb A outer s H e Q E nd f h=>?_);obtain⟨x,R,rfl,⟨⟨c,p,g,a,l,dp,i,j,m,n,q,d,_⟩,_⟩,k⟩:=h;refine⟨_,(ag (aB (aD (pv 0) rfl))),?_⟩
 try dsimp only[dC,dA,b6,b7]
 exact⟨_,rfl,x,L.ak,c,_,_,rfl,d,L.aj.cl,L.aj.ry,oj ..,k⟩
theorem iq(L:Lk K mg):aS P w K mg base d8 1 L.mN L.mO ["self"] (DJ K L.ak L.az L.aR (λR=>.int (R.wl.length:Int))):=by
 have T:=L.T;refine L.cq.F.dQ (N:=["self"]) (λb A outer s H f Q E nd g h=>?_);obtain⟨x,R,rfl,⟨⟨c,p,i,a,l,dp,j,m,n,o,q,d,_,_,_,_,e,_⟩,ok⟩,k⟩:=h;refine⟨_,(ag (aB (aC bx (by rfl) T.len waM (a5 (aD (pv 0) rfl) a9)))),?_⟩
 try dsimp only[dC,dA,b6,b7]
 refine⟨_,rfl,x,L.ak,c,_,_,rfl,d,L.aj.cl,L.aj.fN,tG ..,a,_,rfl,.inl e,?_⟩;rw[wa0,ok.hl];exact k
inductive JG(K:wa2)(C CB CP:Addr)(vs:List V)(H:Hp)(Q:VK)(eE:XK):Prop
 |mk (x:Addr) (R:Wr) (d:Nat) (_:vs=[.ref x,.int (d:Int)]) (_:rM K C CB CP H x R) (_:d<R.wl.length) (_:Q (.str (R.hk.getD d "")) H)
theorem oV(L:Lk K mg):aS P w K mg base d8 1 L.jd L.je ["self","desk"] (JG K L.ak L.az L.aR):=by
 refine L.ez.F.dQ (N:=["self","desk"]) (λb A outer s H i Q E nd j h=>?_);obtain⟨x,R,d,rfl,⟨⟨c,p,m,a,l,dp,n,o,q,r,t,f,_,_,_,_,g,_⟩,ok⟩,hd,k⟩:=h;refine⟨_,(ag (aB (bf bF (aD (pv 0) rfl) (pv 1) (λ_ _=>rfl)))),?_⟩
 try dsimp only[dC,dA,b6,b7]
 have e:=getD_some ("":Str) (show d<R.hk.length by rw[ok.hl];exact hd);exact⟨_,rfl,x,L.ak,c,_,_,rfl,f,L.aj.cl,L.aj.fN,tG ..,_,rfl,a,_,_,_,rfl,rfl,g,bE (v:=.str (R.hk.getD d "")) (by rw[wa4,e];rfl),k⟩
inductive JH(K:wa2)(C CB CP:Addr)(vs:List V)(H:Hp)(Q:VK)(eE:XK):Prop
 |mk (x:Addr) (R:Wr) (d:Nat) (_:vs=[.ref x,.int (d:Int)]) (_:rM K C CB CP H x R) (_:d<R.wl.length) (_:∀y H',a8 H H'->bL K (aJ H H') (bY (R.wl.getD d [])) y->Q y H')
theorem lX(L:Lk K mg):aS P w K mg base d8 1 L.mP L.mQ ["self","desk"] (JH K L.ak L.az L.aR):=by
 refine L.dn.F.dQ (N:=["self","desk"]) (λD A outer s H Y Q E nd e h=>?_);obtain⟨x,R,d,rfl,⟨⟨G,p,Z,a,l,dp,wa,wb,wc,wz,ys,I,_,_,_,hl,_⟩,ok⟩,hd,k⟩:=h;refine⟨_,(ag (aB (fL rfl (ax [] []) (ax [] []) (by decide) (aN (bf bF (aD (pv 0) rfl) (pv 1) (λ_ _=>rfl))) (λ_ _ _ _ _ _=>bq) (λ_ _ _ _ _ _=>(ee (a5 (pv 0) (a5 (pv 1) a9))))))),?_⟩
 try dsimp only[dC,dA,b6,b7]
 obtain⟨l',J,M,f,g⟩:=id hl;cases M;have c:=cW hd;obtain⟨v,j,rd⟩:=g.at (i:=d) (d:=bY (R.wl.getD d [])) (by rw[wa4,c];rfl);have O:=ok.w.ln _ (wa9 c);have m8:=ok.m8;obtain⟨u,S,rfl,y,b,T⟩:=kJ rd;have m:=b;rw[wa0]at m;refine⟨_,rfl,x,L.ak,G,_,_,rfl,I,L.aj.cl,L.aj.cN,tH ..,_,rfl,l,J,_,_,rfl,rfl,.inl f,bE j,u,rfl,⟨_,y⟩,λlc n=>?_⟩;refine jG (prs:=(R.wl.getD d []).map eI) (λ_=>true) (λq=>.tup [.at q.1,.at q.2]) (aP K u S) b (λi q c=>let ⟨r,U,V⟩:=T i q c;⟨r,U,gL.of V⟩) n (av (by omega)) (λB o=>o.seq y) (λq C X _ _ t=>t C (a8.refl _)) (λq C X c _ s3 t=>?_) (λB o r=>?_)
 ·obtain⟨z,hz,rfl⟩:=wab.mp c;exact⟨_,rfl,_,rfl,by show 2<=sizeLine;decide,λr e=>t _ _ (a8.upd e) (mr e z)⟩
 ·rw[wb6.mpr (λ_ _=>rfl),wah]at r;exact k _ B o r
inductive Ox(K:wa2)(C CB CP:Addr)(vs:List V)(H:Hp)(Q:VK)(eE:XK):Prop
 |mk (x a R ts) (_:vs=[.ref x,.ref a]) (_:rM K C CB CP H x R) (_:H a=some (.lst ((nI ts).map V.int))) (_:(∀t∈ts,(t:Int)<R.many)) (_:ts.length<=10000) (_:∀H',a8 H H'->Q (.str (LV R.wl R.b R.c ts)) H')
theorem tR(L:Lk K mg):aS P w K mg base d8 3 L.mR L.mS ["self","data"] (Ox K L.ak L.az L.aR):=by
 refine L.fW.F.dQ (N:=["self","data","found"]) (λhX A outer s H vs Q E nd hr h=>?_);obtain⟨x,a,R,ts,rfl,T,ha,e,htl,k⟩:=h
 refine⟨_,(a7 (bu (au (xr L) L.kW (a5 (pv 1) (a5 (aD (pv 0) rfl) a9))))
  (a7 (ai (i:=2) (au (yL L) L.q9 (a5 (aD (pv 0) rfl) (a5 (aD (pv 0) rfl) (a5 (aO Hk (pv 1) (aO Hl (cC (a5 aq a9)) (bP (pv 0) L.aj.cl L.cp.m (ip L) (hr.mono (by decide)) L.cp.b .nil bI))) a9)))))
  (ag (aB (aO oq (aD (pv 0) rfl) (bf fI (pv 2) aq (λ_ _=>rfl))))))),?_⟩
 try dsimp only[dC,dA,b6,b7]
 obtain⟨⟨f,p,xb,aa,ll,dp,wa,wb,wc,wz,ys,u,_,_,_,rl,_⟩,ok⟩:=id T;have m1:=ok.m1;have hb:=ok.b1;have Ez:=ok.c1;have v:=qw ok.w (wc8.mpr ok.w.ne) (ts:=wam R.b 0) λt C=>by rw[(wdh.mp C).2];omega
 rw[waP]at v;refine⟨_,rfl,_,rfl,x,L.ak,f,_,_,rfl,u,L.aj.cl,L.aj.Jc,DF ..,a,ts,R.many,rfl,ha,e,λD U=>?_⟩;have X:=U _ _ u;refine⟨_,rfl,x,L.ak,f,_,_,rfl,X,L.aj.cl,L.aj.cN,tH ..,_,rfl,x,L.ak,f,_,_,rfl,X,L.aj.cl,L.aj.Ep,Bv ..,_,rfl,by show 1<=sizeLine;decide,λy G=>?_⟩;have Y:=a8.upd (H:=D) (o:=.lst [V.int 0]) G;have I:(upd D y (.lst [V.int 0])) y=some (.lst [V.int 0]):=a6;generalize upd D y (.lst [V.int 0])=J at Y I;have d:=U.trans Y;refine⟨_,rfl,x,f,_,rfl,d _ _ u,cM _ _ _ _ _ _ _ _ (by decide+kernel),x,R,rfl,T.same d,?_⟩;refine⟨y,(R.c:Int),[V.int 0],rfl,rfl,I,by omega,by omega,av (by show 1*((R.c:Int)).toNat<=_;omega),λz M=>?_⟩;rw[waG,vZ];have Z:=a8.upd (H:=J) (o:=.lst ((nI (wam R.c 0)).map V.int)) M;have h3:(upd J z (.lst ((nI (wam R.c 0)).map V.int))) z=some (.lst ((nI (wam R.c 0)).map V.int)):=a6;generalize upd J z (.lst ((nI (wam R.c 0)).map V.int))=O at Z h3;have g:=d.trans Z;refine⟨a,z,_,_,rfl,rfl,g _ _ ha,h3,av ?_,λB S=>?_⟩
 ·rw[wa0,wa0,cJ,cJ,waP];omega
 rw[<-wao,<-rq];have s4:=a8.upd (H:=O) (o:=.lst ((nI (ts++wam R.c 0)).map V.int)) S;have h4:(upd O B (.lst ((nI (ts++wam R.c 0)).map V.int))) B=some (.lst ((nI (ts++wam R.c 0)).map V.int)):=a6;generalize upd O B (.lst ((nI (ts++wam R.c 0)).map V.int))=H4 at s4 h4;have j:=g.trans s4;have l:∀t:Nat,t∈ts++wam R.c 0->(t:Int)<R.many:=λt C=>rL m1 e R.b R.c t (waJ _ C);have w1:=qw ok.w v.1 l;rw[wa5,waP]at w1;refine⟨.ref ll,_,B,R.many,R.n,R.wl,ts++wam R.c 0,rfl,bL.same j _ _ rl,aM.of h4,ok.w,v.1,l,by rw[wa5,waP];omega,ok.wH,λq H5 s5 hq=>?_⟩;have r:=j.trans s5;refine⟨_,rfl,x,L.ak,f,_,_,rfl,r _ _ u,L.aj.cl,L.aj.ry,oj ..,_,rfl,q,_,_,_,rfl,rfl,gL.of hq,rfl,_,_,rfl,rfl,av ?_,k H5 r⟩;show R.o.1.length+_<=_;unfold Wr.o;rw[v.2,w1.2];have h1:R.n*R.b<=10*1000:=wc3 ok.wH hb;have I:R.n*(ts.length+R.c)<=10*11000:=wc3 ok.wH (by omega);omega
theorem zM{H:Hp}{x:Addr}{R:Wr}{Q:VK}{E:XK}(W:rM K C CB l H x R)(k:∀j,a8 H j->Q (.int (R.b:Int)) j):Jq C CB [.ref x] H Q E:=by
 obtain⟨⟨a,p,c,h,i,dp,m,o,q,r,s,d,_,_,_,t,_,B⟩,ok⟩:=W;exact⟨x,c,a,_,R.n,R.g,R.bw,R.ss,R.ls,rfl,d,lz ..,j2 ..,B,ok.n1,ok.wH,λw hw=>(ok.hw w hw).2,ok.bl,λb j e f=>by rw[Bs.nj.one f ok.bh];exact k j e⟩
inductive Go(K:wa2)(C CB CP:Addr)(vs:List V)(H:Hp)(Q:VK)(eE:XK):Prop
 |mk (x R) (_:vs=[.ref x]) (_:rM K C CB CP H x R) (_:∀a H',a8 H H'->iF H' a R.wl->Q (.ref a) H')
theorem rN{R:Wr}(ok:DI R):∀k,k<=R.wl.length->(dP R.wl k).length<=k*8
 |0,_=>waB _
 |k+1,h=>by
  have a:=rN ok k (by omega);have:=ok.w.ln _ (wa9 (cW (show k<R.wl.length by omega)));have:=ok.m8;rw[wg,wa5,wa0];omega
theorem rP(L:Lk K mg):aS P w K mg base d8 2 L.lQ L.lR ["writer"] (Go K L.ak L.az L.aR):=by
 have T:=L.T;refine L.ib.F.dQ (N:=["writer","steps","desk","word","end"]) (λhX A outer s H vs Q E nd g h=>?_);obtain⟨x,R,rfl,O,k⟩:=h
 refine⟨_,(a7 (ai (i:=1) cY)
  (a7 (b0 wal rfl (cT rfl T.range (a5 (bP (pv 0) L.aj.cl L.cq.m (iq L) (g.mono (by decide)) L.cq.b .nil bI) a9)) (aw (i:=2)) (ag (b0 wal rfl (aN (cX (pv 0) L.aj.cl L.dn.m (lX L) (g.mono (by decide)) L.dn.b .nil bI (a5 (pv 2) a9))) (dG rfl (aK (aw (i:=3)) (aK (aw (i:=4)) cB))) (ag (bu (j8 waT waX waZ cV (w9 (pv 1) (pv 3) (cC a9) ⟨rfl,rfl,rfl,rfl⟩) (a5 (ee (a5 (pv 2) (a5 (pv 4) a9))) a9)))))))
  (ag (aB (pv 1))))),?_⟩
 try dsimp only[dC,dA,b6,b7]
 refine λa ha=>?_;have s0:a8 H (upd H a (.dK [])):=a8.upd ha;obtain⟨⟨dx,p,xb,aa,ll,dp,wa,wb,wc,wz,ys,hx,_⟩,ok⟩:=id O;have MF:=ok.l1;have m8:=ok.m8;refine⟨_,rfl,x,dx,_,rfl,s0 _ _ hx,cM _ _ _ _ _ _ _ _ (by decide+kernel),x,R,rfl,O.same s0,?_⟩;refine⟨(R.wl.length:Int),rfl,by omega,by omega,?_⟩;rw[waG];refine cU (lo:=0) (n:=R.wl.length) (λi σ e=>i<=R.wl.length/\eC H e a (dP R.wl i)/\∃S o v4,σ=[some (.ref x),some (.ref a),S,o,v4]) ⟨waB _,eC.start ha,none,none,none,rfl⟩ ?_ ?_
 ·rintro i σ e hi ⟨_,M,S,o,v4,rfl⟩;show dD 2 (V.int (0+(i:Int))) _ _ _;rw[wcG];refine⟨_,rfl,x,dx,_,rfl,M.s _ _ hx,cM _ _ _ _ _ _ _ _ (by decide+kernel),_,rfl,x,R,i,rfl,O.same M.s,hi,λy z s3 r3=>?_⟩;obtain⟨yb,u,rfl,hS,U⟩:=dY r3;have X:=ok.w.ln _ (wa9 (cW hi));have Y:=rN ok i (by omega);have C:u.length=(R.wl.getD i []).length:=by rw[U.1,wa0,wa0]
  have MB:=M.over s3;have Z:a8 (aJ e z) (nu H e z):=JA;have sO:a8 H (nu H e z):=Jz M.s;have d:=wg R.wl i;generalize nu H e z=B at MB Z sO;generalize R.wl.getD i []=c at U X C d;refine⟨yb,rfl,⟨_,(bZ _ _).seq hS⟩,dh (K:=K) (a:=yb) (xs:=u.map V.ref) (λj σ J=>eC B J a (dP R.wl i++(c.take j).map λq=>(i,q.1,q.2))/\∃o v4,σ=[some (.ref x),some (.ref a),some (.int (i:Int)),o,v4]) ⟨by rw[wdo,wdQ,waY];exact MB,o,v4,rfl⟩ (λj σ J _ q=>(Z.trans q.1.s).seq hS) ?_ ?_⟩
  ·rintro j y σ J hy ⟨t,o,v4,rfl⟩;have hj:j<u.length:=by have:=(wa6.mp hy).1;rwa[wa0]at this
   have D:j<c.length:=by omega
   rw[wa4,wa1 hj]at hy;cases hy;have G:(aJ e z) u[j]=some (.tup [.str c[j].1,.int (c[j].2:Int)]):=U.2 j u[j] (jF (eI c[j])) (wa1 hj) (by rw[wa4,wa4,wa1 D];rfl);have f:dP R.wl i++(c.take (j+1)).map (λq=>(i,q.1,q.2))=(dP R.wl i++(c.take j).map λq=>(i,q.1,q.2))++[(i,c[j].1,c[j].2)]:=by rw[waN,wa1 D,wao,waS];rfl
   have G4:(dP R.wl i++(c.take j).map λq=>(i,q.1,q.2)).length<=400:=by rw[wa5,wa0,wak];omega
   generalize c[j]=q at G f;generalize dP R.wl i++(c.take j).map (λq=>(i,q.1,q.2))=done at t f G4;refine⟨u[j],_,rfl,gL.of (Z.trans t.s _ _ G),rfl,_,_,rfl,_,_,rfl,rfl,?_⟩;obtain⟨_,_,kv0,Rq,_⟩:=id t;refine⟨_,rfl,a,rfl,.inl ⟨_,.inl Rq⟩,_,rfl,waB _,λl0 MJ=>?_⟩;obtain⟨I,k1,k2,k3,k4⟩:=t.step MJ q.1 i q.2;refine⟨I,wai q.1,k1,rfl,?_,λv hv=>?_,λhn=>?_⟩
   ·have:=fu I (wai q.1:Key) (.ref l0);exact av (by omega)
   ·obtain⟨l,Sv,rfl,a1,a2,a3⟩:=k3 v hv;refine⟨.inl ⟨rfl,_,aM.of a1⟩,_,rfl,_,rfl,by show 2<=sizeLine;decide,λr g=>⟨l,_,_,rfl,rfl,a8.upd g _ _ a1,by rw[wa0];exact bz (by omega),?_⟩⟩;rw[f];exact⟨a3 r g,_,_,rfl⟩
   ·obtain⟨a1,a3⟩:=k4 hn;refine⟨.inl ⟨rfl,_,aM.of a1⟩,_,rfl,_,rfl,by show 2<=sizeLine;decide,λr g=>⟨l0,_,_,rfl,rfl,a8.upd g _ _ a1,by show 0<sizeLine;decide,?_⟩⟩;rw[f];exact⟨a3 r g,_,_,rfl⟩
  ·rintro σ J ⟨t,o,v4,rfl⟩;rw[wa0,C,waI,<-d]at t;exact⟨hi,t.back sO,_,_,_,rfl⟩
 ·rintro σ e ⟨_,M,S,o,v4,rfl⟩;have Y:=rN ok _ (waa _);exact⟨_,rfl,k a e M.s (M.done (by omega))⟩
inductive LY(K:wa2)(vs:List V)(H:Hp)(Q:VK)(eE:XK):Prop
 |mk (l b:Addr) (rs:List Addr) (ps:List (Nat×Nat)) (es:List Nat) (_:vs=[.ref l,.ref b]) (_:aM K H l (rs.map V.ref)) (_:b8 H rs (ps.map jW)) (_:aM K H b ((nI es).map V.int)) (_:ps.length<=1000) (_:es.length<=1000) (_:∀y ds H',a8 H H'->H' y=some (.lst ((nI ds).map V.int))->(∀i:Nat,i∈ds↔∃e∈es,(i,e)∈ps)->ds.length<=ps.length->Q (.ref y) H')
theorem xt(L:Lk K mg):aS P w K mg base d8 1 L.qi L.qj ["pairs","ends"] (LY K):=by
 have T:=L.T;refine L.lq.F.dQ (N:=["pairs","ends","wanted","end","found","desk"]) (λhX A outer s H vs Q E nd hr h=>?_);obtain⟨l,b,x,ps,B,rfl,hL,hT,hE,pl,el,k⟩:=h;have f:=fb hr
 refine⟨_,(a7 (ai (i:=2) cY)
  (a7 (b0 wal rfl (aN (pv 1)) (aw (i:=3)) (ag (et f (pv 2) (pv 3) gX rfl)))
  (a7 (ai (i:=4) cY)
  (a7 (b0 wal rfl (aN (pv 0)) (dG rfl (aK (aw (i:=5)) (aK (aw (i:=3)) cB))) (ag (bK (yR (Hn f (pv 3) (pv 2))) (ag (et f (pv 4) (pv 5) gX rfl)) aQ)))
  (ag (aB (bH (kh rfl) (by rfl) T.list iN (a5 (pv 4) a9)))))))),?_⟩
 try dsimp only[dC,dA,b6,b7]
 refine λm hw=>?_;have X:x.length=ps.length:=by rw[hT.1,wa0]
 refine⟨_,rfl,b,rfl,⟨_,(a8.upd hw).seq hE⟩,dh (K:=K) (a:=b) (xs:=(nI B).map V.int) (λi σ t=>a8 H t/\(∃n,t m=some (.dK (dB n))/\(∀e,e∈n↔e∈B.take i)/\n.length<=i)/\∃u,σ=[some (.ref l),some (.ref b),some (.ref m),u,none,none]) ⟨a8.upd hw,⟨[],a6,λe=>by rw[wdo],waa _⟩,none,rfl⟩ (λi σ t _ q=>q.1.seq hE) ?_ ?_⟩
 ·rintro i y σ t j ⟨J,⟨n,M,f,ul⟩,u,rfl⟩;have hi:i<B.length:=by have:=(wa6.mp j).1;rwa[wa0,cJ]at this
  rw[vr (wa1 hi)]at j;cases j;obtain⟨Y,Z,e2,e3⟩:=JC B[i] n;refine⟨_,rfl,_,rfl,m,_,rfl,ke.k (k:=wb2 (B[i]:Int)) M (bz (by unfold dB;rw[wa0];omega)),?_⟩;rw[Z];refine⟨λc o e=>by rw[ae (af e hw)];exact J _ _ e,⟨Y,a6,λe=>?_,by omega⟩,_,rfl⟩;rw[e2,f,waN,wa1 hi,waA];simp
 ·rintro σ t ⟨J,⟨n,M,f,ul⟩,u,rfl⟩;rw[wa0,cJ,waI]at f;refine λfd O=>?_;have nwf:m≠fd:=af M O;have s3:=J.trans (a8.upd (o:=.dK []) O);have h3:=a8.upd (o:=.dK []) O _ _ M;have g3:(upd t fd (.dK [])) fd=some (.dK (dB [])):=a6;have ff:=none_of J O;generalize upd t fd (.dK [])=H3 at s3 h3 g3;refine⟨_,rfl,l,rfl,⟨_,s3.seq hL⟩,dh (K:=K) (a:=l) (xs:=x.map V.ref) (λi σ C=>a8 H C/\C m=some (.dK (dB n))/\(∃r,C fd=some (.dK (dB r))/\(∀d,d∈r↔∃e∈B,(d,e)∈ps.take i)/\r.length<=i)/\∃u v5,σ=[some (.ref l),some (.ref b),some (.ref m),u,some (.ref fd),v5]) ⟨s3,h3,⟨[],g3,λd=>⟨(λz=>nomatch z),λ⟨e,_,z⟩=>by rw[wdo]at z;cases z⟩,waa _⟩,_,none,rfl⟩ (λi σ C _ q=>q.1.seq hL) ?_ ?_⟩
  ·rintro i y σ C j ⟨D,R,⟨r,S,hd,dl⟩,u,v5,rfl⟩;have hi:i<x.length:=by have:=(wa6.mp j).1;rwa[wa0]at this
   have G:i<ps.length:=by omega
   rw[wa4,wa1 hi]at j;cases j;have I:H x[i]=some (.tup (jW ps[i])):=hT.2 i x[i] _ (wa1 hi) (by rw[wa4,wa1 G];rfl);have v:ps.take (i+1)=ps.take i++[ps[i]]:=by rw[waN,wa1 G];rfl
   generalize ps[i]=p at I v;refine⟨x[i],_,rfl,gL.of (D _ _ I),rfl,_,_,rfl,_,_,rfl,rfl,?_⟩;have g:=eD.k (k:=(wb2 (p.2:Int):Key)) R;rw[zp]at g
   by_cases U:p.2∈n
   ·rw[if_pos U]at g;obtain⟨ds',Z,e2,e3⟩:=JC p.1 r;refine⟨_,rfl,_,rfl,m,_,rfl,g,true,rfl,fJ ?_⟩;refine⟨_,rfl,_,rfl,fd,_,rfl,ke.k (k:=wb2 (p.1:Int)) S (bz (by unfold dB;rw[wa0];omega)),?_⟩;rw[Z];refine⟨λc o e=>by rw[ae (af e ff)];exact D _ _ e,by rw[ae nwf];exact R,⟨ds',a6,λd=>?_,by omega⟩,_,_,rfl⟩;rw[e2,hd,v];constructor
    ·rintro(⟨e,a,c⟩ |rfl)
     ·exact⟨e,a,waU _ c⟩
     ·exact⟨p.2,(f _).mp U,waJ _ (wat.mpr rfl)⟩
    ·rintro⟨e,a,c⟩;rcases waA.mp c with c |c
     ·exact .inl ⟨e,a,c⟩
     ·exact .inr (congrArg Prod.fst (wat.mp c))
   ·rw[if_neg U]at g;refine⟨_,rfl,_,rfl,m,_,rfl,g,false,rfl,cm ⟨D,R,⟨r,S,λd=>?_,by omega⟩,_,_,rfl⟩⟩;rw[hd,v];constructor
    ·rintro⟨e,a,c⟩;exact⟨e,a,waU _ c⟩
    ·rintro⟨e,a,c⟩;rcases waA.mp c with c |c
     ·exact⟨e,a,c⟩
     ·have:=congrArg Prod.snd (wat.mp c);exact absurd ((f _).mpr (this ▸ a)) U
  ·rintro σ C ⟨D,R,⟨r,S,hd,dl⟩,u,v5,rfl⟩;rw[wa0,X]at hd dl;rw[waI]at hd;refine⟨_,rfl,fd,_,rfl,S,λy j=>?_⟩;rw[Ek];exact k y r _ (D.trans (a8.upd j)) a6 hd dl
theorem gi(L:Lk K mg):aS P w K mg base d8 1 L.jM L.jN ["self","row"] (CU L.az):=by
 have T:=L.T;refine L.bN.F.dQ (N:=["self","row","number","sign"]) (λm A outer s H z Q E nd C h=>?_);obtain⟨x,r,g,D,ss,ls,rfl,B,n,k⟩:=h;obtain⟨⟨t,b,d,q,G,u,I,J,M,O,R⟩,_,_,_⟩:=id B;refine⟨_,(ag (b0 wal rfl (AD (by rfl) T.enum (a5 (pv 1) a9)) (dG rfl (aK (aw (i:=2)) (aK (aw (i:=3)) cB))) (ag (bK (aH yY (pv 3) (aD (pv 0) rfl) rfl) dg aQ)))),?_⟩
 try dsimp only[dC,dA,b6,b7]
 refine⟨_,rfl,r,rfl,yc (λi σ a=>a8 H a/\∃f j,σ=[some (.ref x),some (.str r),f,j]) ⟨a8.refl _,none,none,rfl⟩ ?_ (λσ a p=>k a p.1)⟩;rintro i c σ a T hc ⟨v,f,j,rfl⟩ y;have l:=v.trans (a8.upd (o:=.tup [.int (i:Nat),.str ⟨#[c]⟩]) y);refine⟨T,_,rfl,gL.of a6,rfl,_,_,rfl,_,_,rfl,rfl,?_⟩;refine⟨_,rfl,_,rfl,x,L.az,t,_,_,rfl,l _ _ u,L.aG.cl,L.aG.pG,kz g b d q,_,_,rfl,rfl,_,rfl,?_⟩
 have e:(!(wcZ g ⟨#[c]⟩ 0 g.length 1).isEmpty)=true:=by
  have:=E6 g c;rw[decide_eq_true (n c (wa9 hc))]at this;exact this
 rw[e];exact cm ⟨l,_,_,rfl⟩
theorem rQ(L:Lk K mg):aS P w K mg base d8 2 L.lO L.lP ["self","row"] (Fq L.az):=by
 have T:=L.T;refine L.fi.F.dQ (N:=["self","row","place","number","sign"]) (λJ A outer s H X Q E nd p h=>?_);obtain⟨x,r,g,t,ss,ls,rfl,B,u,v,hw,k⟩:=h;obtain⟨⟨y,b,d,q,mv,z,Y,M,O,R,Z⟩,pm,_,_⟩:=id B;have C:("":Str)∈ss:=pm.mem_iff.mpr (cn t);have D:=fb p
 refine⟨_,(a7 (bu (cX (pv 0) L.aG.cl L.bN.m (gi L) (p.mono (by decide)) L.bN.b .nil bI (a5 (pv 1) a9)))
  (a7 (ai (i:=2) eV)
  (a7 (b0 wal rfl (AD (by rfl) T.enum (a5 (pv 1) a9)) (dG rfl (aK (aw (i:=3)) (aK (aw (i:=4)) cB))) (a7 (ai (i:=2) (da D (da D (aD (pv 0) rfl) (pv 2) (λ_ _=>rfl)) (pv 4) (λ_ _=>rfl)))
  (ag (bK (aH GY (pv 2) gu (aU _)) dg aQ))))
  (ag (aB (pv 2)))))),?_⟩
 try dsimp only[dC,dA,b6,b7]
 refine⟨_,rfl,x,y,_,rfl,z,CC _ _ _ _ (by decide+kernel) (by decide+kernel) (by decide+kernel) (by decide+kernel),_,rfl,x,r,g,t,ss,ls,rfl,B,u,λH1 S=>?_⟩;refine⟨_,rfl,r,rfl,yc (λi σ e=>a8 H e/\∃j v4,σ=[some (.ref x),some (.str r),some (.str (lend ss (di r i))),j,v4]) ⟨S,none,none,?_⟩ ?_ ?_⟩
 ·rw[take_zero,Ib C];rfl
 ·rintro i c σ e T hc ⟨l,j,v4,rfl⟩ U;have f:=l.trans (a8.upd (o:=.tup [.int (i:Nat),.str ⟨#[c]⟩]) U);have n:=u c (wa9 hc);obtain⟨a,ha,V⟩:=iG (mv:=mv) (k:=lend ss (di r i)) (by rw[O];exact pf C _);have G:=eD.k (k:=(wai (lend ss (di r i)):Key)) (f _ _ M);rw[V]at G;have I:=eD.k (k:=(wai (⟨#[c]⟩:Str):Key)) (f _ _ (R _ ha));rw[E9 n,KS pm hw (jC (AF r i) v),<-take_snoc hc,jC (AF r (i+1)) v,if_neg (by simp)]at I;refine⟨T,_,rfl,gL.of a6,rfl,_,_,rfl,_,_,rfl,rfl,?_⟩;refine⟨_,rfl,x,L.az,y,_,_,rfl,f _ _ z,L.aG.cl,L.aG.kM,km g b d q,_,rfl,d,_,rfl,G,_,rfl,a,_,rfl,I,?_⟩;exact⟨_,rfl,rfl,_,rfl,cm ⟨f,_,_,rfl⟩⟩
 ·rintro σ e ⟨l,j,v4,rfl⟩;have:=k e l;rw[<-take_all r]at this;exact⟨_,rfl,by rw[take_all]at this ⊢;exact this⟩
inductive LZ(C:Addr)(vs:List V)(H:Hp)(Q:VK)(eE:XK):Prop
 |mk (x r g ws ss ls) (_:vs=[.ref x,.str r]) (_:aX C H x g ws ss ls) (_:(∀c∈ch r,c∈ch g)) (_:ws.length<=1000) (_:∀H',a8 H H'->Q (.bl (!bears ws r)) H')
theorem tS(L:Lk K mg):aS P w K mg base d8 2 L.mZ L.n0 ["self","row"] (LZ L.az):=by
 refine L.fX.F.dQ (N:=["self","row"]) (λi A outer s H t Q E nd j h=>?_);obtain⟨x,r,g,c,ss,ls,rfl,B,l,hw,k⟩:=h
 refine⟨_,(a7 (bu (cX (pv 0) L.aG.cl L.bN.m (gi L) (j.mono (by decide)) L.bN.b .nil bI (a5 (pv 1) a9)))
  (ag (aB (GN (au (ig L) L.eJ (a5 (pv 1) (a5 (aD (pv 0) rfl) a9))))))),?_⟩
 try dsimp only[dC,dA,b6,b7]
 obtain⟨⟨e,b,d,q,u,f,n,v,y,z,C⟩,_,_,_⟩:=id B;refine⟨_,rfl,x,e,_,rfl,f,CC _ _ _ _ (by decide+kernel) (by decide+kernel) (by decide+kernel) (by decide+kernel),_,rfl,x,r,g,c,ss,ls,rfl,B,l,λD a=>?_⟩;exact⟨_,rfl,_,rfl,x,L.az,e,_,_,rfl,a _ _ f,L.aG.cl,L.aG.vE,sy g b d q,r,b,c,rfl,aM.of (a _ _ n),hw,λo p=>⟨_,rfl,k o (a.trans p)⟩⟩
inductive Gp(K:wa2)(C CB CP CE:Addr)(vs:List V)(H:Hp)(Q:VK)(eE:XK):Prop
 |mk (z dz x R) (_:vs=[.ref z,.ref x]) (_:H z=some (.ins CE dz [])) (_:rM K C CB CP (fH H z) x R) (_:∀H',(∀c o,H c=some o->c≠z->H' c=some o)->BD K C CB CP CE H' z R->Q .non H')
theorem oW(L:Lk K mg):aS P w K mg base d8 3 L.fU L.ji ["self","writer"] (Gp K L.ak L.az L.aR L.aL):=by
 refine L.fZ.F.dQ (N:=["self","writer"]) (λj A outer s H n Q E nd p h=>?_);obtain⟨z,b,x,R,rfl,l,g,k⟩:=h
 refine⟨_,(a7 (d4 (pv 0) (pv 1) rfl)
  (ag (d4 (pv 0) (au (rP L) L.ib (a5 (pv 1) a9)) rfl))),?_⟩
 try dsimp only[dC,dA,b6,b7]
 refine⟨_,rfl,_,rfl,z,L.aL,b,[],rfl,l,L.aF.cl,L.aF.cK,(show 0<1000 by decide),?_⟩;rw[MO];have g2:(upd H z (.ins L.aL b (yO x))) z=some (.ins L.aL b (yO x)):=a6;have d:∀c o,H c=some o->c≠z->(upd H z (.ins L.aL b (yO x))) c=some o:=λc o e hc=>by rw[ae hc];exact e
 generalize upd H z (.ins L.aL b (yO x))=q at g2 d;refine⟨_,rfl,x,R,rfl,g.same (fh d),λa m f P3=>?_⟩;refine⟨_,rfl,z,L.aL,b,_,rfl,f _ _ g2,L.aF.cl,L.aF.Er,(show 1<1000 by decide),?_⟩;rw[JE];have i:∀c o,H c=some o->c≠z->(upd m z (.ins L.aL b (JD x a))) c=some o:=λc o e hc=>by rw[ae hc];exact f _ _ (d c o e hc)
 exact k _ i ⟨b,x,a,a6,P3.put (f _ _ g2) _,g.same (fh i)⟩
inductive M0(K:wa2)(C CB CP CE:Addr)(u:Wr->V)(vs:List V)(H:Hp)(Q:VK)(eE:XK):Prop
 |mk (z R) (_:vs=[.ref z]) (_:BD K C CB CP CE H z R) (_:∀H',a8 H H'->Q (u R) H')
theorem j3(L:Lk K mg):aS P w K mg base d8 4 L.eT L.eU ["self"] (M0 K L.ak L.az L.aR L.aL (λR=>.int ((R.b:Int)+1+(R.c:Int)))):=by
 refine L.bW.F.dQ (N:=["self"]) (λn A outer s H q Q E nd f h=>?_);obtain⟨z,R,rfl,⟨g,x,a,i,r,e⟩,k⟩:=h;refine⟨_,(ag (aB (aO dH (aO dH (bP (aD (pv 0) rfl) L.aj.cl L.b5.m (dq L) (f.mono (by decide)) L.b5.b .nil bI) aq) (bP (aD (pv 0) rfl) L.aj.cl L.cp.m (ip L) (f.mono (by decide)) L.cp.b .nil bI)))),?_⟩
 try dsimp only[dC,dA,b6,b7]
 obtain⟨⟨j,p,t,u,v,dp,y,B,C,D,G,l,_⟩,ok⟩:=id e;refine⟨_,rfl,z,L.aL,g,_,_,rfl,i,L.aF.cl,L.aF.cK,bg x a,x,j,_,rfl,l,cM _ _ _ _ _ _ _ _ (by decide+kernel),zM e λo d=>?_⟩;exact⟨_,_,rfl,rfl,_,rfl,z,L.aL,g,_,_,rfl,d _ _ i,L.aF.cl,L.aF.cK,bg x a,x,j,_,rfl,d _ _ l,cM _ _ _ _ _ _ _ _ (by decide+kernel),x,R,rfl,e.same d,_,_,rfl,rfl,k o d⟩
inductive Gq(K:wa2)(C CB CP CE:Addr)(vs:List V)(H:Hp)(Q:VK)(eE:XK):Prop
 |mk (z R us) (_:vs=[.ref z,.str (cat us)]) (_:BD K C CB CP CE H z R) (_:(∀u∈us,u.length=R.n)) (_:us.length<=2000) (_:∀l ds H',a8 H H'->H' l=some (.lst ((nI ds).map V.int))->(∀e:Nat,e∈ds↔e<R.wl.length/\jS R.wl e us)->Q (.ref l) H')
theorem js(L:Lk K mg):aS P w K mg base d8 2 L.fD L.fE ["self","row"] (Gq K L.ak L.az L.aR L.aL):=by
 have T:=L.T;refine L.cw.F.dQ (N:=["self","row","wide","blocks","desks","block"]) (λhX A outer s H vs Q E nd hr h=>?_);obtain⟨z,R,c,rfl,⟨dz,x,a,hz,hP,Wv⟩,X,ul,k⟩:=h;have hu:=fb hr
 refine⟨_,(a7 (ai (i:=2) (aD (aD (pv 0) rfl) rfl))
  (a7 (fj (i:=3) rfl (ax ["row","wide"] [1,2]) nd rfl rfl (Gn rfl T.range (a5 aq (a5 (aC bJ (by rfl) T.len waM (a5 (pv 1) a9)) (a5 (pv 2) a9)))) (λ_ _ _ _ _ _=>bq) (λ_ _ _ _ _ _=>(cy ki (pv 1) (bp (pv 0)) (bp (aO dH (pv 0) (pv 2))))))
  (a7 (ai (i:=4) (bH (uP rfl) (by rfl) T.list iN (a5 (bH sx (by rfl) T.range Ee (a5 (bP (aD (pv 0) rfl) L.aj.cl L.cq.m (iq L) (hr.mono (by decide)) L.cq.b .nil bI) a9)) a9)))
  (a7 (b0 wal rfl (Ov (by rfl) T.reversed (a5 (pv 3) a9)) (aw (i:=5)) (ag (ai (i:=4) (au (xt L) L.lq (a5 (Hq hu (aD (pv 0) rfl) (pv 5) (cC a9) ⟨rfl,rfl,rfl,rfl⟩) (a5 (pv 4) a9))))))
  (ag (aB (pv 4))))))),?_⟩
 try dsimp only[dC,dA,b6,b7]
 obtain⟨⟨dx,p,xb,aa,ll,dp,wa,wb,wc,wz,ys,hx,_⟩,ok⟩:=id Wv;have n1:=ok.n1;have wH:=ok.wH;have l1:=ok.l1;have A5:(cat c).length=R.n*c.length:=gf X;have MD:R.n*c.length<=10*2000:=wc3 wH ul;refine⟨_,rfl,z,L.aL,dz,_,_,rfl,hz,L.aF.cl,L.aF.cK,bg x a,x,L.ak,dx,_,_,rfl,hx,L.aj.cl,L.aj.rx,j2 ..,?_⟩;refine⟨_,rfl,cat c,rfl,av (by omega),?_⟩;rw[A5,wbo];refine⟨_,rfl,(R.n:Int),c.length,rfl,by omega,by omega,by rw[<-wbo];omega,by omega,λlb SZ=>?_⟩;refine comp_map (λv=>match v with |.int i=>.str (wb0 (cat c) (some i) (some (i+(R.n:Int)))) |_=>.non) (AX 0 (R.n:Int) c.length) SZ (by rw[wa0,waO];exact av (by omega)) (λ_ _=>trivial) (λv I Q' hv Y q=>?_) (λI Y J=>?_)
 ·obtain⟨i,hi,rfl⟩:=wab.mp hv;exact⟨_,rfl,_,rfl,_,rfl,_,rfl,_,rfl,_,_,rfl,rfl,_,rfl,cat c,rfl,av (by omega),q I (a8.refl _)⟩
 have em:((waH c.length).map λ(i:Nat)=>V.int (0+(i:Int)*(R.n:Int))).map (λv=>match v with |.int i=>V.str (wb0 (cat c) (some i) (some (i+(R.n:Int)))) |_=>.non)=c.map V.str:=by
  rw[wah];refine List.ext_getElem (by rw[wa0,wa0,waO]) λi h1 J=>?_;rw[wa0]at J;rw[whI,whI,List.getElem_range];show V.str (wb0 (cat c) (some (0+(i:Int)*(R.n:Int))) (some (0+(i:Int)*(R.n:Int)+(R.n:Int))))=_;rw[show (0:Int)+(i:Int)*(R.n:Int)=((R.n*i:Nat):Int) by rw[wcG,wbo,weB],show ((R.n*i:Nat):Int)+(R.n:Int)=((R.n*(i+1):Nat):Int) by rw[weS];omega,zK X (wc1 i) J];rw[show (c.take (i+1)).drop i=[c[i]] by rw[waN,wa1 J,wcu (by rw[wak];omega),wby (by rw[wak];omega)];rfl,ED]
 rw[em]at J;refine⟨_,rfl,z,L.aL,dz,_,_,rfl,Y _ _ hz,L.aF.cl,L.aF.cK,bg x a,x,dx,_,rfl,Y _ _ hx,cM _ _ _ _ _ _ _ _ (by decide+kernel),x,R,rfl,Wv.same Y,?_⟩;refine⟨_,rfl,λpg hpg=>⟨pg,R.wl.length,rfl,a6,av (by omega),λZ MJ=>?_⟩⟩;have s3:a8 I (upd (upd I pg (.rng 0 (R.wl.length:Int))) Z (.lst ((waH R.wl.length).map λi=>V.int (i:Nat)))):=(a8.upd hpg).trans (a8.upd MJ);have h3:(upd (upd I pg (.rng 0 (R.wl.length:Int))) Z (.lst ((waH R.wl.length).map λi=>V.int (i:Nat)))) Z=some (.lst ((nI (waH R.wl.length)).map V.int)):=by rw[a6,vz]
 generalize upd (upd I pg (.rng 0 (R.wl.length:Int))) Z (.lst ((waH R.wl.length).map λi=>V.int (i:Nat)))=H3 at s3 h3;have xk:=Y.trans s3;have Xz:=s3 _ _ J;refine⟨_,rfl,lb,_,rfl,aM.of Xz,m9 (Jv K lb (c.map V.str)) (λi σ j=>i<=c.length/\a8 H3 j/\∃l r v5,σ=[some (.ref z),some (.str (cat c)),some (.int (R.n:Int)),some (.ref lb),some (.ref l),v5]/\j l=some (.lst ((nI r).map V.int))/\(∀e:Nat,e∈r↔e<R.wl.length/\jS R.wl e (c.drop (c.length-i)))/\r.length<=1000) ⟨waB _,a8.refl _,Z,_,none,rfl,h3,λe=>?_,by rw[waO];omega⟩ (λi σ j _ q=>aM.of (q.2.1 _ _ Xz)) ?_ ?_⟩
 ·rw[wb5,Nat.sub_zero,whG];exact⟨λh=>⟨h,trivial⟩,λh=>h.1⟩
 ·rintro i y σ j hy ⟨_,s4,l,r,v5,rfl,h4,hd,dl⟩;have hi:i<c.length:=by have:=(wa6.mp hy).1;rwa[wcA,wa0]at this
  rw[wgy (by rw[wa0];exact hi),wa0,wa4,wa1 (show c.length-1-i<c.length by omega)]at hy;cases hy
  have D:c.drop (c.length-(i+1))=c[c.length-1-i]::c.drop (c.length-i):=by
   rw[show c.length-(i+1)=c.length-1-i by omega,wfm (show c.length-1-i<c.length by omega),show c.length-1-i+1=c.length-i by omega]
  generalize c[c.length-1-i]'(by omega)=w at D;generalize c.drop (c.length-i)=rest at hd D;have G:=xk.trans s4;obtain⟨kvs,p1,p2⟩:=id hP
  have fin:∀(M:Addr) (O:List Addr) (ps:List (Nat×Nat)) (t:Hp),a8 j t->t M=some (.lst (O.map V.ref))->b8 t O (ps.map jW)->ps.length<=1000->(∀i e:Nat,(i,e)∈ps↔(w,e)∈R.wl.getD i [])->∀(y:Addr) (d:List Nat) (H':Hp),a8 t H'->(∀i:Nat,i∈d↔∃e∈r,(i,e)∈ps)->∀e:Nat,e∈d↔e<R.wl.length/\jS R.wl e (c.drop (c.length-(i+1))):=by
   intro M O ps t _ _ _ _ S y d H' _ K2 e;rw[K2,D];constructor
   ·rintro⟨e',u,B⟩;have U:=(S _ _).mp B;refine⟨wcl λq=>?_,e',U,((hd _).mp u).2⟩;rw[wa3,wck (by omega)]at U;cases U
   ·rintro⟨_,e',u,B⟩;exact⟨e',(hd _).mpr ⟨ok.rd.e _ _ u,B⟩,(S _ _).mpr u⟩
  refine⟨_,rfl,z,L.aL,dz,_,_,rfl,G _ _ hz,L.aF.cl,L.aF.Er,BC x a,a,rfl,.inl ⟨_,.inl (G _ _ p1)⟩,_,rfl,waB _,λle hle=>?_⟩;have C:=a8.upd (H:=j) (o:=.lst []) hle;have h5:(upd j le (.lst [])) le=some (.lst (([]:List Addr).map V.ref)):=a6;generalize upd j le (.lst [])=t at C h5;have f:=G.trans C;have g:=eD.k (k:=(wai w:Key)) (f _ _ p1);rcases p2 w with⟨u,B⟩ |⟨M,O,ps,u,B,U,q4,q5⟩
  ·rw[u]at g;refine⟨none,g,_,rfl,le,l,[],[],r,rfl,aM.of h5,b8.nil _,aM.of (C _ _ h4),waB _,dl,λy d H6 s6 h6 S hl=>?_⟩;exact⟨hi,s4.trans (C.trans s6),y,d,_,rfl,h6,fin le [] [] t C h5 (b8.nil _) (waB _) (λi e=>⟨(λh=>nomatch h),λh=>absurd h (B i e)⟩) y d H6 s6 S,waj hl (waB _)⟩
  ·rw[u]at g;refine⟨some (.ref M),g,_,rfl,M,l,O,ps,r,rfl,aM.of (f _ _ B),U.same f,aM.of (C _ _ h4),q4,dl,λy d H6 s6 h6 S hl=>?_⟩;exact⟨hi,s4.trans (C.trans s6),y,d,_,rfl,h6,fin M O ps t C (f _ _ B) (U.same f) q4 q5 y d H6 s6 S,waj hl q4⟩
 ·rintro σ j ⟨_,s4,l,r,v5,rfl,h4,hd,dl⟩;rw[wcA,wa0,wbC,weO]at hd;exact⟨_,rfl,k l r j (xk.trans s4) h4 hd⟩
inductive Gr(K:wa2)(C CB CP CE:Addr)(vs:List V)(H:Hp)(Q:VK)(eE:XK):Prop
 |mk (z R bs w us) (_:vs=[.ref z,.str (cat (bs++w::us))]) (_:BD K C CB CP CE H z R) (_:(∀u∈bs++w::us,u.length=R.n/\∀c∈ch u,c∈ch R.g)) (_:bs.length=R.b) (_:us.length=R.c) (_:(bears R.bw (cat bs)=true->∀H',a8 H H'->Q .non H')) (_:(∀i:Nat,bears R.bw (cat bs)=false->jV R.ss R.hk R.wl (cat bs) w us i->∀H',a8 H H'->Q (.int (i:Int)) H')) (_:(bears R.bw (cat bs)=false->(∀i,¬jV R.ss R.hk R.wl (cat bs) w us i)->∀H',a8 H H'->Q .non H'))
theorem JI{ws:List Str}{g:Str}(h:∀u∈ws,∀c∈ch u,c∈ch g):∀c∈ch (cat ws),c∈ch g:=λc hc=>by
 rw[Jx]at hc;obtain⟨l,a,b⟩:=List.mem_flatten.mp hc;obtain⟨u,d,rfl⟩:=wab.mp a;exact h u d c b
noncomputable abbrev XA(R:Wr)(pl win:Str)(z ld:Addr)(v6 v7 v8:Option V):St:=[some (.ref z),some (.str win),some (.int ((R.n*R.b:Nat):Int)),some (.int ((R.n*(R.b+1):Nat):Int)),some (.str pl),some (.ref ld),v6,v7,v8]
inductive wfA(R:Wr)(H4:Hp)(pl w win:Str)(us:List Str)(z ld:Addr)(i:Nat)(σ:St)(H5:Hp):Prop
 |mk (_:i<=R.wl.length) (_:a8 H4 H5) (_:∀d j e:Nat,d<i->R.hk.getD d ""=pl->(R.wl.getD d [])[j]?=some (w,e)->¬jS R.wl e us) (v6 v7 v8) (_:σ=XA R pl win z ld v6 v7 v8)
inductive Vu(R:Wr)(H6:Hp)(pl w win:Str)(us:List Str)(z ld:Addr)(i j:Nat)(σ:St)(H7:Hp):Prop
 |mk (_:a8 H6 H7) (_:∀j' e:Nat,j'<j->(R.wl.getD i [])[j']?=some (w,e)->¬jS R.wl e us) (v7 v8) (_:σ=XA R pl win z ld (some (.int (i:Int))) v7 v8)
theorem Vu.s{w:Str}(q:Vu R g pl w win us z ld i j σ l):a8 g l:=by
 obtain⟨h,_⟩:=q;exact h
theorem lB(L:Lk K mg):aS P w K mg base d8 4 L.gn L.gp ["self","window"] (Gr K L.ak L.az L.aR L.aL):=by
 have T:=L.T;refine L.cO.F.dQ (N:=["self","window","start","end","place","desks","desk","number","step"]) (λhX A outer s H vs Q E nd hr h=>?_);obtain⟨z,R,bs,w,k,rfl,D,hw,hb,hc,kB,kI,kN⟩:=h
 refine⟨_,(a7 (ai (i:=2) (aO gx (bP (aD (pv 0) rfl) L.aj.cl L.b5.m (dq L) (hr.mono (by decide)) L.b5.b .nil bI) (aD (aD (pv 0) rfl) rfl)))
  (a7 (ai (i:=3) (aO dH (pv 2) (aD (aD (pv 0) rfl) rfl)))
  (a7 (bK (eW (cQ (cX (aD (aD (pv 0) rfl) rfl) L.aG.cl L.fX.m (tS L) (hr.mono (by decide)) L.fX.b .nil bI (a5 (cy ki (pv 1) gM (bp (pv 2))) a9)))) (ag (aB gu)) aQ)
  (a7 (ai (i:=4) (cX (aD (aD (pv 0) rfl) rfl) L.aG.cl L.fi.m (rQ L) (hr.mono (by decide)) L.fi.b .nil bI (a5 (cy ki (pv 1) gM (bp (pv 2))) a9)))
  (a7 (ai (i:=5) (cX (pv 0) L.aF.cl L.cw.m (js L) (hr.mono (by decide)) L.cw.b .nil bI (a5 (cy ki (pv 1) (bp (pv 3)) gM) a9)))
  (a7 (b0 wal rfl (cT rfl T.range (a5 (bP (aD (pv 0) rfl) L.aj.cl L.cq.m (iq L) (hr.mono (by decide)) L.cq.b .nil bI) a9)) (aw (i:=6)) (ag (bK (aH rY (cX (aD (pv 0) rfl) L.aj.cl L.ez.m (oV L) (hr.mono (by decide)) L.ez.b .nil bI (a5 (pv 6) a9)) (pv 4) (aU _)) (ag (b0 wal rfl (kj (by rfl) T.enum (a5 (cX (aD (pv 0) rfl) L.aj.cl L.dn.m (lX L) (hr.mono (by decide)) L.dn.b .nil bI (a5 (pv 6) a9)) a9)) (dG rfl (aK (aw (i:=7)) (aK (aw (i:=8)) cB))) (ag (bK (PW.pt (GL (aH rY (bf fI (pv 8) aq (λ_ _=>rfl)) (cy ki (pv 1) (bp (pv 2)) (bp (pv 3))) (aU _)) (DU (aH qQ (bf fI (pv 8) aq (λ_ _=>rfl)) (pv 5) rfl)))) (ag (aB (pv 7))) aQ)))) aQ)))
  (ag (aB gu)))))))),?_⟩
 try dsimp only[dC,dA,b6,b7]
 obtain⟨J,x,a,M,hP,Wv⟩:=id D;obtain⟨⟨Z,p,xb,aa,ll,dp,wa,wb,wc,wz,ys,hx,_,_,_,_,_,B⟩,ok⟩:=id Wv;obtain⟨⟨XC,bb,db,qb,mv,XE,_⟩,_,_,_⟩:=id B;have n1:=ok.n1;have wH:=ok.wH;have l1:=ok.l1;have b1:=ok.b1;have c1:=ok.c1;have f:∀u∈bs++w::k,u.length=R.n:=λu h=>(hw u h).1;have Ay:(cat (bs++w::k)).length=R.n*(R.b+(R.c+1)):=by rw[gf f,wa5,waK,hb,hc]
 have UO:R.n*(R.b+(R.c+1))<=10*3000:=wc3 wH (by omega);have e1:wb0 (cat (bs++w::k)) none (some ((R.n*R.b:Nat):Int))=cat bs:=by rw[Ow f,<-hb,wgr]
 have e2:wb0 (cat (bs++w::k)) (some ((R.n*(R.b+1):Nat):Int)) none=cat k:=by
  rw[Jy f,<-hb,show bs++w::k=(bs++[w])++k by rw[waS];rfl,show bs.length+1=(bs++[w]).length by rw[wa5];rfl,wgq]
 have e3:wb0 (cat (bs++w::k)) (some ((R.n*R.b:Nat):Int)) (some ((R.n*(R.b+1):Nat):Int))=w:=by
  rw[zK f (show R.b<=R.b+1 by omega) (by rw[wa5,waK];omega),<-hb,show bs++w::k=(bs++[w])++k by rw[waS];rfl,show bs.length+1=(bs++[w]).length by rw[wa5];rfl,wgr,wgq,ED]
 have XF:∀c∈ch (cat bs),c∈ch R.g:=JI λu h=>(hw u (waU _ h)).2;have SG:∀u∈k,u.length=R.n:=λu h=>f u (waJ _ (wac _ h));generalize Vv:cat (bs++w::k)=win at Ay e1 e2 e3;clear f hw Vv;refine yx λR1 q1=>?_;refine⟨_,rfl,z,L.aL,J,_,_,rfl,M,L.aF.cl,L.aF.cK,bg x a,x,Z,_,rfl,hx,cM _ _ _ _ _ _ _ _ (by decide+kernel),zM Wv λH1 O=>?_⟩;refine⟨_,rfl,z,L.aL,J,_,_,rfl,O _ _ M,L.aF.cl,L.aF.cK,bg x a,x,L.ak,Z,_,_,rfl,O _ _ hx,L.aj.cl,L.aj.rx,j2 ..,_,_,rfl,rfl,.inl ⟨by omega,by omega⟩,?_⟩;show dD 2 (V.int ((R.b:Int)*(R.n:Int))) _ _ _;rw[show (R.b:Int)*(R.n:Int)=((R.n*R.b:Nat):Int) by rw[wbo,weB]];refine q1 _ _ (yx λR2 q2=>?_);refine⟨_,rfl,_,rfl,z,L.aL,J,_,_,rfl,O _ _ M,L.aF.cl,L.aF.cK,bg x a,x,L.ak,Z,_,_,rfl,O _ _ hx,L.aj.cl,L.aj.rx,j2 ..,_,_,rfl,rfl,?_⟩;show dD 3 (V.int (((R.n*R.b:Nat):Int)+(R.n:Int))) _ _ _;rw[show ((R.n*R.b:Nat):Int)+(R.n:Int)=((R.n*(R.b+1):Nat):Int) by rw[weS];omega];refine q2 _ _ (yx λR3 q3=>?_);refine⟨_,rfl,z,L.aL,J,_,_,rfl,O _ _ M,L.aF.cl,L.aF.cK,bg x a,x,L.ak,Z,_,_,rfl,O _ _ hx,L.aj.cl,L.aj.vD,lz ..,xb,XC,_,rfl,O _ _ XE,CC _ _ _ _ (by decide+kernel) (by decide+kernel) (by decide+kernel) (by decide+kernel),_,rfl,_,rfl,_,rfl,win,rfl,av (by omega),?_⟩;rw[e1];refine⟨xb,cat bs,R.g,R.bw,R.ss,R.ls,rfl,B.same O,XF,ok.bl,λH2 s2=>?_⟩;have v:=O.trans s2
 cases S:bears R.bw (cat bs) with
 |true=>exact⟨false,rfl,fJ (kB S H2 v)⟩
 |false=>
  refine⟨true,rfl,cm ?_⟩;refine q3 _ _ (yx λR4 q4=>?_);refine⟨_,rfl,z,L.aL,J,_,_,rfl,v _ _ M,L.aF.cl,L.aF.cK,bg x a,x,L.ak,Z,_,_,rfl,v _ _ hx,L.aj.cl,L.aj.vD,lz ..,xb,XC,_,rfl,v _ _ XE,CC _ _ _ _ (by decide+kernel) (by decide+kernel) (by decide+kernel) (by decide+kernel),_,rfl,_,rfl,_,rfl,win,rfl,av (by omega),?_⟩;rw[e1];refine⟨xb,cat bs,R.g,R.bw,R.ss,R.ls,rfl,B.same v,XF,S,λw hw=>(ok.hw w hw).1,λH3 s3=>?_⟩;have xk:=v.trans s3;refine q4 _ _ (yx λR5 q5=>?_);refine⟨_,rfl,z,J,_,rfl,xk _ _ M,j1 (by show ("desks_ahead_of":Str)∉[("writer":Str),"pairs"];decide+kernel),_,rfl,_,rfl,_,rfl,win,rfl,av (by omega),?_⟩;rw[e2];refine⟨z,R,k,rfl,D.same xk,SG,by omega,λld ds H4 s4 h4 hd=>?_⟩;have I:=xk.trans s4;generalize KH:lend R.ss (cat bs)=pl;refine q5 _ _ ?_;clear q1 q2 q3 q4 q5;refine⟨_,rfl,z,L.aL,J,_,_,rfl,I _ _ M,L.aF.cl,L.aF.cK,bg x a,x,Z,_,rfl,I _ _ hx,cM _ _ _ _ _ _ _ _ (by decide+kernel),x,R,rfl,Wv.same I,(R.wl.length:Int),rfl,by omega,by omega,?_⟩;rw[waG];refine cU (lo:=0) (n:=R.wl.length) (wfA R H4 pl w win k z ld) ⟨waB _,a8.refl _,λd j e h=>absurd h (wcJ _),none,none,none,rfl⟩ ?_ ?_
  ·rintro i σ H5 hi ⟨_,s5,U,v6,v7,v8,rfl⟩;show dD 6 (V.int (0+(i:Int))) _ _ _;rw[wcG];have l:=I.trans s5;refine⟨_,rfl,z,L.aL,J,_,_,rfl,l _ _ M,L.aF.cl,L.aF.cK,bg x a,x,Z,_,rfl,l _ _ hx,cM _ _ _ _ _ _ _ _ (by decide+kernel),_,rfl,x,R,i,rfl,Wv.same l,hi,_,rfl,rfl,_,rfl,Am (λh1=>?_) (λh1=>?_)⟩
   ·have Od:R.hk.getD i ""=pl:=V.str.inj (of_decide_eq_true h1);refine⟨_,rfl,z,L.aL,J,_,_,rfl,l _ _ M,L.aF.cl,L.aF.cK,bg x a,x,Z,_,rfl,l _ _ hx,cM _ _ _ _ _ _ _ _ (by decide+kernel),_,rfl,x,R,i,rfl,Wv.same l,hi,λy H6 s6 r6=>?_⟩;obtain⟨yb,X,rfl,hS,hT⟩:=dY (bL.same (bZ _ _) _ _ r6);have Dw:X.length=(R.wl.getD i []).length:=by rw[hT.1,wa0,wa0]
    refine⟨yb,_,rfl,hS,md (K:=K) (a:=yb) (xs:=X.map V.ref) (Vu R H6 pl w win k z ld i) ⟨a8.refl _,λj e h=>absurd h (wcJ _),v7,v8,rfl⟩ (λj σ H7 _ q=>q.s.seq hS) ?_ (λσ H7 q=>?_)⟩
    ·rintro j y σ H7 T hy ⟨s7,t,v7,v8,rfl⟩ Kt;have hj:j<X.length:=by have:=(wa6.mp hy).1;rwa[wa0]at this
     have XG:j<(R.wl.getD i []).length:=by omega
     rw[wa4,wa1 hj]at hy;cases hy;have Vw:H6 X[j]=some (.tup [.str (R.wl.getD i [])[j].1,.int ((R.wl.getD i [])[j].2:Int)]):=hT.2 j X[j] (jF (eI (R.wl.getD i [])[j])) (wa1 hj) (by rw[wa4,wa4,wa1 XG];rfl);have Y:(R.wl.getD i [])[j]?=some (R.wl.getD i [])[j]:=wa1 XG;generalize (R.wl.getD i [])[j]=q at Vw Y;have s8:=a8.upd (H:=H7) (o:=.tup [.int (j:Nat),.ref X[j]]) Kt;refine⟨T,_,rfl,gL.of a6,rfl,_,_,rfl,_,_,rfl,rfl,?_⟩;generalize upd H7 T (.tup [.int (j:Nat),.ref X[j]])=H8 at s8;have C:=s7.trans s8;have Pa:=l.trans (s6.trans C)
     have next:¬(q.1=w/\jS R.wl q.2 k)->∀j' e:Nat,j'<j+1->(R.wl.getD i [])[j']?=some (w,e)->¬jS R.wl e k:=λhn j' e h1 G r=>by
      by_cases c:j'<j
      ·exact t j' e c G r
      ·obtain rfl:j'=j:=by omega
       rw[Y]at G;have G:=wag G;exact hn ⟨congrArg Prod.fst G,by rw[show q.2=e from congrArg Prod.snd G];exact r⟩
     refine⟨_,rfl,X[j],_,_,_,rfl,rfl,gL.of (C _ _ Vw),rfl,_,rfl,_,rfl,_,rfl,_,rfl,_,rfl,win,rfl,av (by omega),?_⟩;rw[e3];refine⟨rfl,_,rfl,Am (λG=>?_) (λG=>?_)⟩
     ·have hqw:q.1=w:=V.str.inj (of_decide_eq_true G);refine⟨_,rfl,X[j],_,_,_,rfl,rfl,gL.of (C _ _ Vw),rfl,_,rfl,ld,_,rfl,.inl (aM.of ((s5.trans (s6.trans C)) _ _ h4)),rfl,iI _,_,rfl,?_⟩;rw[Bb];refine Am (λr=>?_) (λr=>?_)
      ·have r:=(hd _).mp (of_decide_eq_true r);exact⟨_,rfl,kI j S ⟨i,q.2,hi,by rw[KH];exact Od,by rw[Y,<-hqw],r.2⟩ H8 Pa⟩
      ·exact⟨C,next λh=>r (decide_eq_true ((hd _).mpr ⟨ok.rd.e _ _ (wa9 Y),h.2⟩)),_,_,rfl⟩
     ·exact⟨C,next λh=>G (decide_eq_true (congrArg V.str h.1)),_,_,rfl⟩
    ·obtain⟨s7,t,v7',v8',rfl⟩:=q;rw[wa0]at t;refine⟨hi,s5.trans (s6.trans s7),λd j e h1 G r=>?_,_,_,_,rfl⟩
     by_cases c:d<i
     ·exact U d j e c G r
     ·obtain rfl:d=i:=by omega
      exact t j e (by have:=(wa6.mp r).1;omega) r
   ·refine⟨hi,s5,λd j e G r h4=>?_,_,_,_,rfl⟩
    by_cases c:d<i
    ·exact U d j e c r h4
    ·obtain rfl:d=i:=by omega
     exact absurd (decide_eq_true (congrArg V.str r)) h1
  ·rintro σ H5 ⟨_,s5,U,v6,v7,v8,rfl⟩;refine kN S (λi h=>?_) H5 (I.trans s5);obtain⟨d,e,q1,q2,q3,q4⟩:=h;exact U d i e q1 (by rw[q2,KH]) q3 q4
theorem RM{R:Wr}(ok:DI R):R.o.1.length=R.n*R.b:=by
 have m1:=ok.m1;have a:=qw ok.w (wc8.mpr ok.w.ne) (ts:=wam R.b 0) λt c=>by rw[(wdh.mp c).2];omega
 rw[waP]at a;exact a.2
end
end K53
namespace Bs
open PySem L2 Sx
theorem JK{g:Str}:∀(n:Nat) (r:Str),r∈JZ g n->∀c∈ch r,c∈ch g
 |0,r,h,c,hc=>by
  rw[wat.mp h]at hc;exact nomatch hc
 |n+1,r,h,c,hc=>by
  obtain⟨p,a,h⟩:=wcB.mp h;obtain⟨d,hd,rfl⟩:=wab.mp h;rw[aY]at hc;rcases waA.mp hc with z |z
  ·exact JK n p a c z
  ·rw[wat.mp z];exact hd
theorem M3{K:wa2}{C CB J T:Addr}{H:Hp}{x t:Addr}{g:Str}{bw ss ls:List Str}{many:Int}{n:Nat}{f:Str->Int}{r:List zt}{j:List Nat}{hs:List Str}{ws:List Int}{lns:List (List (Str×Nat))}{b:Nat}(B:aX CB H t g bw ss ls)(W:Bw K C J T H x t many n (cz f ls) r j hs ws lns b)(P:i5 g bw ss ls many n f r j hs ws lns)(U:GC many n (fq lns j many.toNat))(I:nj bw n b)(nd:(ch g).Nodup)(hw:∀w∈bw,1<=w.length/\w.length<=900)(bl:bw.length<=1000)(gl:g.length<=10)(m1:1<=many)(m8:many<=8)(n1:1<=n)(wH:n<=10):rM K C CB J H x ⟨g,bw,ss,ls,oU hs j,many,n,b,r.length,fq lns j many.toNat⟩:=by
 obtain⟨u,p,a,l,v,⟨dp,y,z,A,D,E,_,G,_,_⟩,L,M⟩:=W;obtain⟨S,N,O,Q,k⟩:=id G;cases O;have c:∀p∈ls,p∈ss:=λp h=>B.lv.sub.subset h;have i:∀w∈bw,1<=w.length:=λw h=>(hw w h).1
 have R:j.length<=40:=by
  have m:=P.ko.ab.sub.length_le;have o:=P.b.l;have V:=P.ln;rw[waO]at m;omega
 have sl:=P.sl;have kp:0<j.length:=wc8.mpr P.ne;refine⟨⟨u,p,t,a,l,dp,y,z,A,D,N,v,E,.inl Q,by rw[k.len,wa0],M,.inl (uh L),B⟩,U,m1,m8,n1,wH,I.le,by show r.length<=1000;omega,?_,?_,I,hw,bl,gl,P.read nd B.pm i c (B.nd.sublist B.lv.sub) _,λd q s=>?_,?_,Gk I n1 B.pm,B.pm⟩
 ·show (oU hs j).length=_;rw[w6];exact wa0 ..
 ·show (fq lns j many.toNat).length<=40;rw[w6];exact R
 ·have hd:=Ju s;have m:=(zI (w:=q.1) (e:=q.2) s).2;have o:j.getD d 0<hs.length:=by have:=(P.ko.st _ (wa9 (getD_some 0 hd))).1;have:=P.b.l;omega
  exact JK n _ (P.cv.Fh P.b.l (λp h=>c p (P.sb p h)) B.pm i o m).2.2
 ·show (oU hs j).getD 0 ""∈ss;rw[jR kp];have hk:=(P.steps B.pm i c many.toNat kp).1;rw[wa3,wa1 hk];exact c _ (P.sb _ (waL hk))
theorem EF{R:Wr}(ok:DI R):∀(ts:List Nat) (d:Nat),d<R.wl.length->(∀t∈ts,(t:Int)<R.many)->∀u∈eK R.wl d ts,u.length=R.n/\∀c∈ch u,c∈ch R.g
 |[],_,_,_,_,h=>nomatch h
 |t::ts,d,hd,b,u,h=>by
  have a:=wa9 (step_at ok.w hd (b t (waf ..)));have hl:=wa9 (cW hd);rcases waC.mp h with rfl |h
  ·exact⟨ok.w.wd _ hl _ a,ok.gd d _ a⟩
  ·exact EF ok ts _ (ok.w.e _ hl _ a) (λx f=>b x (wac _ f)) u h
structure Oy(R:Wr)(ts:List Nat)(all:List Str):Prop where
 row:LV R.wl R.b R.c ts=cat all
 u:∀u∈all,u.length=R.n/\∀c∈ch u,c∈ch R.g
 l:all.length=R.b+ts.length+R.c
 r:∀k,k<ts.length->∃bs w us,(all.take (k+(R.b+1+R.c))).drop k=bs++w::us/\bs.length=R.b/\us.length=R.c/\bears R.bw (cat bs)=false/\jV R.ss R.hk R.wl (cat bs) w us (ts.getD k 0)
theorem Vx{R:Wr}(ok:DI R){ts:List Nat}(g:∀t∈ts,(t:Int)<R.many):∃all,Oy R ts all:=by
 refine⟨eK R.wl 0 (ik R.b R.c ts),Gj ..,EF ok _ 0 (wc8.mpr ok.w.ne) (rL ok.m1 g _ _),?_,λk hk=>?_⟩
 ·rw[jT];unfold ik;rw[wa5,wa5,waP,waP];omega
 ·obtain⟨bs,w,a,d,e,f,i,j⟩:=DH ok.rd ok.w ok.m1 ok.pm (λw h=>(ok.hw w h).1) ok.h0 ok.sh g hk;refine⟨bs,w,a,d,e,f,i,?_⟩;rw[wa3,wa1 hk];exact j
theorem EG{n:Nat}:∀{a b:List Str},a.length=b.length->(∀w∈a,w.length=n)->(∀w∈b,w.length=n)->cat a=cat b->a=b
 |[],[],_,_,_,_=>rfl
 |x::a,y::b,hl,ha,c,e=>by
  have e:ch (x++cat a)=ch (y++cat b):=congrArg ch e;rw[aY,aY]at e;obtain⟨d,f⟩:=whU e (by rw[aV,aV,ha x (waf ..),c y (waf ..)]);rw[cI d,EG (wh7 hl) (λw h=>ha w (wac _ h)) (λw h=>c w (wac _ h)) (cI f)]
end Bs
namespace L2
open PySem PySem.Spec PyProof.Rows
section
variable{X:Cx}
end
end L2
namespace Bs
open PySem L2 Sx
open Classical in
noncomputable def BE(R:Wr)(bs:List Str)(w:Str)(us:List Str):V:=if bears R.bw (cat bs)=true then .non else if h:∃i,jV R.ss R.hk R.wl (cat bs) w us i then .int ((whF h:Nat):Int) else .non
theorem EH{R:Wr}(ok:DI R){bs:List Str}{w:Str}{us:List Str}(hl:us.length=R.c):(bears R.bw (cat bs)=true->BE R bs w us=.non)/\(∀i:Nat,bears R.bw (cat bs)=false->jV R.ss R.hk R.wl (cat bs) w us i->BE R bs w us=.int (i:Int))/\(bears R.bw (cat bs)=false->(∀i,¬jV R.ss R.hk R.wl (cat bs) w us i)->BE R bs w us=.non):=by
 refine⟨λh=>?_,λi h a=>?_,λh hn=>?_⟩
 ·unfold BE;rw[if_pos h]
 ·unfold BE;have b:∃i,jV R.ss R.hk R.wl (cat bs) w us i:=⟨i,a⟩;rw[if_neg (by rw[h];exact wap),dif_pos b,(wgu b).one ok.rd hl a]
 ·unfold BE;rw[if_neg (by rw[h];exact wap),dif_neg (λ⟨i,hi⟩=>hn i hi)]
noncomputable def Oz(R:Wr)(all:List Str)(k:Nat):List Str:=(all.take (k+(R.b+1+R.c))).drop k
noncomputable def zaK(R:Wr)(all:List Str)(k:Nat):V:=BE R ((Oz R all k).take R.b) ((Oz R all k).getD R.b "") ((Oz R all k).drop (R.b+1))
end Bs
namespace L2
open PySem PySem.Spec PyProof.Rows
theorem BF{xs:List V}{us:List Value}(r:Vals xs us):∀{ws:List Value},(∀u∈ws,u∈us)->∃ys,Vals ys ws/\∀y∈ys,y∈xs
 |[],_=>⟨[],.nil,λ_ h=>nomatch h⟩
 |w::ws,h=>by
  obtain⟨ys,c,d⟩:=BF r (ws:=ws) λu f=>h u (wac _ f);obtain⟨i,hi,e⟩:=wdx.mp (h w (waf ..));have a:i<xs.length:=by rw[r.length];exact hi
  obtain⟨u,b,g⟩:=r.get (wa1 a);rw[wa1 hi,e]at b;cases b
  exact⟨_,.cons g c,λy j=>by
   rcases waC.mp j with rfl |q
   ·exact waL a
   ·exact d y q⟩
theorem JL(g:List Value)(lo hi st:Option Int):∀u∈(weW g.toArray lo hi st).toList,u∈g:=λu h=>by
 unfold weW at h;rw[weI]at h;obtain⟨i,_,e⟩:=wd7.mp h;rw[wgv]at e;exact wa9 e
theorem JM(g:List Value)(lo hi:Option Int){c:Int}(hc:0<c):(weW g.toArray lo hi (some c)).toList.length<=g.length:=by
 unfold weW;rw[weI];refine waj (wcW _ _) ?_;unfold sliceRange;simp only[wa0,waO,waE];unfold wg8;simp only[wfv,if_pos hc]
 have key:∀a b:Int,0<=a->b<=g.length->(if a<b then(b-a+c-1)/c else 0).toNat<=g.length:=λa b ha d=>by
  by_cases h:a<b
  ·rw[if_pos h];have:=ceilDiv_le (b-a) c (by omega) (by omega);omega
  ·rw[if_neg h];omega
 refine key _ _ ?_ ?_
 ·cases lo<;>simp only[]<;>omega
 ·cases hi<;>simp only[]<;>omega
section
variable{X:Cx}{e:Expr}{te:TE}{lo hi:Option Expr}{st:Expr}{tl th ts:TO}{pos p2:Pos}
def Vy(K:wa2)(te:TE)(tl th ts:TO):TE:=λσ H Q=>te σ H λx H1=>tl σ H1 λl H2=>th σ H2 λu H3=>ts σ H3 λk H4=>∃a xs c,x=.ref a/\k=some c/\0<c/\aM K H4 a xs/\∀ys:List V,(∀y∈ys,y∈xs)->ys.length<=xs.length->∀p,H4 p=none->Q (.ref p) (upd H4 p (.lst ys))
theorem yP(J:PE X e te)(hl:PO X lo tl)(T:PO X hi th)(hs:PO X (some st) ts):PE X (.Subscript e (.Slice lo hi (some st) p2) pos) (Vy X.K te tl th ts):=by
 intro d s σ H Q I h;refine wgD (bO (J d s σ H _ I h) λv D ⟨x,E,G,L,M⟩=>?_);refine wpAny_Slice (bO (hl d D σ E _ G M) λp N ⟨l,O,R,pl,S⟩=>bO (T d N σ O _ R S) λt U ⟨u,V,Y,Z,q3⟩=>bO (hs d U σ V _ Y q3) λy f ⟨k,H4,I4,pk,q4⟩=>?_);obtain⟨a,xs,c,rfl,rfl,hc,hx,q⟩:=q4;cases L;have m:Inv X d σ H4 {f with heap:=f.heap.push {cls:=.type "slice",data:=.fields #[p,t,y]}}:=I4.kept (t':=f.toks) λb ob q=>wa8 _ q;obtain⟨g,r,B,hz⟩:=m.list hx;have i:=r.length;obtain⟨n,C,hm⟩:=BF r (JL g l u (some c));have j:n.length<=xs.length:=by rw[C.length,i];exact JM g l u hc
 show wpAny (model X.prog X.w) X.A (wf1 e (.Slice lo hi (some st) p2) (.ref a) (.ref f.heap.objs.size)) (EP X d σ Q) X.xe {f with heap:=f.heap.push {cls:=.type "slice",data:=.fields #[p,t,y]}};refine tail_any (ops:=[.ref a,.ref f.heap.objs.size]) B.isList.typeIs wf9.lookup ?_ (by with_unfolding_all rfl);refine wft B.isList (wh4 ..) pl Z pk (by intro z;cases z;omega) ?_ (by grind);refine⟨.ref _,_,m.laid (t':=f.toks) (o:=.lst n) (λb ob q=>wa8 _ q) (waa _) ?_,rfl,q n hm j _ (m.b4.fresh (waa _))⟩;exact⟨waj j hz,_,0,C,waq _ rfl⟩
end
end L2
namespace L2
open PySem PySem.Calls PySem.Spec PyProof.Rows
noncomputable def tI(v d:Addr):HO:=.ext λh=>h.IsItemsView v d
noncomputable def RN(d:Addr)(o:Obj)(kvs:List (Key×V)):It:=
 ⟨λi H=>H d=some (.frz o (.dK kvs))/\i<kvs.length,λi H x H'=>∃T kv,H T=none/\x=.ref T/\kvs[i]?=some kv/\H'=upd H T (.tup [kV kv.1,kv.2]),λi H=>H d=some (.frz o (.dK kvs))/\kvs.length<=i⟩
theorem DK{P:wau}{w:World}{K:wa2}{elts:List Expr}{k:Nat}{pos:Pos}(d it:Addr)(o:Obj)(kvs:List (Key×V))(es:Array DictEntry)(ep:Nat)(ho:o.data=.dict es ep):Turn P w K (.Tuple elts k pos) (RN d o kvs) [it] it (λi h=>∃ok ov,IsItemIter h it d i kvs.length ep ok ov) where
 mem:=by simp
 obj:=λi h st b hb=>by
  have e:b=it:=by simpa using hb
  subst e;obtain⟨ok,ov,e⟩:=st
  exact⟨_,e,λv z=>by
   have z':wdC _=weU v:=z
   cases z'⟩
 keep:=λi h h' ⟨ok,ov,e⟩ k=>⟨ok,ov,k it (by simp) _ e⟩
 item:=by
  intro X hP hw hK hc i pins s σ H E I hf st hg;subst hP hw hK;obtain⟨hq,hi⟩:=hg;obtain⟨vs,rel,Rk⟩:=qW I hq ho;have hx:kvs[i]?=some kvs[i]:=by simp[hi]
  obtain⟨⟨k,v⟩,hv,e1,e2⟩:=CV rel hx;obtain⟨f0,f1,f2,f3,f4,f5⟩:=hf it (by simp);obtain⟨ok,ov,hit⟩:=st;rw[rel.length]at hit;refine wpAny_pyNext_items_item hit Rk hv λkey h' Vz VA hT hsz hk=>?_;refine⟨_,rfl,wpAny_letOwnedTupleGo_items VA λT1 P0 Hx=>?_⟩;have kp:∀b o,b≠it->s.heap.get? b=some o->T1.get? b=some o:=λb o h1 q=>(Hx.2 b h1).trans (hk b o h1 q);have elt:it<s.heap.objs.size:=wae hit;have Kt:T1.get? s.heap.objs.size=some {cls:=.type "tuple",data:=.seq #[key,v]}:=(Hx.2 _ (wbU elt)).trans hT;have fr:=I.b4.fresh (waa s.heap.objs.size);have XH:∀b o,H b=some o->b≠it:=λb o q z=>by rw[z,f0]at q;cases q
  have rk:RelV (kV kvs[i].1) key:=by
   have e':kvs[i].1=k:=e1;rw[e'];rcases bS Vz with⟨i,t,rfl,rfl⟩ |⟨y,t,rfl,rfl⟩
   ·exact⟨t,rfl⟩
   ·exact⟨t,rfl⟩
  have VB:jt X.prog X.w (upd H s.heap.objs.size (.tup [kV kvs[i].1,kvs[i].2])) T1:=by
   intro b o q
   by_cases hb:b=s.heap.objs.size
   ·subst hb;rw[a6]at q;cases q;exact⟨by show 2<=sizeLine;decide,[key,v],.cons rk (.cons e2 .nil),⟨_,Kt,rfl,_,rfl⟩⟩
   ·rw[ae hb]at q;refine(I.b4 b o q).qN (λc v hc r=>?_) (λc r=>by rw[ae (af r fr)];exact r) λc ys r=>by rw[ae (af r fr)];exact r
    rcases hc with z |z
    ·rw[z]at r ⊢;exact kp b v (XH b o q) r
    ·exact kp c v (XH c _ z) r
  have I1:Inv X pins σ (upd H s.heap.objs.size (.tup [kV kvs[i].1,kvs[i].2])) {s with heap:=T1,gens:=s.gens,drawn:=s.drawn,toks:=s.toks}:=by
   refine I.step (ch:=[it]) (λb hb=>?_) (λb o _ _ hc q _=>kp b o (λz=>hc (by simp[z])) q) (λb o _ _ hc q _=>⟨o.slots,kp b o (λz=>hc (by simp[z])) q⟩)
    (λb o _ q n=>by rw[ae (war (wae q))];exact n) (λb o hc q=>⟨o,kp b o (λz=>hc (by simp[z])) q⟩)
    (λb ys r=>by rw[ae (af r fr)];exact r) (λb o u r=>by rw[ae (af r fr)];exact r) (λb ps r=>⟨#[],by rw[ae (af r fr),r];simp⟩)
    (λm ⟨o,es,ep,Nj,r⟩=>⟨o,es,ep,kp _ o (wb9 f1) Nj,r⟩) VB I.bare
   have e':b=it:=by simpa using hb
   subst e';exact⟨f3,f1,f4,f5⟩
  rw[<-rel.length]at P0;refine⟨.ref s.heap.objs.size,_,I1,rfl,⟨s.heap.objs.size,kvs[i],fr,rfl,hx,rfl⟩,⟨key,v,P0⟩,λb hb=>?_⟩;have e':b=it:=by simpa using hb
  subst e';rw[ae (war elt)];exact f0
 done:=by
   intro X hP hw hK hc i pins s σ H E I hf st hg;subst hP hw hK;obtain⟨hq,hi⟩:=hg;obtain⟨vs,rel,Rk⟩:=qW I hq ho;obtain⟨f0,f1,f2,f3,f4,f5⟩:=hf it (by simp);obtain⟨ok,ov,hit⟩:=st;rw[rel.length]at hit hi;exact wpAny_pyNext_items_end (I.ok.hd hc) hit Rk (by simp;omega) λh' eb=>⟨rfl,I.turned (t':=s.toks) (λb o hb e=>eb b o hb e) f0 f1 f3 f4 f5⟩
 self:=λA i s Q E st h=>by
  obtain⟨ok,ov,e⟩:=st;have hT:s.TypeIs (.ref it) "dict_itemiterator":=⟨_,e,rfl⟩;refine wpAny_pyIter_slot hT we2 (wpAny_call_entry we2 hT (show entryFor table "dict_itemiterator.__iter__"=some weh.«dict_keyiterator.__iter__» from entryFor_alias (id':="dict_keyiterator.__iter__") (by kernel_rfl) rfl (by decide+kernel) (by kernel_rfl)) ?_ (PySem.F.args_dict_itemiterator_iter_1 _));show wpAny _ _ (ret (.ref it)) _ _ s;exact wax ⟨_,rfl,"dict_itemiterator",_,hT,PySem.F.slot_dict_itemiterator_next.lookup,h⟩
section
variable{X:Cx}{elts:List Expr}{k:Nat}{N5:Pos}
theorem JN:Kj X "dict.items" (λx xs H Q=>∃d kvs,x=.ref d/\xs=[]/\H d=some (.dK kvs)/\∀v,H v=none->Q (.ref v) (upd H v (tI v d))):=by
 intro a s σ H x xs v j Q I f g h;obtain⟨d,kvs,rfl,rfl,hd,q⟩:=h;cases f;have:=g.zero;subst this;obtain⟨l,lo,i,rel,c⟩:=p8 I.b4 hd;refine wex wfO c.typeIs PySem.F.entry_dict_items (PySem.F.args_dict_items_1 _) (meets_dict_items (bc X.prog X.w) d lo) ⟨⟨i,c⟩,?_⟩;refine⟨.ref s.heap.objs.size,_,I.laid (t':=s.toks) (o:=tI s.heap.objs.size d) (λb o e=>wa8 _ e) (waa _) ⟨⟨_,waq _ rfl,rfl,rfl⟩,⟨_,waq _ rfl⟩,λm n ⟨o,e,r⟩ k=>⟨o,k o e,r⟩⟩,rfl,q _ (I.b4.fresh (waa _))⟩
def OA(tl:TE):TI:=λσ H R=>tl σ H λx H1=>∃v d kvs,x=.ref v/\H1 v=some (tI v d)/\H1 d=some (.dK kvs)/\∀o,R (RN d o kvs) (upd H1 d (.frz o (.dK kvs)))
theorem JO{l:Expr}{r:TE}(hl:PE X l r):PI X (.Tuple elts k N5) l (OA r):=by
 intro i s σ H R I h;refine bO (hl i s σ H _ I h) λv j ⟨x,t,u,z,A⟩=>?_;obtain⟨n,d,a,e,B,hd,q⟩:=A;subst e;cases z;obtain⟨c,_⟩:=(show cb X.prog X.w t j.heap n (tI n d) from u.b4 n _ B);obtain⟨o,J,g⟩:=u.freeze hd;have f:(upd t d (.frz o (.dK a))) d=some (.frz o (.dK a)):=a6;obtain⟨C,_⟩:=g.b4 d _ f;obtain⟨_,lo,_,_,L,D,E,m,M,y,N⟩:=jy g.b4 (.inr ⟨o,f⟩);rw[C]at m;cases m;obtain⟨O,rel,p⟩:=qW g f y;refine wpAny_pyIter_items c p ?_;refine⟨j.heap.objs.size,[j.heap.objs.size],_,_,_,rfl,g.kept (t':=j.toks) λb o e=>wa8 _ e,DK d _ o a D E y,⟨.none,.none,by rw[rel.length];exact waq _ rfl⟩,λb G=>?_,q o⟩;have e:b=j.heap.objs.size:=by simpa using G
 subst e;exact g.wK (waa _) (g.b4.fresh (waa _))
end
theorem Gs{d:Addr}{o:Obj}{kvs:List (Key×V)}{g:TG}{I:TS}{D:Ends}{σ:St}{H:Hp}(Pv:Nat->St->Hp->Prop)(h0:Pv 0 σ H)(hl:∀i σ H,i<=kvs.length->Pv i σ H->H d=some (.frz o (.dK kvs)))
 (hs:∀i t σ H T,kvs[i]?=some t->Pv i σ H->H T=none->g (.ref T) σ (upd H T (.tup [kV t.1,t.2])) λj C=>I {D with nx:=Pv (i+1),ct:=Pv (i+1),bk:=D.nx} j C) (hd:∀σ H,Pv kvs.length σ H->D.nx σ H) :
 ∃W:Nat->Nat->St->Hp->Prop,(∃m,W 0 m σ H)/\∀i m σ H,W i m σ H ->
  ((RN d o kvs).stop i H/\D.nx σ H)\/((RN d o kvs).go i H/\∃N:St->Hp->Prop,(∀l r,N l r->∃J,J<m/\W (i+1) J l r)/\∀x r,(RN d o kvs).u0 i H x r->g x σ r λj C=>I {D with nx:=N,ct:=N,bk:=D.nx} j C):=by
 refine⟨λi m σ H=>m=kvs.length-i/\i<=kvs.length/\Pv i σ H,⟨kvs.length,by simp,waB _,h0⟩,?_⟩;rintro i m σ H ⟨rfl,hi,p⟩;have q:=hl i σ H hi p
 by_cases a:i<kvs.length
 ·refine .inr ⟨⟨q,a⟩,Pv (i+1),λl r b=>⟨kvs.length-(i+1),by omega,rfl,a,b⟩,λx r y=>?_⟩;obtain⟨T,t,c,f,y,h⟩:=y;subst f h;exact hs i t σ _ T y p c
 ·have e:i=kvs.length:=by omega
  subst e;exact .inl ⟨⟨q,waa _⟩,hd σ H p⟩
theorem wj{ns:List Int}:∀{ys:List V},(∀y∈ys,y∈ns.map V.int)->∃g:List Int,ys=g.map V.int
 |[],_=>⟨[],rfl⟩
 |y::ys,h=>by
  obtain⟨g,rfl⟩:=wj (ys:=ys) λu a=>h u (wac _ a);obtain⟨m,_,rfl⟩:=wab.mp (h y (waf ..));exact⟨m::g,rfl⟩
end L2
namespace Bs
open PySem L2 Sx
noncomputable def OB(many:Int):V->V
 |.int c=>.int (c%many)
 |_=>.non
theorem BG{many:Int}(j:2<=many)(g:List Int):∃ts:List Nat,(g.map V.int).map (OB many)=(nI ts).map V.int/\ts.length=g.length/\∀t∈ts,(t:Int)<many:=by
 refine⟨g.map λc=>(c%many).toNat,?_,by rw[wa0],λt a=>?_⟩
 ·unfold nI;rw[wah,wah,wah];refine wb7 λc hc=>?_;have:=wbn c (show many≠0 by omega);show V.int (c%many)=V.int (((c%many).toNat:Nat):Int);rw[wgX this]
 ·obtain⟨c,_,rfl⟩:=wab.mp a;have:=wbn c (show many≠0 by omega);have:=wbl c (show 0<many by omega);omega
def Pk(R:Wr)(x:Str)(i:Nat):Prop:=∃bs w us,x=cat (bs++w::us)/\(∀u∈bs++w::us,u.length=R.n/\∀c∈ch u,c∈ch R.g)/\bs.length=R.b/\us.length=R.c/\bears R.bw (cat bs)=false/\jV R.ss R.hk R.wl (cat bs) w us i
theorem Pk.one{R:Wr}(ok:DI R){x:Str}{i j:Nat}(g:Pk R x i)(l:Pk R x j):i=j:=by
 obtain⟨bs,w,k,rfl,a,b1,c1,g1,f1⟩:=g;obtain⟨b,m,c,e,d,o,p,g2,f2⟩:=l;have:=EG (n:=R.n) (by simp only[wa5,waK];omega) (λw h=>(a w h).1) (λw h=>(d w h).1) e;obtain⟨rfl,f⟩:=whU this (by omega);cases f;exact jV.one ok.rd c1 f1 f2
theorem Oy.win{R:Wr}{ts:List Nat}{all:List Str}(r:Oy R ts all){k:Nat}(hk:k<ts.length):Pk R (wb0 (cat all) (some ((R.n*k:Nat):Int)) (some ((R.n*(k+(R.b+1+R.c)):Nat):Int))) (ts.getD k 0):=by
 obtain⟨bs,w,a,e,b,c,g,f⟩:=r.r k hk;refine⟨bs,w,a,?_,λu h=>r.u u (wc2 (List.mem_of_mem_drop (e ▸ h))),b,c,g,f⟩;rw[zK (λu h=>(r.u u h).1) (by omega) (by rw[r.l];omega),<-e]
end Bs
namespace K53
open PySem L2 Bs Sx
section
variable{P:wau}{w:World}{K:wa2}{mg:Str->Option Value}{base:Heap}
inductive JP(K:wa2)(C CB CP CE:Addr)(vs:List V)(H:Hp)(Q:VK)(eE:XK):Prop
 |mk (z R bs w us) (_:vs=[.ref z,.str (cat (bs++w::us))]) (_:BD K C CB CP CE H z R) (_:(∀u∈bs++w::us,u.length=R.n/\∀c∈ch u,c∈ch R.g)) (_:bs.length=R.b) (_:us.length=R.c) (_:∀H',a8 H H'->Q (BE R bs w us) H')
theorem qE(L:Lk K mg):aS P w K mg base d8 5 L.jO L.jP ["self","window"] (JP K L.ak L.az L.aR L.aL):=by
 have T:=L.T;refine L.eR.F.dQ (N:=["self","window"]) (λM A outer s H vs Q E nd o h=>?_);obtain⟨z,R,bs,w,q,rfl,D,hw,C,hc,k⟩:=h
 refine⟨_,(a7 (bu (cX (aD (aD (pv 0) rfl) rfl) L.aG.cl L.bN.m (gi L) (o.mono (by decide)) L.bN.b .nil bI (a5 (pv 1) a9)))
  (a7 (bK (aH GW (aC bJ (by rfl) T.len waM (a5 (pv 1) a9)) (aO gx (bP (pv 0) L.aF.cl L.bW.m (j3 L) (o.mono (by decide)) L.bW.b .nil bI) (aD (aD (pv 0) rfl) rfl)) (aU _)) dg aQ)
  (ag (aB (cX (pv 0) L.aF.cl L.cO.m (lB L) (o.mono (by decide)) L.cO.b .nil bI (a5 (pv 1) a9)))))),?_⟩
 try dsimp only[dC,dA,b6,b7]
 obtain⟨j,x,a,l,hP,W⟩:=id D;obtain⟨⟨G,p,I,aa,ll,dp,wa,wb,wc,wz,ys,J,_,_,_,_,_,B⟩,ok⟩:=id W;obtain⟨⟨r,bb,db,qb,mv,t,_⟩,_,_,_⟩:=id B;have wH:=ok.wH;have b1:=ok.b1;have c1:=ok.c1;have v:(cat (bs++w::q)).length=R.n*(R.b+1+R.c):=by rw[gf λu h=>(hw u h).1,wa5,waK,C,hc,show R.b+(R.c+1)=R.b+1+R.c by omega]
 have O:R.n*(R.b+1+R.c)<=10*3000:=wc3 wH (by omega);refine⟨_,rfl,z,L.aL,j,_,_,rfl,l,L.aF.cl,L.aF.cK,bg x a,x,L.ak,G,_,_,rfl,J,L.aj.cl,L.aj.vD,lz ..,I,r,_,rfl,t,CC _ _ _ _ (by decide+kernel) (by decide+kernel) (by decide+kernel) (by decide+kernel),_,rfl,I,_,R.g,R.bw,R.ss,R.ls,rfl,B,JI λu h=>(hw u h).2,λH1 y=>?_⟩;refine⟨_,rfl,_,rfl,av (by omega),_,rfl,z,j,_,rfl,y _ _ l,j1 (by show ("blocks_in_window":Str)∉[("writer":Str),"pairs"];decide+kernel),z,R,rfl,D.same y,λH2 S=>?_⟩;have d:=y.trans S;refine⟨_,rfl,z,L.aL,j,_,_,rfl,d _ _ l,L.aF.cl,L.aF.cK,bg x a,x,L.ak,G,_,_,rfl,d _ _ J,L.aj.cl,L.aj.rx,j2 ..,_,_,rfl,rfl,.inl ⟨by omega,by omega⟩,rfl,false,?_,cm ?_⟩
 ·show V.bl (!decide (V.int ((cat (bs++w::q)).length:Int)=V.int (((R.b:Int)+1+(R.c:Int))*(R.n:Int))))=_;rw[v,show ((R.b:Int)+1+(R.c:Int))*(R.n:Int)=((R.n*(R.b+1+R.c):Nat):Int) by rw[wbo,weB];rfl];exact CT _
 obtain⟨U,X,Y⟩:=EH ok (bs:=bs) (w:=w) hc;refine⟨_,rfl,z,j,_,rfl,d _ _ l,j1 (by show ("word_fitting":Str)∉[("writer":Str),"pairs"];decide+kernel),_,rfl,z,R,bs,w,q,rfl,D.same d,hw,C,hc,λh e f=>?_,λi h Z e f=>?_,λh hn e f=>?_⟩
 ·rw[<-U h];exact k e (d.trans f)
 ·rw[<-X i h Z];exact k e (d.trans f)
 ·rw[<-Y h hn];exact k e (d.trans f)
theorem zN(L:Lk K mg):aS P w K mg base d8 12 L.tu L.tD ["_law_signs","_law_words","_law_many","_law_wide"] (LX K L.ak L.az L.aR L.aA):=by
 refine L.nc.F.dQ (N:=["_law_signs","_law_words","_law_many","_law_wide","_law_told_here"]) (λY A outer s H vs Q E nd T h=>?_);obtain⟨g,a,many,n,bw,rfl,Z,q,m,d,v,k⟩:=h
 refine⟨_,(a7 (ai (i:=4) gu)
  (a7 (LW ⟨rfl,rfl⟩ (HW (KO (i:=4) nd rfl (wdR rfl) (HV L.yG (oS L) (T.mono (by decide)) rfl L.Bn L.fV.b (a5 (nB L.Ey (rF L) (T.mono (by decide)) rfl L.Je L.ie.b .nil bI (a5 (pv 0) (a5 (pv 1) a9))) (a5 (pv 2) (a5 (pv 3) a9)))))) rfl L.vT rfl L.zy L.hV L.vU (L.hV.ne L.vU (by decide+kernel)) (L.hV.neT L.XT (by decide+kernel)) nd (i:=4) rfl (wdR rfl))
  (ag (aB (pv 4))))),?_⟩
 try dsimp only[dC,dA,b6,b7]
 have g2:=q.lo;have g4:=q.hi;have w1:∀w∈bw,1<=w.length/\w.length<=900:=λw h=>⟨(d w h).lo,by have:=(d w h).hi;omega⟩;refine⟨_,rfl,_,rfl,λy z l j U=>?_⟩;refine⟨y,z,g,a,bw,rfl,a6,(fz l j).seq Z,q,m,d,λss ls r t B=>⟨rfl,?_⟩⟩;have C:a8 H r:=λb o e=>B b o (fz l j _ _ e) (af e l);have Ez:ss.length<=25:=t.few m d;have D:("":Str)∈ss:=t.pm.mem_iff.mpr ((jm _).mpr (.inl rfl));refine⟨_,rfl,_,rfl,λx u nx G nex=>?_⟩;have sm:a8 r (upd (upd r u (.own x)) x (.ins L.ak u [])):=fz nx G;refine⟨x,u,y,many,n,g,bw,ss,ls,rfl,a6,t.same sm,w1,by omega,D,q.nd,g2,by omega,by omega,v,λI p la ll f0 f J ks hs ws M b V k2 x2 P2 r2 l2 hL O hP W0 hB=>⟨rfl,?_⟩,?_,?_⟩
 ·have X:a8 r V:=λc o e=>k2 _ _ (sm _ _ e) (af e nx);refine⟨_,rfl,k _ V (C.trans X) (.inr ⟨x,rfl,y,ss,ls,f0,f,J,ks,hs,ws,M,b,t.same X,⟨u,p,la,ll,x2,P2.same (bZ _ _),bL.same (bZ _ _) _ _ r2,bL.same (bZ _ _) _ _ l2⟩,I,hL,O,hP,W0,hB⟩)⟩
 ·exact λk' d' R _ S _ _=>⟨.inl rfl,_,rfl,k .non R (C.trans (sm.trans S)) (.inl rfl)⟩
 ·exact λ_ _ R S=>⟨.inr rfl,_,rfl,k .non R (C.trans (sm.trans S)) (.inl rfl)⟩
theorem lC(L:Lk K mg):aS P w K mg base d8 1 L.t7 L.t8 ["_law_script","_law_place"] (QC K):=by
 have T:=L.T;refine L.hU.F.dQ (N:=["_law_script","_law_place"]) (λb A outer s H e Q E nd f h=>?_);obtain⟨a,ns,p,rfl,c,k⟩:=h;refine⟨_,(ag (aB (aC (ml rfl) (by rfl) T.sum Fn (a5 (cy kc (pv 0) (bp (pv 1)) (bp (aO dH (pv 1) aq))) a9)))),?_⟩
 try dsimp only[dC,dA,b6,b7]
 refine⟨_,rfl,_,rfl,_,rfl,_,rfl,_,_,rfl,rfl,_,rfl,a,_,rfl,c,λl hl=>?_⟩;obtain⟨d,em,_⟩:=Ij ns (some p) (some (p+1));rw[em];exact⟨l,d,rfl,aM.of a6,k _ _ (a8.upd hl)⟩
theorem nv(L:Lk K mg):aS P w K mg base d8 1 L.o8 L.o9 ["_law_cell","_law_many"] Iu:=by
 have T:=L.T;refine L.gQ.F.dQ (N:=["_law_cell","_law_many","_law_found","_law_one","_law_turn","_law_two","_law_more"]) (λx A outer s H C Q E nd D h=>?_);obtain⟨c,m,rfl,G,k⟩:=h
 refine⟨_,(a7 (ai (i:=2) (cC a9))
  (a7 (ai (i:=3) (aO va (pv 0) aq))
  (a7 (bK (aH rY (aO dZ (pv 0) aq) aq (aU _)) (a7 (b0 wal rfl (cT rfl T.range (a5 (pv 1) a9)) (aw (i:=4)) (a7 (bu (j8 waT waX waZ cV (pv 2) (a5 (aO dZ (pv 3) aq) a9)))
  (ag (ai (i:=3) (aO va (pv 3) aq)))))
  (ag (aB (pv 2)))) aQ)
  (a7 (ai (i:=5) (aO dZ (aO va (pv 3) aq) aq))
  (a7 (ai (i:=3) (aO dZ (pv 3) aq))
  (a7 (b0 wal rfl (cT rfl T.range (a5 (aO dH (pv 1) aq) a9)) (aw (i:=4)) (a7 (ai (i:=6) (aO dH (aO dH (aO dH (aO gx (pv 3) aq) (aO gx (pv 5) (pv 5))) (aO gx aq (pv 4))) aq))
  (a7 (ai (i:=3) (pv 5))
  (a7 (ai (i:=5) (aO dZ (pv 6) aq))
  (ag (bu (j8 waT waX waZ cV (pv 2) (a5 (pv 5) a9))))))))
  (ag (aB (cy kc (pv 2) (bp aq) gM))))))))),?_⟩
 try dsimp only[dC,dA,b6,b7]
 refine⟨waB _,λl hl=>?_⟩;have t:a8 H (upd H l (.lst [])):=a8.upd hl;have app:∀{f:Hp} {d:List Int} {v:Int},a8 H f->f l=some (.lst (d.map V.int))->a8 H (upd f l (.lst (d.map V.int++[.int v])))/\(upd f l (.lst (d.map V.int++[.int v]))) l=some (.lst ((d++[v]).map V.int)):=λ{f d v} j g=>⟨λb I e=>by rw[ae (af e hl)];exact j _ _ e,by rw[a6,wao];rfl⟩;refine⟨_,rfl,_,_,rfl,rfl,⟨by decide,by decide+kernel⟩,?_⟩;refine⟨_,rfl,_,_,rfl,rfl,(by show (0:Int)<2;decide),rfl,_,rfl,Am (λ_=>?_) (λ_=>?_)⟩
 ·refine⟨_,rfl,(m:Int),rfl,by omega,by omega,?_⟩;rw[waG];refine cU (lo:=0) (n:=m) (λi σ f=>∃(one:Int) (d:List Int) (v4:Option V),σ=[some (.int c),some (.int (m:Int)),some (.ref l),some (.int one),v4,none,none]/\a8 H f/\f l=some (.lst (d.map V.int))/\d.length=i) ⟨_,[],none,rfl,t,a6,rfl⟩ ?_ ?_
  ·rintro i σ f hi ⟨one,d,v4,rfl,j,g,o⟩;refine⟨_,rfl,.inl ⟨rfl,_,aM.of g⟩,_,rfl,_,_,rfl,rfl,(by show (0:Int)<1999999973;decide),l,_,_,rfl,rfl,g,by rw[wa0];exact bz (by omega),?_⟩;exact⟨_,rfl,_,_,rfl,rfl,⟨by decide,by decide+kernel⟩,_,d++[one%1999999973],_,rfl,(app j g).1,(app j g).2,by rw[wa5,o];rfl⟩
  ·rintro σ f ⟨one,d,v4,rfl,j,g,o⟩;exact⟨_,rfl,k l d f j hl g o⟩
 ·refine⟨_,rfl,_,_,rfl,rfl,⟨by decide,by decide+kernel⟩,_,_,rfl,rfl,(by show (0:Int)<1999999943;decide),?_⟩;have q:=wbn (c/2/1999999973) (show (1999999943:Int)≠0 by decide);have u:=wbl (c/2/1999999973) (show (0:Int)<1999999943 by decide);refine⟨_,rfl,_,_,rfl,rfl,(by show (0:Int)<1999999973;decide),?_⟩;refine⟨_,rfl,_,_,rfl,rfl,_,rfl,by omega,by omega,?_⟩;rw[show ((m:Int)+2).toNat=m+2 by omega];refine cU (lo:=0) (n:=m+2) (λi σ f=>∃(one a:Int) (d:List Int) (v4 v6:Option V),σ=[some (.int c),some (.int (m:Int)),some (.ref l),some (.int one),v4,some (.int a),v6]/\0<=a/\a<2000000000/\a8 H f/\f l=some (.lst (d.map V.int))/\d.length=i) ⟨c/2%1999999973,c/2/1999999973%1999999943,[],none,none,rfl,q,by omega,t,a6,rfl⟩ ?_ ?_
  ·rintro i σ f hi ⟨one,a,d,v4,v6,rfl,q,u,j,g,o⟩;refine⟨_,rfl,_,_,rfl,rfl,.inr ⟨by decide,by decide⟩,_,rfl,_,rfl,_,_,rfl,rfl,.inl ⟨by omega,by omega⟩,_,_,rfl,rfl,_,rfl,_,_,rfl,rfl,.inl ⟨by decide,by decide⟩,_,_,rfl,rfl,_,_,rfl,rfl,?_⟩;refine⟨_,rfl,?_⟩;refine⟨_,rfl,_,_,rfl,rfl,(by show (0:Int)<1999999973;decide),?_⟩;have y:=wbn (one*1664525+a*a+97*(0+(i:Int))+40503) (show (1999999973:Int)≠0 by decide);have J:=wbl (one*1664525+a*a+97*(0+(i:Int))+40503) (show (0:Int)<1999999973 by decide);refine⟨_,rfl,.inl ⟨rfl,_,aM.of g⟩,_,rfl,l,_,_,rfl,rfl,g,by rw[wa0];exact wbe (m:=2000) (by omega) (by rw[wcb];decide),?_⟩;exact⟨_,_,d++[(one*1664525+a*a+97*(0+(i:Int))+40503)%1999999973],_,_,rfl,y,by omega,(app j g).1,(app j g).2,by rw[wa5,o];rfl⟩
  ·rintro σ f ⟨one,a,d,v4,v6,rfl,q,u,j,g,o⟩;refine⟨_,rfl,_,rfl,l,_,rfl,aM.of g,λz p=>?_⟩;have B:=AW (d.map V.int) 2;have r:m6 (d.map V.int) (some 2) none=(d.drop 2).map V.int:=by rw[wea];exact B
   rw[r];exact k z (d.drop 2) _ (j.trans (a8.upd p)) (none_of j p) a6 (by rw[wbp];omega)
theorem RO:∀st:Fin 36,∀sp∈[1,5,7,11,13,35],∀n∈[2,3,4],((mm st sp n).Nodup/\∀c∈mm st sp n,c∈ch fK):=by decide+kernel
theorem BH{st sp n:Nat}{x:Str}(j:st<36)(hs:sp∈[1,5,7,11,13,35])(hn:n∈[2,3,4])(g:ch x=mm st sp n):Av x:=by
 obtain⟨a,b⟩:=RO ⟨st,j⟩ sp hs n hn;have hl:x.length=n:=by grind [aV,mm,wa0]
 have c:n=2\/n=3\/n=4:=by simpa using hn
 exact⟨by omega,by omega,by rw[g];exact a,by rw[g];exact b⟩
theorem OC:∀d:Int,0<=d->d<8->∃n:Nat,yV ([.int 2,.int 2,.int 2,.int 3,.int 2,.int 4,.int 2,.int 3]:List V) d=some (.int (n:Int))/\n∈[2,3,4]:=under 8 λk=>⟨[2,2,2,3,2,4,2,3].getD k.val 0,by revert k;decide,by revert k;decide⟩
theorem OD:∀d:Int,0<=d->d<6->∃n:Nat,yV ([.int 1,.int 5,.int 7,.int 11,.int 13,.int 35]:List V) d=some (.int (n:Int))/\n∈[1,5,7,11,13,35]:=under 6 λk=>⟨[1,5,7,11,13,35].getD k.val 0,by revert k;decide,by revert k;decide⟩
theorem OG:∀d:Int,0<=d->d<8->∃n:Nat,yV ([.int 0,.int 1,.int 2,.int 3,.int 1,.int 2,.int 3,.int 6]:List V) d=some (.int (n:Int))/\n<=6:=under 8 λk=>⟨[0,1,2,3,1,2,3,6].getD k.val 0,by revert k;decide,by revert k;decide⟩
theorem OH:∀d:Int,0<=d->d<8->∃n:Nat,yV ([.int 2,.int 3,.int 4,.int 2,.int 3,.int 4,.int 1,.int 5]:List V) d=some (.int (n:Int))/\1<=n/\n<=5:=under 8 λk=>⟨[2,3,4,2,3,4,1,5].getD k.val 0,by revert k;decide,by revert k;decide⟩
theorem M4{xs:List Int}(h:xs.length=4):∃a b c d,xs=[a,b,c,d]:=by
 match xs,h with
 |[a,b,c,d],_=>exact⟨a,b,c,d,rfl⟩
theorem zO(L:Lk K mg):aS P w K mg base d8 2 L.t9 L.tf ["_law_script"] (L8 K):=by
 have T:=L.T;refine L.n8.F.dQ (N:=["_law_script","_law_known","_law_xs","_law_size","_law_step","_law_signs","_law_words","_law_k","_law_ys","_law_long"]) (λhX A outer s H vs Q E nd hr h=>?_);obtain⟨a,ns,rfl,hS,k⟩:=h
 refine⟨_,(a7 (ai (i:=1) eV)
  (a7 (ai (i:=2) (au (nv L) L.gQ (a5 (au (lC L) L.hU (a5 (pv 0) (a5 aq a9))) (a5 aq a9))))
  (a7 (ai (i:=3) (bf bF (cC (pq (is:=[2,2,2,3,2,4,2,3]) (by decide+kernel))) (aO dZ (bf bF (pv 2) aq (λ_ _=>rfl)) aq) (λ_ _=>rfl)))
  (a7 (ai (i:=4) (bf bF (cC (pq (is:=[1,5,7,11,13,35]) (by decide+kernel))) (aO dZ (bf bF (pv 2) aq (λ_ _=>rfl)) aq) (λ_ _=>rfl)))
  (a7 (ai (i:=5) (j8 wgh wgz wgA E5 eV (a5 (cD rfl (ax ["_law_known","_law_xs","_law_step"] [1,2,4]) (cT rfl T.range (a5 (pv 3) a9)) (λ_ _ _ _ _ _=>bq) (λ_ _ _ _ _ _=>(bf Hf (pv 1) (aO dZ (aO dH (bf (gY (K:=K) rfl) (pv 2) aq (λ_ _=>rfl)) (aO gx (pv 3) (pv 0))) aq) (λ_ _=>rfl)))) a9)))
  (a7 (ai (i:=6) (cC a9))
  (a7 (b0 wal rfl (cT rfl T.range (a5 (bf bF (cC (pq (is:=[0,1,2,3,1,2,3,6]) (by decide+kernel))) (aO dZ (bf bF (pv 2) aq (λ_ _=>rfl)) aq) (λ_ _=>rfl)) a9)) (aw (i:=7)) (a7 (ai (i:=8) (cy kc (au (nv L) L.gQ (a5 (au (lC L) L.hU (a5 (pv 0) (a5 (aO dH aq (aO dZ (pv 7) aq)) a9))) (a5 aq a9))) (bp (aO gx (aO u3 (pv 7) aq) aq)) gM))
  (a7 (ai (i:=9) (bf bF (cC (pq (is:=[2,3,4,2,3,4,1,5]) (by decide+kernel))) (aO dZ (bf bF (pv 8) aq (λ_ _=>rfl)) aq) (λ_ _=>rfl)))
  (ag (bu (j8 waT waX waZ cV (pv 6) (a5 (j8 wgh wgz wgA E5 eV (a5 (cD rfl (ax ["_law_signs","_law_size"] [5,3]) (aN (cy kc (pv 8) (bp aq) (bp (aO dH aq (pv 9))))) (λ_ _ _ _ _ _=>bq) (λ_ _ _ _ _ _=>(bf Hf (pv 1) (aO dZ (pv 0) (pv 2)) (λ_ _=>rfl)))) a9)) a9)))))))
  (ag (aB (ee (a5 (pv 5) (a5 (pv 6) a9)))))))))))),?_⟩
 try dsimp only[dC,dA,b6,b7]
 refine⟨_,rfl,a,ns,0,rfl,hS,λc1 H1 s1=>?_⟩;refine⟨c1,4,rfl,by decide,λlx xs H2 s2 fx h2 hx=>?_⟩;obtain⟨x0,x1,x2,x3,rfl⟩:=M4 hx;clear hx;have Pg:=s1.trans s2;obtain⟨n,hn,n1⟩:=OC _ (wbn x0 (show (8:Int)≠0 by decide)) (wbl x0 (show (0:Int)<8 by decide));refine⟨by decide,λp hp=>?_⟩;have G:=a8.upd (o:=.lst [.int 2,.int 2,.int 2,.int 3,.int 2,.int 4,.int 2,.int 3]) hp _ _ h2;have xk:=Pg.trans (a8.upd (o:=.lst [.int 2,.int 2,.int 2,.int 3,.int 2,.int 4,.int 2,.int 3]) hp);refine⟨_,rfl,lx,_,0,_,rfl,rfl,aM.of G,rfl,_,_,rfl,rfl,(by show (0:Int)<8;decide),p,_,_,_,rfl,rfl,aM.of a6,hn,?_⟩;generalize upd H2 p _=H3 at G xk;obtain⟨sp,Xi,XI⟩:=OD _ (wbn x2 (show (6:Int)≠0 by decide)) (wbl x2 (show (0:Int)<6 by decide));refine⟨by decide,λp2 RA=>?_⟩;have f:=a8.upd (o:=.lst [.int 1,.int 5,.int 7,.int 11,.int 13,.int 35]) RA _ _ G;have RP:=xk.trans (a8.upd (o:=.lst [.int 1,.int 5,.int 7,.int 11,.int 13,.int 35]) RA);refine⟨_,rfl,lx,_,2,_,rfl,rfl,aM.of f,rfl,_,_,rfl,rfl,(by show (0:Int)<6;decide),p2,_,_,_,rfl,rfl,aM.of a6,Xi,?_⟩;generalize upd H3 p2 _=H4 at f RP
 have XJ:sp<=35:=by
  simp only[waC,wbJ,or_false]at XI;omega
 have hn4:n<=4:=by
  simp only[waC,wbJ,or_false]at n1;omega
 obtain⟨st,est⟩:∃st:Nat,x1%36=(st:Int):=⟨(x1%36).toNat,by omega⟩;have Ug:st<36:=by omega
 refine⟨rfl,_,rfl,(n:Int),rfl,by omega,by omega,λl hl=>?_⟩;rw[waG];refine comp_map (L1 st sp) (ot 0 n) hl (by rw[wa0,waO];exact av (by omega)) (λ_ _=>trivial) (λx H5 Q' hx s5 q=>?_) (λH5 s5 m=>?_)
 ·obtain⟨i,hi,rfl⟩:=wab.mp hx;have hi':i<n:=wb5.mp hi;have hd:(st+i*sp)%36<(ch fK).length:=by rw[aV,Aw];exact Nat.mod_lt _ (by decide)
  have e1:(ch fK)[(st+i*sp)%36]?=some ((ch fK).getD ((st+i*sp)%36) 0):=by rw[wa3,wa1 hd];rfl
  have e2:=bE e1
  have e3:(((st+i*sp)%36:Nat):Int)=(x1+(sp:Int)*(0+(i:Int)))%36:=by
   rw[wcG,weB (sp:Int),Int.natCast_emod,wcK,wbo,<-est];show (x1%36+(i:Int)*(sp:Int))%36=_;rw[Int.emod_add_emod]
  rw[e3]at e2
  have e4:L1 st sp (.int (0+(i:Int)))=.str ⟨#[(ch fK).getD ((st+i*sp)%36) 0]⟩:=by
   rw[wcG];rfl
  have q':=q H5 (a8.refl _);rw[e4]at q';exact⟨_,rfl,_,rfl,lx,_,1,_,rfl,rfl,aM.of (s5 _ _ f),rfl,_,rfl,_,rfl,_,_,rfl,rfl,.inl ⟨by omega,by omega⟩,_,_,rfl,rfl,_,_,rfl,rfl,(by show (0:Int)<36;decide),fK,_,_,rfl,rfl,av (by rw[Aw];decide),e2,q'⟩
 have XM:((waH n).map λ(i:Nat)=>V.int (0+(i:Int))).map (L1 st sp)=((mm st sp n).map λc=>(⟨#[c]⟩:Str)).map V.str:=by
  unfold mm;rw[wah,wah,wah];refine wb7 λi _=>?_;show L1 st sp (.int (0+(i:Int)))=_;rw[wcG];rfl
 have d:(mm st sp n).length=n:=by unfold mm;rw[wa0,waO]
 rw[XM]at m;refine⟨_,l,_,rfl,rfl,aM.of m,?_,?_⟩
 ·have u:∀r:List Nat,((r.map λc=>(⟨#[c]⟩:Str)).map (·.length)).sum=r.length:=by
   intro r
   induction r with
   |nil=>rfl
   |cons c r ih=>rw[waz,waz,wbt,ih,waK];show 1+r.length=_;omega
  rw[u,wa0,d];show n+n*0<=16777216;omega
 have I:∀r:List Nat,((r.map λc=>(⟨#[c]⟩:Str)).map ch).flatten=r:=by
  intro r
  induction r with
  |nil=>rfl
  |cons c r ih=>rw[waz,waz,wc5,ih];rfl
 have XO:=BH Ug XI n1 (x:=wdw "" ((mm st sp n).map λc=>(⟨#[c]⟩:Str))) (by rw[qS (by decide+kernel),I]);have EA:(wdw "" ((mm st sp n).map λc=>(⟨#[c]⟩:Str))).length=n:=by rw[<-aV,qS (by decide+kernel),I,d]
 generalize wdw "" ((mm st sp n).map λc=>(⟨#[c]⟩:Str))=g at XO EA ⊢;clear m XM d I;have XQ:=RP.trans s5;have h5x:=s5 _ _ f;obtain⟨nw,hnw,nw6⟩:=OG _ (wbn x3 (show (8:Int)≠0 by decide)) (wbl x3 (show (0:Int)<8 by decide));refine⟨waB _,λJ M=>?_⟩;have fw:H J=none:=none_of XQ M;have h6x:=a8.upd (o:=.lst []) M _ _ h5x;have QW:=XQ.trans (a8.upd (o:=.lst []) M);refine⟨by decide,λp3 O=>?_⟩;have XR:=a8.upd (o:=.lst [.int 0,.int 1,.int 2,.int 3,.int 1,.int 2,.int 3,.int 6]) O _ _ h6x;have XS:=a8.upd (o:=.lst [.int 0,.int 1,.int 2,.int 3,.int 1,.int 2,.int 3,.int 6]) O _ _ (a6 (H:=H5) (a:=J) (o:=.lst []));have XU:=QW.trans (a8.upd (o:=.lst [.int 0,.int 1,.int 2,.int 3,.int 1,.int 2,.int 3,.int 6]) O);refine⟨_,rfl,lx,_,3,_,rfl,rfl,aM.of XR,rfl,_,_,rfl,rfl,(by show (0:Int)<8;decide),p3,_,_,_,rfl,rfl,aM.of a6,hnw,?_⟩;generalize upd (upd H5 J _) p3 _=H7 at XR XS XU;refine⟨_,rfl,by omega,by omega,?_⟩;rw[waG]
 refine cU (lo:=0) (n:=nw) (λi σ H8=>∃(R:List Str) (v7 v8 v9:Option V),σ=[some (.ref a),some (.str fK),some (.ref lx),some (.int (n:Int)),some (.int (sp:Int)),some (.str g),some (.ref J),v7,v8,v9]/\a8 H H8/\H8 J=some (.lst (R.map V.str))/\R.length=i/\∀w∈R,z9 g w)
  ⟨[],none,none,none,rfl,XU,XS,rfl,(λw h=>nomatch h)⟩ ?_ ?_
 ·rintro i σ H8 hi ⟨R,v7,v8,v9,rfl,s8,h8,Ay,S⟩;refine⟨_,rfl,_,rfl,_,_,rfl,rfl,(by show (0:Int)<3;decide),_,_,rfl,rfl,a,ns,_,rfl,s8.seq hS,λcc H9 s9=>?_⟩;refine⟨cc,12,rfl,by decide,λly ys BZ Ga fy GD hy=>?_⟩;have hq:(0+(i:Int))/3*6=((i/3*6:Nat):Int):=by omega
  have hq6:i/3*6<=6:=by omega
  refine⟨_,rfl,_,_,rfl,rfl,⟨by decide,by decide⟩,_,_,rfl,rfl,.inr ⟨by decide,by decide⟩,_,rfl,ly,_,rfl,aM.of GD,λl2 m=>?_⟩
  have ec:m6 (ys.map V.int) (some ((0+(i:Int))/3*6)) none=(ys.drop (i/3*6)).map V.int:=by
   rw[wea,hq];exact AW _ _
  rw[ec];have U:(ys.drop (i/3*6)).length ≥ 6:=by rw[wbp];omega
  generalize ys.drop (i/3*6)=zs at U;have B:(upd BZ l2 (.lst (zs.map V.int))) l2=some (.lst (zs.map V.int)):=a6;have Oi:=((s8.trans s9).trans Ga).trans (a8.upd (o:=.lst (zs.map V.int)) m);have Rm:=a8.upd (o:=.lst (zs.map V.int)) m _ _ (Ga _ _ (s9 _ _ h8));generalize upd BZ l2 _=MH at B Oi Rm
  obtain⟨C,D,rfl⟩:∃C D,zs=C::D:=by
   cases zs with
   |nil=>exact absurd U (by decide)
   |cons C D=>exact⟨C,D,rfl⟩
  obtain⟨lg,hlg,lg1,lg5⟩:=OH _ (wbn C (show (8:Int)≠0 by decide)) (wbl C (show (0:Int)<8 by decide));refine⟨by decide,λp4 X=>?_⟩;have v:=a8.upd (o:=.lst [.int 2,.int 3,.int 4,.int 2,.int 3,.int 4,.int 1,.int 5]) X _ _ B;have LO:=Oi.trans (a8.upd (o:=.lst [.int 2,.int 3,.int 4,.int 2,.int 3,.int 4,.int 1,.int 5]) X);have Y:=a8.upd (o:=.lst [.int 2,.int 3,.int 4,.int 2,.int 3,.int 4,.int 1,.int 5]) X _ _ Rm;refine⟨_,rfl,l2,_,0,_,rfl,rfl,aM.of v,(bE (xs:=(C::D).map V.int) (j:=0) rfl),_,_,rfl,rfl,(by show (0:Int)<8;decide),p4,_,_,_,rfl,rfl,aM.of a6,hlg,?_⟩;generalize upd MH p4 _=GB at v LO Y;refine⟨_,rfl,.inl ⟨rfl,_,aM.of Y⟩,rfl,_,rfl,?_⟩;refine⟨_,rfl,_,rfl,_,_,rfl,rfl,_,rfl,l2,_,rfl,aM.of v,λl3 Kr=>?_⟩
  obtain⟨ms,em,UU⟩:∃ms:List Int,m6 ((C::D).map V.int) (some 1) (some (1+(lg:Int)))=ms.map V.int/\ms.length=lg:=by
   refine⟨D.take lg,?_,by rw[wak];rw[waK]at U;omega⟩;rw[show (1+(lg:Int))=((1+lg:Nat):Int) by omega,show (1:Int)=((1:Nat):Int) from rfl,L7 _ (by omega),wdB];show (((D.map V.int).take (1+lg-1)))=_;rw[wcw]
  rw[em];have OI:=LO.trans (a8.upd (o:=.lst (ms.map V.int)) Kr);have SU:=a8.upd (o:=.lst (ms.map V.int)) Kr _ _ Y;refine⟨l3,rfl,⟨_,aM.of a6⟩,λlc LN=>?_⟩
  have XV:0<(n:Int):=by
   simp only[waC,wbJ,or_false]at n1;omega
  refine HM (λy=>∃t,y=.str t/\∃cc,t=⟨#[cc]⟩/\cc∈ch g) (aP K l3 (ms.map V.int)) LN (by rw[wa0];exact av (by omega)) (λH' s'=>s'.seq (aM.of a6)) (λx Pm Q' hx Z q=>?_) (λus Pm Z d hR h14=>?_)
  ·obtain⟨y,hy,rfl⟩:=wab.mp hx;have y0:=wbn y (show (n:Int)≠0 by omega);have y1:=wbl y XV;obtain⟨dd,edd⟩:∃dd:Nat,y%(n:Int)=(dd:Int):=⟨(y%(n:Int)).toNat,by omega⟩;have hd:dd<(ch g).length:=by rw[aV];omega
   have e1:(ch g)[dd]?=some (ch g)[dd]:=by simp[hd]
   have e2:=bE e1;rw[<-edd]at e2;exact⟨_,rfl,_,rfl,_,rfl,_,_,rfl,rfl,XV,g,_,_,rfl,rfl,av (by omega),e2,q _ Pm ⟨_,rfl,_,rfl,waL hd⟩ (a8.refl _)⟩
  obtain⟨ts,rfl,XW⟩:=E8 hR;rw[wa0,wa0]at d;have u:=AJ XW;refine⟨_,lc,ts,rfl,rfl,aM.of h14,?_,?_⟩
  ·rw[u];show ts.length+ts.length*0<=16777216;omega
  have XX:z9 g (wdw "" ts):=Fb (by decide+kernel) (by omega) (by omega) XW;generalize wdw "" ts=wd at XX;have Pn:=OI.trans Z;have h15:=Z _ _ SU;refine⟨J,_,_,rfl,rfl,h15,by rw[wa0];exact bz (by omega),?_⟩;refine⟨R++[wd],_,_,_,rfl,λb o e=>?_,?_,by simp[Ay],λw hw=>?_⟩
  ·rw[ae (af e fw)];exact Pn _ _ e
  ·rw[a6,wao];rfl
  ·rcases waA.mp hw with z |z
   ·exact S w z
   ·rw[wat.mp z];exact XX
 ·rintro σ H8 ⟨R,v7,v8,v9,rfl,s8,h8,Ay,S⟩;refine⟨_,rfl,_,rfl,by show 2<=sizeLine;decide,λq hq=>?_⟩;exact k q J g R _ (s8.trans (a8.upd hq)) (none_of s8 hq) fw a6 (a8.upd hq _ _ h8) XO (by omega) S
theorem JQ{n:Nat}{many wide:Int}(r:2<=n)(l:n<=4)(p:2<=many)(m8:many<=8)(g:1<=wide)(j:wide<=6)(h:2<n->wide<=3):gA n many wide:=by
 have key:∀(m:Fin 5) (k:Fin 7),(2<m.val->k.val<=3)->(m.val:Int)^k.val<=64:=by decide
 obtain⟨k,rfl⟩:=wfM (wdY (by decide) g);exact⟨p,m8,g,j,key ⟨n,whr l⟩ ⟨k,whr (Int.ofNat_le.mp j)⟩ λz=>Int.ofNat_le.mp (h z)⟩
noncomputable def VC:List (Int×Int):=[(2,2),(2,3),(4,3),(3,3),(2,4),(3,2),(5,3),(8,5),(2,1),(6,4),(7,5),(7,6)]
theorem OJ:∀d:Int,0<=d->d<12->∃p,VC[d.toNat]?=some p/\2<=p.1/\p.1<=8/\1<=p.2/\p.2<=6:=under 12 λk=>⟨VC.getD k.val (0,0),by revert k;decide⟩
theorem JR{X:Cx}{x:Str}{i:Nat}{g:List Expr}{ps:List (Int×Int)}{rest:List Stmt}{b:TS}{j l p:Pos}(r:X.N.Nodup)(hi:X.N[i]?=some x)(t:Loc X.env.scope x)(C:∀X,PA X g (vc ps))(I:wI X rest b)
 (hs:wc6 (.List g l) (some (.Name x j)) p.line X.env=pure false:=by rfl) (J:X.fn x=true\/X.env.scope.names.lookup x=some .local:=by first |exact .inl rfl |exact .inr rfl |assumption) :
 wI X (.Assign [.Name x j] (.List g l) p::rest) (MZ (K9 (PZ (vc ps)) (dD i)) b):=a7 (GR (i:=i) r hi t (cC (C _)) hs J) I
theorem zP(L:Lk K mg):aS P w K mg base d8 2 L.tj L.tq ["_law_script","_law_signs"] (La K):=by
 have T:=L.T;refine L.n9.F.dQ (N:=["_law_script","_law_signs","_law_some","_law_many","_law_wide"]) (λV A outer s H vs Q E nd hr h=>?_);obtain⟨a,ns,g,rfl,Y,u,v,k⟩:=h;obtain⟨x,l,y,B,Z,C,D⟩:∃(x:Pos) (l:List Expr) (y B:Pos),cf (top 86)=.Assign [.Name "_law_some" x] (.List l y) B::(cf (top 86)).tail/\(∀X,PA X l (vc VC))/\∀env,wc6 (.List l y) (some (.Name "_law_some" x)) B.line env=pure false:=⟨_,_,_,_,rfl,λ_=>by repeat first |exact a9 |refine Lc ?_,λ_=>rfl⟩;rw[Z]
 refine⟨_,(JR (i:=2) nd rfl (wdR rfl) C (a7 (uq (bf bF (pv 2) (aO dZ (au (lC L) L.hU (a5 (pv 0) (a5 aq a9))) aq) (λ_ _=>rfl)) (dG rfl (aK (aw (i:=3)) (aK (aw (i:=4)) cB))))
  (KG (bK (aH nL (aC bJ (by rfl) T.len waM (a5 (pv 1) a9)) aq (aU _)) (ag (ai (i:=4) (aC (xM rfl) (by rfl) T.min NI (a5 (pv 4) (a5 aq a9))))) aQ)
  (ag (aB (ee (a5 (pv 3) (a5 (pv 4) a9))))))) (D _)),?_⟩
 try dsimp only[dC,dA,b6,b7]
 refine Eg λe G I hl hI=>⟨hl ▸ (by show 12<=sizeLine;decide),λb f=>?_⟩;have d:=I.trans (a8.upd (o:=.lst G) f);have M:=a6 (H:=e) (a:=b) (o:=.lst G);have O:=a8.upd (o:=.lst G) f;generalize upd e b _=G12 at d M O;refine⟨_,rfl,_,rfl,a,ns,4,rfl,d.seq Y,λc H2 J=>?_⟩;have R:=wbn c (show (12:Int)≠0 by decide);obtain⟨⟨many,wide⟩,m,m2,m8,n,r⟩:=OJ _ R (wbl c (show (0:Int)<12 by decide));obtain⟨q,t,hm⟩:=hI _ _ m;have t:=bE t;rw[wgX R]at t;have j:=d.trans J;refine⟨_,_,rfl,rfl,(by show (0:Int)<12;decide),b,_,_,_,rfl,rfl,aM.of (J _ _ M),t,q,_,rfl,gL.of (J _ _ (O _ _ hm)),rfl,_,_,rfl,_,_,rfl,rfl,?_⟩;refine⟨λσ S=>S=H2/\∃(wd:Int),σ=[some (.ref a),some (.str g),some (.ref b),some (.int many),some (.int wd)]/\1<=wd/\wd<=6/\(2<g.length->wd<=3),?_,?_⟩
 ·refine⟨_,rfl,g,rfl,av (by omega),_,_,rfl,rfl,_,rfl,Am (λU=>?_) (λU=>?_)⟩
  ·refine⟨_,rfl,wide,3,rfl,?_⟩
   by_cases z:(3:Int)<wide
   ·rw[if_pos z];exact⟨rfl,3,rfl,by decide,by decide,λ_=>weR _⟩
   ·rw[if_neg z];exact⟨rfl,wide,rfl,n,r,λ_=>by omega⟩
  ·exact⟨rfl,wide,rfl,n,r,λz=>absurd (decide_eq_true (by omega)) U⟩
 ·rintro σ S ⟨rfl,wd,rfl,n,r,w3⟩;refine⟨_,rfl,_,rfl,by show 2<=sizeLine;decide,λp m=>?_⟩;exact k p many wd _ (j.trans (a8.upd m)) (none_of j m) a6 (JQ u v m2 m8 n r w3)
inductive RQ(R:Wr)(dk:Addr)(BZ:Hp)(n:Nat)(H':Hp):Prop
 |mk (_:∀b o,b≠dk->BZ b=some o->H' b=some o) (kvs) (_:H' dk=some (.dK kvs)) (_:kvs.length<=n) (_:∀kv∈kvs,∃(x:Str) (i:Nat),kv=((wai x:Key),V.int (i:Int))/\Pk R x i)
noncomputable abbrev M5(R:Wr)(a lw x z dk:Addr)(v8 v9 v10 v11 Gu RT RU:Option V):St:=[some (.ref a),some (.str R.g),some (.ref lw),some (.int R.many),some (.int (R.n:Int)),some (.ref x),some (.ref z),some (.ref dk),v8,v9,v10,v11,Gu,RT,RU]
inductive OM(R:Wr)(a lw x z dk:Addr)(BZ:Hp)(i:Nat)(σ:St)(H':Hp):Prop
 |mk (_:RQ R dk BZ (i*1000) H') (v8 v9 v10 v11 Gu) (_:σ=M5 R a lw x z dk v8 v9 v10 v11 Gu none none)
inductive VD(R:Wr)(a lw x z dk l:Addr)(row:Str)(BZ:Hp)(i m j:Nat)(σ:St)(H':Hp):Prop
 |mk (_:j<=m) (_:RQ R dk BZ (i*1000+j) H') (v10 v11 Gu) (_:σ=M5 R a lw x z dk (some (.ref l)) (some (.str row)) v10 v11 Gu none none)
inductive OO(R:Wr)(a lw x z dk:Addr)(v8 v9 v10 v11:Option V)(GB:Hp)(i:Nat)(σ:St)(H':Hp):Prop
 |mk (_:a8 GB H') (Gu RT RU) (_:σ=M5 R a lw x z dk v8 v9 v10 v11 Gu RT RU)
theorem OM.off(q:OM R a p x z j g i σ l):∀b o,b≠j->g b=some o->l b=some o:=by
 obtain⟨⟨h,_⟩,_⟩:=q;exact h
theorem OO.s(q:OO R a l x z p r t v10 v11 g i σ j):a8 g j:=by
 obtain⟨h,_⟩:=q;exact h
theorem OQ{f:Addr}{fd:wad}(L:Lk K mg)(F:Al K "law" "law" (top 88) f fd):aS P w K mg base d8 13 f fd ["_law_script"] (Ea K):=by
 have T:=L.T;refine F.dQ (N:=["_law_script","_law_signs","_law_words","_law_many","_law_wide","_law_told_here","_law_reader","_law_known","_law_data","_law_row","_law_k","_law_at","_law_window","_law_number","_law_found"]) (λhX A outer s H vs Q E nd hr h=>?_);obtain⟨a,ns,rfl,hS,hlen,k⟩:=h;have QP:(A.deeper (wdG "law" (aI (top 88)) s.heap.objs.size f hX)).units<wcI:=hr.yU
 refine⟨_,(a7 (uq (au (zO L) L.n8 (a5 (pv 0) a9)) (dG rfl (aK (aw (i:=1)) (aK (aw (i:=2)) cB))))
  (a7 (uq (au (zP L) L.n9 (a5 (pv 0) (a5 (pv 1) a9))) (dG rfl (aK (aw (i:=3)) (aK (aw (i:=4)) cB))))
  (a7 (ai (i:=5) (au (zN L) L.nc (a5 (pv 1) (a5 (pv 2) (a5 (pv 3) (a5 (pv 4) a9))))))
  (a7 (bK (aH GY (pv 5) gu (aU _)) (ag (aB gX)) aQ)
  (a7 (ai (i:=6) (nB L.yH (oW L) (hr.mono (by decide)) rfl L.Bo L.fZ.b .nil bI (a5 (pv 5) a9)))
  (a7 (ai (i:=7) cY)
  (a7 (b0 wal rfl (aN (cC (a5 (cD rfl (ax ["_law_many"] [3]) (aN (yP (pv 0) (bp aq) (bp aq) (bp aq))) (λ_ _ _ _ _ _=>bq) (λ_ _ _ _ _ _=>(aO dZ (pv 0) (pv 1)))) (a5 (cD rfl (ax ["_law_many"] [3]) (aN (yP (pv 0) (bp aq) (bp aq) (bp aq))) (λ_ _ _ _ _ _=>bq) (λ_ _ _ _ _ _=>(aO dZ (pv 0) (pv 1)))) a9)))) (aw (i:=8)) (a7 (ai (i:=9) (cX (pv 5) L.aj.cl L.fW.m (tR L) (hr.mono (by decide)) L.fW.b .nil bI (a5 (bH dI (by rfl) T.list iN (a5 (pv 8) a9)) a9)))
  (ag (b0 wal rfl (cT rfl T.range (a5 (aC bx (by rfl) T.len waM (a5 (pv 8) a9)) a9)) (aw (i:=10)) (a7 (ai (i:=11) (aO dH (aC bJ (by rfl) T.len waM (a5 (bP (pv 5) L.aj.cl L.gR.m (wh L) (hr.mono (by decide)) L.gR.b .nil bI) a9)) (aO gx (pv 4) (aO uw (pv 10) (bP (pv 5) L.aj.cl L.b5.m (dq L) (hr.mono (by decide)) L.b5.b .nil bI)))))
  (a7 (ai (i:=12) (cy ki (pv 9) (bp (pv 11)) (bp (aO dH (pv 11) (aO gx (pv 4) (aO dH (aO dH (bP (pv 5) L.aj.cl L.b5.m (dq L) (hr.mono (by decide)) L.b5.b .nil bI) aq) (bP (pv 5) L.aj.cl L.cp.m (ip L) (hr.mono (by decide)) L.cp.b .nil bI)))))))
  (ag (bK (aH GW (w9 (pv 7) (pv 12) (bf bF (pv 8) (pv 10) (λ_ _=>rfl)) ⟨rfl,rfl,rfl,rfl⟩) (bf bF (pv 8) (pv 10) (λ_ _=>rfl)) (aU _)) (ag (aB gX)) aQ))))))))
  (a7 (b0 wal rfl (JO (Ci wcv wfO PySem.F.type_dict_items JN (pv 7))) (dG rfl (aK (aw (i:=12)) (aK (aw (i:=13)) cB))) (a7 (ai (i:=14) (cX (pv 6) L.aF.cl L.eR.m (qE L) (hr.mono (by decide)) L.eR.b .nil bI (a5 (pv 12) a9)))
  (ag (bK (PW.pt (j7 (eW (cQ (aC cZ (by rfl) T.LJ zb (a5 (pv 14) (a5 (iA (v:=.ty "int") (by rfl) T.int Qy rfl) a9))))) (j7 (cQ (aC cZ (by rfl) T.LJ zb (a5 (pv 14) (a5 (iA (v:=.ty "bool") (by rfl) T.bool Mp rfl) a9)))) (m3 (aH (NW QP) (pv 14) (pv 13) (aU _)))))) (ag (aB gX)) aQ))))
  (ag (aB gX)))))))))),?_⟩
 try dsimp only[dC,dA,b6,b7]
 refine yx λR1 c1=>?_;refine⟨_,rfl,a,ns,rfl,hS,λpt lw g ws H1 s1 fpt flw hpt Oe sg SG VE=>?_⟩;have g2:=sg.lo;have g4:=sg.hi;refine⟨pt,_,rfl,gL.of hpt,rfl,_,_,rfl,_,_,rfl,rfl,?_⟩;refine c1 _ _ (yx λR2 c2=>?_);refine⟨_,rfl,_,rfl,a,ns,g,rfl,s1.seq hS,g2,g4,λpr many wide H2 s2 fpr Vj Jo=>?_⟩;refine⟨pr,_,rfl,gL.of Vj,rfl,_,_,rfl,_,_,rfl,rfl,?_⟩;refine c2 _ _ (yx λR3 c3=>?_);obtain⟨ra,rb,rc,rd,re⟩:=id Jo;obtain⟨wd,rfl⟩:∃w:Nat,wide=(w:Int):=⟨wide.toNat,by omega⟩;have Pg:=s1.trans s2;refine⟨_,rfl,_,rfl,_,rfl,_,rfl,g,lw,many,wd,ws,rfl,aM.of (s2 _ _ Oe),sg,SG,VE,Jo,λv H3 s3 hv=>?_⟩;have xk:=Pg.trans s3;refine c3 _ _ (yx λR4 c4=>?_);rcases hv with rfl |⟨x,rfl,hT⟩
 ·exact⟨_,rfl,rfl,true,rfl,fJ (k H3)⟩
 refine⟨_,rfl,rfl,false,rfl,cm ?_⟩;refine c4 _ _ (yx λR5 c5=>?_)
 obtain⟨R,Wv,rfl,rfl,rfl⟩:∃R:Wr,rM K L.ak L.az L.aR H3 x R/\many=R.many/\wd=R.n/\g=R.g:=by
  obtain⟨xb,ss,ls,f0,f,qM,ks,hs,wss,lns,b,B,Wv,Rp,hL,hle,hP,W0,hB⟩:=hT;exact⟨_,M3 B Wv hP W0 hB sg.nd (λw h=>⟨(VE w h).lo,by have:=(VE w h).hi;omega⟩) (by omega) (by omega) (by omega) rb (by omega) (by omega),rfl,rfl,rfl⟩
 have ok:=Wv.ok;refine⟨_,rfl,λz dz nz SX Xs=>?_⟩;have sm:a8 H3 (upd (upd H3 dz (.own z)) z (.ins L.aL dz [])):=fz nz SX;refine⟨z,dz,x,R,rfl,a6,Wv.same (Bf sm nz),λH4 kp D4=>⟨rfl,?_⟩⟩;have s4:a8 H3 H4:=λc o e=>kp _ _ (sm _ _ e) (af e nz);clear kp sm nz SX Xs;have W4:=Wv.same s4;have RP:=xk.trans s4;obtain⟨⟨dx,p,xb',aa,ll,dp,wa,wb,wc,wz,ys,hx,_⟩,_⟩:=id W4;obtain⟨dz',x',a',hz,_⟩:=id D4;have n1:=ok.n1;have wH:=ok.wH;have b1:=ok.b1;have c1':=ok.c1;have hol:=RM ok;have hob:R.n*R.b<=10*1000:=wc3 wH b1;clear hT Wv;refine c5 [some (.ref a),some (.str R.g),some (.ref lw),some (.int R.many),some (.int (R.n:Int)),some (.ref x),some (.ref z),none,none,none,none,none,none,none,none] _ (yx λR6 c6=>?_);refine λC Y=>?_;have s5:=a8.upd (H:=H4) (o:=.dK []) Y;have h5:(upd H4 C (.dK [])) C=some (.dK []):=a6;generalize upd H4 C (.dK [])=H5 at s5 h5;refine c6 (M5 R a lw x z C none none none none none none none) _ (yx λR7 c7=>?_);refine⟨_,rfl,_,rfl,_,rfl,_,rfl,a,_,_,rfl,rfl,by decide,(RP.trans s5).seq hS,λys1 XY MF la RB=>?_⟩;obtain⟨m1,rfl⟩:=wj XY;rw[wa0,wa0]at MF;refine⟨la,rfl,⟨_,aM.of a6⟩,λlb SZ=>?_⟩;have t1:=a8.upd (H:=H5) (o:=.lst (m1.map V.int)) RB;have g1:(upd H5 la (.lst (m1.map V.int))) la=some (.lst (m1.map V.int)):=a6;generalize upd H5 la (.lst (m1.map V.int))=H6 at SZ t1 g1;refine comp_map (OB R.many) (aP K la _) SZ (by rw[wa0];exact av (by omega)) (λH' s'=>aM.of (s' _ _ g1)) (λz H7 Q' hz s7 q=>?_) (λH7 s7 h7=>?_)
 ·obtain⟨c,hc,rfl⟩:=wab.mp hz;exact⟨_,rfl,_,rfl,_,_,rfl,rfl,by omega,q H7 (a8.refl _)⟩
 obtain⟨ts1,e1,tl1,tm1⟩:=BG ra m1;rw[e1]at h7;have XZ:=t1.trans s7;clear t1 g1 s7 XY;refine⟨_,rfl,_,rfl,_,rfl,_,rfl,a,_,_,rfl,rfl,by decide,(RP.trans (s5.trans XZ)).seq hS,λys2 Y0 Rl lc LN=>?_⟩;obtain⟨m2,rfl⟩:=wj Y0;rw[wa0,wa0]at Rl;refine⟨lc,rfl,⟨_,aM.of a6⟩,λld QU=>?_⟩;have t2:=a8.upd (H:=H7) (o:=.lst (m2.map V.int)) LN;have VF:(upd H7 lc (.lst (m2.map V.int))) lc=some (.lst (m2.map V.int)):=a6;generalize upd H7 lc (.lst (m2.map V.int))=H8 at QU t2 VF;refine comp_map (OB R.many) (aP K lc _) QU (by rw[wa0];exact av (by omega)) (λH' s'=>aM.of (s' _ _ VF)) (λz H9 Q' hz s9 q=>?_) (λH9 s9 h9=>?_)
 ·obtain⟨c,hc,rfl⟩:=wab.mp hz;exact⟨_,rfl,_,rfl,_,_,rfl,rfl,by omega,q H9 (a8.refl _)⟩
 obtain⟨ts2,e2,tl2,tm2⟩:=BG ra m2;rw[e2]at h9;have Y1:=t2.trans s9;clear t2 VF s9 Y0;refine⟨by show 2<=sizeLine;decide,λlr hlr=>?_⟩;have Ga:=a8.upd (H:=H9) (o:=.lst [.ref lb,.ref ld]) hlr;have GD:(upd H9 lr (.lst [.ref lb,.ref ld])) lr=some (.lst [.ref lb,.ref ld]):=a6;generalize upd H9 lr (.lst [.ref lb,.ref ld])=BZ at Ga GD;have RV:=XZ.trans (Y1.trans Ga);have Z:=s5.trans RV;have Y2:=RV _ _ h5;have VG:=(Y1.trans Ga) _ _ h7;have VH:=Ga _ _ h9
 have Y3:∀{b:Addr} {o:HO},BZ b=some o->(∀kv,o≠.dK kv)->b≠C:=λe n z=>by
  rw[z,Y2]at e;exact n _ (wag e).symm
 refine⟨lr,rfl,⟨_,aM.of GD⟩,dh (K:=K) (a:=lr) (xs:=[.ref lb,.ref ld]) (OM R a lw x z C BZ) ⟨⟨λ_ _ _ e=>e,[],Y2,waB _,λ_ h=>nomatch h⟩,none,none,none,none,none,rfl⟩ (λi σ H' _ q=>aM.of (q.off _ _ (Y3 GD λ_=>nofun) GD)) ?_ ?_⟩
 ·rintro i y σ D hy ⟨⟨S,d,hk,kl,kw⟩,v8,v9,v10,v11,Gu,rfl⟩
  obtain⟨l,G,rfl,M,tl,tm⟩:∃l G,y=.ref l/\BZ l=some (.lst ((nI G).map V.int))/\G.length<=1000/\∀t∈G,(t:Int)<R.many:=by
   have Y4:=wa9 hy;simp only[waC,wbJ,or_false]at Y4;rcases Y4 with rfl |rfl
   ·exact⟨lb,ts1,rfl,VG,by omega,tm1⟩
   ·exact⟨ld,ts2,rfl,VH,by omega,tm2⟩
  have hi:i<2:=(wa6.mp hy).1;have G3:=Y3 M λ_=>nofun;have O:a8 H4 D:=λb o e=>S _ _ (af e Y) (Z _ _ e);have MD:((nI G).map V.int).length=G.length:=by rw[wa0,cJ]
  obtain⟨A1,r1⟩:=Vx ok tm;show dD 8 (V.ref l) _ _ _;refine⟨_,rfl,x,dx,_,rfl,O _ _ hx,cM _ _ _ _ _ _ _ _ (by decide+kernel),_,rfl,l,_,rfl,.inl (aM.of (S _ _ G3 M)),λl1 MF=>?_⟩;have U:=a8.upd (H:=D) (o:=.lst ((nI G).map V.int)) MF;have Oj:(upd D l1 (.lst ((nI G).map V.int))) l1=some (.lst ((nI G).map V.int)):=a6;generalize upd D l1 (.lst ((nI G).map V.int))=GB at U Oj;refine⟨x,l1,R,G,rfl,W4.same (O.trans U),Oj,tm,by omega,λMK OI=>?_⟩;rw[r1.row];have J:=U.trans OI;have Dw:(cat A1).length=R.n*(R.b+G.length+R.c):=by rw[gf λu h=>(r1.u u h).1,r1.l]
  have SR:R.n*(R.b+G.length+R.c)<=10*3000:=wc3 wH (by omega);refine⟨_,rfl,l,_,rfl,.inl (aM.of (J _ _ (S _ _ G3 M))),?_⟩;rw[MD];refine⟨(G.length:Int),rfl,by omega,by omega,?_⟩;rw[waG];refine cU (lo:=0) (n:=G.length) (VD R a lw x z C l (cat A1) BZ i G.length) ⟨waB _,⟨λb o n e=>J _ _ (S _ _ n e),d,J _ _ hk,kl,kw⟩,_,_,_,rfl⟩ ?_ ?_
  ·rintro j σ Pm hj ⟨_,⟨X,d,hk,kl,kw⟩,v10,v11,Gu,rfl⟩;show dD 10 (V.int (0+(j:Int))) _ _ _;rw[wcG];have r:a8 H4 Pm:=λb o e=>X _ _ (af e Y) (Z _ _ e);refine⟨_,rfl,x,dx,_,rfl,r _ _ hx,cM _ _ _ _ _ _ _ _ (by decide+kernel),x,R,rfl,W4.same r,R.o.1,rfl,av (by omega),_,rfl,_,rfl,_,rfl,x,dx,_,rfl,r _ _ hx,cM _ _ _ _ _ _ _ _ (by decide+kernel),zM (W4.same r) λH15 Pn=>?_⟩;refine⟨_,_,rfl,rfl,_,_,rfl,rfl,.inl ⟨by omega,by omega⟩,_,_,rfl,rfl,?_⟩;show dD 11 (V.int ((R.o.1.length:Int)+(R.n:Int)*((j:Int)-(R.b:Int)))) _ _ _;rw[show (R.o.1.length:Int)+(R.n:Int)*((j:Int)-(R.b:Int))=((R.n*j:Nat):Int) by rw[hol,Int.mul_sub,wbo,wbo];omega];have OS:=r.trans Pn;refine⟨_,rfl,_,rfl,_,rfl,_,rfl,_,rfl,_,rfl,x,dx,_,rfl,OS _ _ hx,cM _ _ _ _ _ _ _ _ (by decide+kernel),zM (W4.same OS) λY5 Y6=>?_⟩;have RW:=OS.trans Y6;refine⟨_,_,rfl,rfl,_,rfl,x,dx,_,rfl,RW _ _ hx,cM _ _ _ _ _ _ _ _ (by decide+kernel),x,R,rfl,W4.same RW,_,_,rfl,rfl,_,_,rfl,rfl,.inl ⟨by omega,by omega⟩,_,_,rfl,rfl,_,rfl,cat A1,rfl,av (by omega),?_⟩;show dD 12 (V.str (wb0 (cat A1) (some ((R.n*j:Nat):Int)) (some (((R.n*j:Nat):Int)+(R.n:Int)*((R.b:Int)+1+(R.c:Int)))))) _ _ _;have w1:=r1.win hj;rw[show ((R.n*j:Nat):Int)+(R.n:Int)*((R.b:Int)+1+(R.c:Int))=((R.n*(j+(R.b+1+R.c)):Nat):Int) by rw[weS,wcK,wbo R.n (R.b+1+R.c)];rfl];generalize wb0 (cat A1) (some ((R.n*j:Nat):Int)) (some ((R.n*(j+(R.b+1+R.c)):Nat):Int))=win at w1;have I:=Pn.trans Y6;have OT:=I _ _ (X _ _ G3 M);have OU:=I _ _ hk;have VI:((nI G).map V.int)[j]?=some (.int ((G.getD j 0:Nat):Int)):=by rw[vr (getD_some 0 hj)]
   have pl:=fu d (wai win:Key) (V.int ((G.getD j 0:Nat):Int));refine⟨_,rfl,C,rfl,.inl ⟨_,.inl OU⟩,_,rfl,_,rfl,_,rfl,l,_,_,_,rfl,rfl,aM.of OT,bE VI,d,wai win,OU,rfl,av (by omega),λv hv=>?_,λhn=>?_⟩
   ·obtain⟨x0,i0,e0,w0⟩:=kw _ (yv hv);cases e0;obtain rfl:=Pk.one ok w0 w1;exact⟨_,rfl,_,rfl,l,_,_,_,rfl,rfl,aM.of OT,bE VI,rfl,false,CT _,cm ⟨hj,⟨λb o n e=>I _ _ (X _ _ n e),d,OU,by omega,kw⟩,_,_,_,rfl⟩⟩
   ·have Y7:∀b o,b≠C->Y5 b=some o->(upd Y5 C (.dK (putK d (wai win:Key) (V.int ((G.getD j 0:Nat):Int))))) b=some o:=λb o n e=>by rw[ae n];exact e
    refine⟨_,rfl,_,rfl,l,_,_,_,rfl,rfl,aM.of (Y7 _ _ G3 OT),bE VI,rfl,false,CT _,cm ⟨hj,⟨λb o n e=>Y7 _ _ n (I _ _ (X _ _ n e)),_,a6,by omega,λkv hm=>?_⟩,_,_,_,rfl⟩⟩;rw[f9 _ hn]at hm;rcases waA.mp hm with q |q
    ·exact kw kv q
    ·exact⟨win,_,wat.mp q,w1⟩
  ·rintro σ Pm ⟨_,⟨X,d,hk,kl,kw⟩,v10,v11,Gu,rfl⟩;exact⟨⟨X,d,hk,by omega,kw⟩,_,_,_,_,_,rfl⟩
 ·rintro σ D ⟨⟨S,d,hk,kl,kw⟩,v8,v9,v10,v11,Gu,rfl⟩;have O:a8 H4 D:=λb o e=>S _ _ (af e Y) (Z _ _ e);refine c7 _ _ ?_;refine⟨_,rfl,.inr (.inr (.inl ⟨rfl,.inl ⟨_,hk⟩⟩)),C,d,rfl,rfl,hk,λvw hvw=>?_⟩;have U:=a8.upd (H:=D) (o:=tI vw C) hvw;refine⟨vw,C,d,rfl,a6,U _ _ hk,λo=>?_⟩;have RX:a8 H4 (upd (upd D vw (tI vw C)) C (.frz o (.dK d))):=λb o' e=>by rw[ae (af e Y)];exact U _ _ (O _ _ e)
  have Oj:(upd (upd D vw (tI vw C)) C (.frz o (.dK d))) C=some (.frz o (.dK d)):=a6;generalize upd (upd D vw (tI vw C)) C (.frz o (.dK d))=GB at RX Oj;refine Gs (OO R a lw x z C v8 v9 v10 v11 GB) ⟨a8.refl _,_,_,_,rfl⟩ (λi σ H' _ q=>q.s _ _ Oj) ?_ ?_
  ·rintro i kv σ MK T hkv ⟨OI,Gu,RT,RU,rfl⟩ hT;obtain⟨x0,i0,rfl,bs,w,us,rfl,hu,hb,hc,hg,hf⟩:=kw kv (wa9 hkv);have VJ:=a8.upd (H:=MK) (o:=.tup [kV (wai (cat (bs++w::us)):Key),V.int (i0:Int)]) hT;refine⟨T,_,rfl,gL.of a6,rfl,_,_,rfl,_,_,rfl,rfl,?_⟩;generalize upd MK T (.tup [kV (wai (cat (bs++w::us)):Key),V.int (i0:Int)])=Pm at VJ;have r:=RX.trans (OI.trans VJ);refine⟨_,rfl,z,dz',_,rfl,r _ _ hz,j1 (by show ("word_of":Str)∉[("writer":Str),"pairs"];decide+kernel),_,rfl,z,R,bs,w,us,rfl,D4.same r,hu,hb,hc,λH15 Pn=>?_⟩;rw[(EH ok hc).2.1 i0 hg hf];refine⟨_,rfl,_,_,_,true,rfl,j4.int _,rfl,true,rfl,cm ⟨_,rfl,_,_,_,false,rfl,j4.int _,rfl,false,rfl,cm ⟨_,rfl,_,rfl,rfl,.flat rfl,(λa h=>nomatch h),false,rfl,cm ⟨OI.trans (VJ.trans Pn),_,_,_,rfl⟩⟩⟩⟩
  ·rintro σ MK ⟨OI,Gu,RT,RU,rfl⟩;exact k MK
end
end K53
namespace K53
open PySem PySem.W L2 Bs Sx
theorem nz{K:Frag}{mg:Str->Option Value}{hp:Heap}{x:Str}(X:K.In hp)(G:hp.Ns waQ mg)(a:nsIn K waQ x=some none:=by k_is):mg x=none:=mg_none_of X G a
theorem na{K:Frag}{C:Addr}{f:Str}(a:findIn K (.ref C) f=some none:=by k_is):bU K C f:=a
theorem gW{K:Frag}{mg:Str->Option Value}{hp:Heap}{f:Addr}{oc:Value}{od an:Option Addr}{Hs:Array (Option Value)}{kV doc pm hX ct:Value}(nm:Str)(st:Stmt)(ps:List Str)(X:K.In hp)(G:hp.Ns waQ mg)(a:nsIn K waQ nm=some (some (.ref f)):=by k_is)(l:K.lookup f=some ⟨oc,od,.func (fnOf nm nm (dJ st) (cf st) (aI st) .none kV doc pm an hX ct),Hs⟩:=by k_is)(c:codeIn K hX nm=true:=by k_is)(k:keepIn K (.ref f)=true:=by k_is)(b:∀(kV doc pm:Value) (an:Option Addr) (hX ct:Value) (us:List Value),us.length=ps.length->bindArgs (fnOf nm nm (dJ st) (cf st) (aI st) .none kV doc pm an hX ct) ⟨us,[]⟩=pure (ps.zip us):=by first |exact λ_ _ _ _ _ _=>L2.j5 _ _ λ_=>rfl |exact λ_ _ _ _ _ _=>L2.j5 _ _ λ_ _=>rfl |exact λ_ _ _ _ _ _=>L2.j5 _ _ λ_ _ _=>rfl |exact λ_ _ _ _ _ _=>L2.j5 _ _ λ_ _ _ _=>rfl |exact λ_ _ _ _ _ _=>L2.j5 _ _ λ_ _ _ _ _=>rfl |exact λ_ _ _ _ _ _=>L2.j5 _ _ λ_ _ _ _ _ _=>rfl):∃fd,FnAt K mg nm st ps f fd:=Raw.at_ X G a (CD l c k) b
structure Y8(K:Frag)(mg:Str->Option Value)(x:Str)(C:Addr):Prop where
 g:mg x=some (.ref C)
 c:BV K C
 mi:makesIn K C=true
 kp:keepIn K (.ref C)=true
theorem RY{K:Frag}{mg:Str->Option Value}{hp:Heap}{C:Addr}(x:Str)(X:K.In hp)(G:hp.Ns waQ mg)(a:nsIn K waQ x=some (some (.ref C)):=by k_is)(b:plainGet K C whY=true:=by k_is)(c:wes K C=true:=by k_is)(d:wgi K C=true:=by k_is)(e:findIn K (.ref C) "__setattr__"=some (some (.builtin "object.__setattr__")):=by k_is)(f:makesIn K C=true:=by k_is)(g:keepIn K (.ref C)=true:=by k_is):Y8 K mg x C:=⟨mg_of X G a,⟨b,c,d,e⟩,f,g⟩
theorem qF{K:Frag}{mg:Str->Option Value}{x:Str}{C f:Addr}{oc:Value}{od an:Option Addr}{Hs:Array (Option Value)}{kV doc pm hX ct:Value}(P:Y8 K mg x C)(nm q:Str)(st:Stmt)(ps:List Str)(a:findIn K (.ref C) nm=some (some (.ref f)):=by k_is)(i:isFn K (.ref f)=true:=by k_is)(l:K.lookup f=some ⟨oc,od,.func (fnOf nm q (dJ st) (cf st) (aI st) .none kV doc pm an hX ct),Hs⟩:=by k_is)(c:codeIn K hX q=true:=by k_is)(k:keepIn K (.ref f)=true:=by k_is)(b:∀(kV doc pm:Value) (an:Option Addr) (hX ct:Value) (us:List Value),us.length=ps.length->bindArgs (fnOf nm q (dJ st) (cf st) (aI st) .none kV doc pm an hX ct) ⟨us,[]⟩=pure (ps.zip us):=by first |exact λ_ _ _ _ _ _=>L2.j5 _ _ λ_=>rfl |exact λ_ _ _ _ _ _=>L2.j5 _ _ λ_ _=>rfl |exact λ_ _ _ _ _ _=>L2.j5 _ _ λ_ _ _=>rfl |exact λ_ _ _ _ _ _=>L2.j5 _ _ λ_ _ _ _=>rfl |exact λ_ _ _ _ _ _=>L2.j5 _ _ λ_ _ _ _ _=>rfl |exact λ_ _ _ _ _ _=>L2.j5 _ _ λ_ _ _ _ _ _=>rfl):∃fd,cP K C nm q st ps f fd:=by
 obtain⟨fd,F,B⟩:=(CD l c k).fn b;exact⟨fd,F,B,a,i,k⟩
theorem knA{K:Frag}{mg:Str->Option Value}{hp:Heap}{x:Str}{t:Tok}(X:K.In hp)(G:hp.Ns waQ mg)(a:nsIn K waQ "KNOWN_SIGNS"=some (some (.str x t)):=by k_is)(e:x=fK:=by first |rfl |decide+kernel):∃t,mg "KNOWN_SIGNS"=some (.str fK t):=⟨t,e ▸ mg_of X G a⟩
theorem beA{K:Frag}{mg:Str->Option Value}{hp:Heap}{C:Addr}{q:Str}{N:Addr}{bs:List Value}{hd:Bool}{sn:List Str}{sub:List Value}{ab:Bool}{col:Option Bool}{dd:Option Addr}{k0 k1 k2 k3 k5:Option Value}(X:K.In hp)(G:hp.Ns waQ mg)(a:nsIn K waQ "BandError"=some (some (.ref C)):=by k_is)(l:K.lookup C=some (wbs "BandError" q C N bs Sq hd sn sub ab col dd k0 k1 k2 k3 k5 "ValueError.__new__"):=by k_is)(b:weZ K (.ref C) "__getattribute__"=some (some (.builtin "type.__getattribute__")):=by k_is)(c:readsIn K C (.type "type")=true:=by k_is)(d:findCls K (.ref C) (.type "type") "__init__"=some (.val (.builtin "ValueError.__init__")):=by k_is):mg "BandError"=some (.ref C)/\HX K C "BandError"/\HQ K C:=⟨mg_of X G a,KQ l,b,c,d⟩
theorem VL{K:Frag}{mg:Str->Option Value}{hp:Heap}{C CB:Addr}{q:Str}{N:Addr}{bs:List Value}{sn:List Str}{sub:List Value}{ab:Bool}{col:Option Bool}{dd:Option Addr}{k0 k1 k2 k3 k5:Option Value}(x:Str)(X:K.In hp)(G:hp.Ns waQ mg)(B:HX K CB "BandError")(a:nsIn K waQ x=some (some (.ref C)):=by k_is)(l:K.lookup C=some (wbs x q C N bs (oA CB) true sn sub ab col dd k0 k1 k2 k3 k5 "ValueError.__new__"):=by k_is)(s:findIn K (.ref C) "__setattr__"=some (some (.builtin "object.__setattr__")):=by k_is)(g:findIn K (.ref C) "__getattribute__"=some (some (.builtin "BaseException.__getattribute__")):=by k_is)(h:findIn K (.ref C) "__getattr__"=some none:=by k_is)(k:keepIn K (.ref C)=true:=by k_is)(c:findIn K (.ref C) "__class__"=some (some (.builtin "object.__class__")):=by k_is)(n:weZ K (.builtin "object.__class__") "__get__"=some (some (.builtin "getset_descriptor.__get__")):=by k_is)(t:takesIn K (.builtin "object.__class__")=some true:=by k_is):mg x=some (.ref C)/\eZ K C CB x/\HY K C:=⟨mg_of X G a,⟨(KP l).lk,s,g,h,k⟩,c,n,t⟩
theorem xiA{K:Frag}{C f:Addr}{oc:Value}{od an:Option Addr}{Hs:Array (Option Value)}{kV doc pm hX ct:Value}(Y:HY K C)(q:Str)(st:Stmt)(ps:List Str)(nm:Str)(a:findIn K (.ref C) nm=some (some (.ref f)):=by k_is)(i:isFn K (.ref f)=true:=by k_is)(l:K.lookup f=some ⟨oc,od,.func (fnOf nm q (dJ st) (cf st) (aI st) .none kV doc pm an hX ct),Hs⟩:=by k_is)(c:codeIn K hX q=true:=by k_is)(k:keepIn K (.ref f)=true:=by k_is)(b:∀(kV doc pm:Value) (an:Option Addr) (hX ct:Value) (us:List Value),us.length=ps.length->bindArgs (fnOf nm q (dJ st) (cf st) (aI st) .none kV doc pm an hX ct) ⟨us,[]⟩=pure (ps.zip us):=by first |exact λ_ _ _ _ _ _=>L2.j5 _ _ λ_=>rfl |exact λ_ _ _ _ _ _=>L2.j5 _ _ λ_ _=>rfl |exact λ_ _ _ _ _ _=>L2.j5 _ _ λ_ _ _=>rfl |exact λ_ _ _ _ _ _=>L2.j5 _ _ λ_ _ _ _=>rfl |exact λ_ _ _ _ _ _=>L2.j5 _ _ λ_ _ _ _ _=>rfl |exact λ_ _ _ _ _ _=>L2.j5 _ _ λ_ _ _ _ _ _=>rfl):∃fd,Al K nm q st f fd/\Binds K fd ps []/\findIn K (.ref C) nm=some (some (.ref f))/\isFn K (.ref f)=true:=by
 obtain⟨fd,F,B⟩:=(CD l c k).fn b;exact⟨fd,F,B,a,i⟩
theorem walk{l:weF}{q:wau}{loose:List Str}{XP:(Str->Option Value)->Heap->Prop}{YP:World->Heap->Prop}{d:DefRec}{K:Params->wa2}(hn:l.most=some 63)(hdf:d.params.defaults=[])
 (hY:∀(w:World) (h:Heap),YP w h->(K w.params).In h)
 (F:∀(w:World) (mg:Str->Option Value) (fa:Addr) (h:Heap),(K w.params).In h->h.Ns waQ mg->mg d.name=some (.ref fa) ->
   ∃fd:wad,(∀(s:Shared) (u:Value),BindsTo s fd ⟨[u],[]⟩ [("_law_script",u)])/\∀base:Heap,(K w.params).In base->base.Ns waQ mg->aS l.prog w (K w.params) mg base d8 13 fa fd ["_law_script"] (Ea (K w.params))) :
 whJ q loose XP YP l.row.toRowW d [] (λf vs=>whM f vs):=
 L2.Kp (n:=63) (k:=13) (x:="_law_script") (CX:=λ_=>d8) (sp:=λw=>Ea (K w.params)) hn (by decide) hdf ⟨rfl,by decide,by decide⟩ hY F (λ_ _ a ns hl _ hS=>⟨a,ns,rfl,hS,hl,λ_=>rfl⟩) λ_ _ _ _ _ z=>z
theorem VM{K:Frag}{mg:Str->Option Value}{hp:Heap}{f:Addr}{oc:Value}{od an:Option Addr}{Hs:Array (Option Value)}{kV doc pm hX ct:Value}(l:weF)(w:World)(fa:Addr)(hfa:mg "law"=some (.ref fa))(X:K.In hp)(G:hp.Ns waQ mg)(L:Lk K mg)(a:nsIn K waQ "law"=some (some (.ref f)):=by k_is)(lk:K.lookup f=some ⟨oc,od,.func (fnOf "law" "law" (dJ (top 88)) (cf (top 88)) (aI (top 88)) .none kV doc pm an hX ct),Hs⟩:=by k_is)(c:codeIn K hX "law"=true:=by k_is)(k:keepIn K (.ref f)=true:=by k_is) :
 ∃fd:wad,(∀(s:Shared) (v:Value),BindsTo s fd ⟨[v],[]⟩ [("_law_script",v)])/\∀base:Heap,K.In base->base.Ns waQ mg->aS l.prog w K mg base d8 13 fa fd ["_law_script"] (Ea K):=by
 have e:=hfa.symm.trans (mg_of X G a);cases e;exact⟨_,λs v=>.of_eq rfl,λbase _ _=>OQ L (Ht (st:=top 88) lk c k)⟩
end K53
open PySem PySem.W PyProof.Rows
local macro_rules |`(tactic|o_head $H)=>`(tactic|(refine PySem.W.holds_open (q:=K53.view) (loose:=[]) (Xt:=λs=>PySem.W.xlAt K53.view [] s&&PySem.W.recOk (PySem.W.RowW.records (PySem.W.OpenRow.toRowW (PySem.W.OpenLaw.row PySem.Challenge.rw_bandscribe_k53_whole_one_word_a_window))) s) (XP:=PySem.W.XL K53.view []) (Yf:=PySem.W.Hook.obs $H) (Ya:=PySem.W.Hook.val $H) (YP:=PySem.W.Hook.says $H) (N:=8100) ?hl (PySem.W.Hook.of $H) (PySem.W.Hook.keeps $H) (λs e=>PySem.W.xl_of s (Bool.and_eq_true_iff.mp e).1) PySem.W.XL.keeps (by rfl) (by rfl) (by rfl) (λs e=>PySem.W.recFacts_of (Bool.and_eq_true_iff.mp e).2) (by rfl) (by first |assumption |decide+kernel) (by decide+kernel) ⟨rfl,rfl,rfl,rfl,rfl,by decide+kernel⟩ ?hw ?hc;(case hl=>(intro w;exact K53.whole w))))
set_option maxRecDepth 100000 in
set_option maxHeartbeats 0 in
theorem PySem.Challenge.cw_bandscribe_k53_whole_one_word_a_window_holds : PySem.Challenge.rw_bandscribe_k53_whole_one_word_a_window.Holds := by
 w_on;o_law;o_head (PySem.W.kHook K53.pre.heap_39 K53.addrs (λ_=>by kernel_rfl));(case hw=>w_witness2)
 k_fill
 refine K53.walk (l:=PySem.Challenge.rw_bandscribe_k53_whole_one_word_a_window) rfl rfl (λw h Y=>PySem.W.kIn_of Y) ?F
 case F=>
  intro w mg fa h X G hmg;obtain⟨_,DL⟩:=K53.gW "is_whole" (K53.top 16) ["thing"] X G;obtain⟨_,DM⟩:=K53.gW "all_rows" (K53.top 18) ["band","wide"] X G;obtain⟨_,Gv⟩:=K53.gW "is_rate" (K53.top 19) ["band","many","wide"] X G;obtain⟨_,zQ⟩:=K53.gW "check_rate" (K53.top 20) ["band","many","wide"] X G;obtain⟨_,xu⟩:=K53.gW "longer_rows" (K53.top 21) ["band","rows"] X G;obtain⟨_,xx⟩:=K53.gW "blocks_from" (K53.top 22) ["band","place","wide"] X G;obtain⟨_,BI⟩:=K53.gW "ends_from" (K53.top 24) ["band","place"] X G;obtain⟨_,DN⟩:=K53.gW "all_ends" (K53.top 25) ["band"] X G;obtain⟨_,wk⟩:=K53.gW "counts_up_to" (K53.top 26) ["band","length"] X G;obtain⟨_,zR⟩:=K53.gW "count_from" (K53.top 27) ["band","place","length"] X G;obtain⟨_,M6⟩:=K53.gW "count" (K53.top 28) ["band","length"] X G;obtain⟨_,zS⟩:=K53.gW "block_ends" (K53.top 30) ["band","wide"] X G;obtain⟨_,BJ⟩:=K53.gW "weight_of" (K53.top 31) ["places","weights"] X G;obtain⟨_,Gw⟩:=K53.gW "lowered" (K53.top 32) ["ends","many","weights"] X G;obtain⟨_,DP⟩:=K53.gW "greatest" (K53.top 33) ["band","many","wide","most"] X G;obtain⟨_,JS⟩:=K53.gW "scarce" (K53.top 34) ["band","many","wide","most"] X G;obtain⟨_,wm⟩:=K53.gW "copied_steps" (K53.top 36) ["line"] X G;obtain⟨_,xA⟩:=K53.gW "first_sheet" (K53.top 38) ["band","many","wide","weights"] X G;obtain⟨_,wo⟩:=K53.gW "is_number_of" (K53.top 39) ["number","things"] X G;obtain⟨_,zT⟩:=K53.gW "check_part" (K53.top 40) ["sheet","many","steps","weight"] X G;obtain⟨_,zU⟩:=K53.gW "with_twins" (K53.top 41) ["line","desk","twin"] X G;obtain⟨_,M7⟩:=K53.gW "split" (K53.top 42) ["sheet","many","desk","numbers","weight"] X G;obtain⟨_,wq⟩:=K53.gW "copied_sheet" (K53.top 47) ["sheet"] X G;obtain⟨_,oX⟩:=K53.gW "check_not_scarce" (K53.top 49) ["band","many","wide"] X G;obtain⟨_,jX⟩:=K53.gW "weights_of_least_most" (K53.top 50) ["band","many","wide"] X G;obtain⟨_,wt⟩:=K53.gW "reached_from" (K53.top 51) ["sheet","desk"] X G;obtain⟨_,rR⟩:=K53.gW "closed_weights" (K53.top 52) ["band","many","wide","weights"] X G;obtain⟨_,zV⟩:=K53.gW "steps_into" (K53.top 53) ["line","desks"] X G;obtain⟨_,zW⟩:=K53.gW "kept_desks" (K53.top 54) ["sheet","many"] X G;obtain⟨_,BK⟩:=K53.gW "step_down" (K53.top 55) ["sheet"] X G;obtain⟨_,JT⟩:=K53.gW "run_by" (K53.top 56) ["weights","numbers","many"] X G;obtain⟨_,zX⟩:=K53.gW "next_split" (K53.top 57) ["sheet","many"] X G;obtain⟨_,Gx⟩:=K53.gW "plan_of" (K53.top 58) ["band","many","wide"] X G;obtain⟨_,tT⟩:=K53.gW "blocks_behind" (K53.top 60) ["band","wide"] X G;obtain⟨_,lD⟩:=K53.gW "steps_by_new_numbers" (K53.top 61) ["line","kept","many"] X G;obtain⟨_,zY⟩:=K53.gW "check_data" (K53.top 62) ["data","many"] X G;obtain⟨_,JU⟩:=K53.gW "walked" (K53.top 63) ["lines","desk","data"] X G;obtain⟨_,BL⟩:=K53.gW "all_among" (K53.top 67) ["text","signs"] X G;obtain⟨_,BM⟩:=K53.gW "are_signs" (K53.top 68) ["thing"] X G;obtain⟨_,Gy⟩:=K53.gW "is_word" (K53.top 69) ["thing","signs"] X G;obtain⟨_,wu⟩:=K53.gW "check_barred" (K53.top 70) ["barred","signs"] X G;obtain⟨_,wx⟩:=K53.gW "bears_barred" (K53.top 71) ["row","barred"] X G;obtain⟨_,tU⟩:=K53.gW "sorted_places" (K53.top 72) ["barred"] X G;obtain⟨_,xB⟩:=K53.gW "longest_end" (K53.top 73) ["row","places"] X G;obtain⟨_,zZ⟩:=K53.gW "moves_from" (K53.top 74) ["place","signs","barred","places"] X G;obtain⟨_,A0⟩:=K53.gW "leads_into" (K53.top 75) ["ends","lot"] X G;obtain⟨_,A2⟩:=K53.gW "live_among" (K53.top 76) ["moves"] X G;obtain⟨_,tV⟩:=K53.gW "steps_by_word" (K53.top 79) ["writer"] X G;obtain⟨_,A3⟩:=K53.gW "desks_into" (K53.top 80) ["pairs","ends"] X G;obtain⟨_,BO⟩:=K53.gW "_law_here" (K53.top 83) ["_law_script","_law_place"] X G;obtain⟨_,xC⟩:=K53.gW "_law_shaken" (K53.top 84) ["_law_cell","_law_many"] X G;obtain⟨_,BP⟩:=K53.gW "_law_band" (K53.top 85) ["_law_script"] X G;obtain⟨_,BQ⟩:=K53.gW "_law_rate" (K53.top 86) ["_law_script","_law_signs"] X G;obtain⟨_,BR⟩:=K53.gW "_law_told" (K53.top 87) ["_law_signs","_law_words","_law_many","_law_wide"] X G;have qG:=K53.RY "Sheet" X G;have rS:=K53.RY "Plan" X G;have du:=K53.RY "Writer" X G;have gj:=K53.RY "Band" X G;have eL:=K53.RY "Reader" X G;obtain⟨_,gJ⟩:=K53.qF qG "__init__" "Sheet.__init__" (L2.inClass (K53.top 37) 0) ["self","homes","weights","lines"];obtain⟨_,ir⟩:=K53.qF rS "__init__" "Plan.__init__" (L2.inClass (K53.top 48) 0) ["self","weights","splits","kept","last"];obtain⟨_,A4⟩:=K53.qF rS "sheet" "Plan.sheet" (L2.inClass (K53.top 48) 1) ["self"];obtain⟨_,gk⟩:=K53.qF du "__init__" "Writer.__init__" (L2.inClass (K53.top 64) 0) ["self","band","many","wide"];obtain⟨_,tW⟩:=K53.qF du "behind" "Writer.behind" (L2.inClass (K53.top 64) 1) ["self"];obtain⟨_,wy⟩:=K53.qF du "ahead" "Writer.ahead" (L2.inClass (K53.top 64) 2) ["self"];obtain⟨_,wA⟩:=K53.qF du "start" "Writer.start" (L2.inClass (K53.top 64) 3) ["self"];obtain⟨_,xD⟩:=K53.qF du "lead" "Writer.lead" (L2.inClass (K53.top 64) 4) ["self"];obtain⟨_,wB⟩:=K53.qF du "desks" "Writer.desks" (L2.inClass (K53.top 64) 5) ["self"];obtain⟨_,qH⟩:=K53.qF du "place_at" "Writer.place_at" (L2.inClass (K53.top 64) 6) ["self","desk"];obtain⟨_,wC⟩:=K53.qF du "steps" "Writer.steps" (L2.inClass (K53.top 64) 7) ["self","desk"];obtain⟨_,wD⟩:=K53.qF du "write" "Writer.write" (L2.inClass (K53.top 64) 8) ["self","data"];obtain⟨_,iu⟩:=K53.qF gj "__init__" "Band.__init__" (L2.inClass (K53.top 77) 0) ["self","signs","barred"];obtain⟨_,rT⟩:=K53.qF gj "check_row" "Band.check_row" (L2.inClass (K53.top 77) 1) ["self","row"];obtain⟨_,oY⟩:=K53.qF gj "check_place" "Band.check_place" (L2.inClass (K53.top 77) 2) ["self","place"];obtain⟨_,qI⟩:=K53.qF gj "check_live" "Band.check_live" (L2.inClass (K53.top 77) 3) ["self","place"];obtain⟨_,wF⟩:=K53.qF gj "is_good" "Band.is_good" (L2.inClass (K53.top 77) 4) ["self","row"];obtain⟨_,xE⟩:=K53.qF gj "places" "Band.places" (L2.inClass (K53.top 77) 5) ["self"];obtain⟨_,BU⟩:=K53.qF gj "live" "Band.live" (L2.inClass (K53.top 77) 6) ["self"];obtain⟨_,tX⟩:=K53.qF gj "place_of" "Band.place_of" (L2.inClass (K53.top 77) 7) ["self","row"];obtain⟨_,DQ⟩:=K53.qF gj "led" "Band.led" (L2.inClass (K53.top 77) 8) ["self","place","sign"];obtain⟨_,wG⟩:=K53.qF gj "longest" "Band.longest" (L2.inClass (K53.top 77) 9) ["self"];obtain⟨_,gm⟩:=K53.qF eL "__init__" "Reader.__init__" (L2.inClass (K53.top 81) 0) ["self","writer"];obtain⟨_,j6⟩:=K53.qF eL "blocks_in_window" "Reader.blocks_in_window" (L2.inClass (K53.top 81) 1) ["self"];obtain⟨_,jY⟩:=K53.qF eL "desks_ahead_of" "Reader.desks_ahead_of" (L2.inClass (K53.top 81) 2) ["self","row"];obtain⟨_,lZ⟩:=K53.qF eL "word_fitting" "Reader.word_fitting" (L2.inClass (K53.top 81) 3) ["self","window"];obtain⟨_,rV⟩:=K53.qF eL "word_of" "Reader.word_of" (L2.inClass (K53.top 81) 4) ["self","window"];obtain⟨_,qJ⟩:=K53.qF eL "words_in" "Reader.words_in" (L2.inClass (K53.top 81) 5) ["self","length"];obtain⟨_,xF⟩:=K53.qF eL "read" "Reader.read" (L2.inClass (K53.top 81) 6) ["self","row"];have B:=K53.beA X G;have rW:=K53.VL "NoSplit" X G B.2.1;have qK:=K53.VL "Scarce" X G B.2.1;obtain⟨_,qp,qt,JV,JW⟩:=K53.xiA qK.2.2 "Scarce.__init__" (L2.inClass (K53.top 12) 0) ["self","length","rows"] "__init__";have DR:=K53.VL "Open" X G B.2.1;exact K53.VM _ w fa hmg X G {T:=⟨K53.nz X G,K53.nz X G,K53.nz X G,K53.nz X G,K53.nz X G,K53.nz X G,K53.nz X G,K53.nz X G,K53.nz X G,K53.nz X G,K53.nz X G,K53.nz X G,K53.nz X G,K53.nz X G,K53.nz X G,K53.nz X G,K53.nz X G⟩,iT:=DL,oK:=DM,rA:=Gv,eQ:=zQ,jo:=xu,gO:=xx,mx:=BI,oM:=DN,fO:=wk,kP:=zR,zx:=M6,kQ:=zS,mB:=BJ,rB:=Gw,oO:=DP,vM:=JS,iU:=wm,gP:=xA,fP:=wo,d2:=zT,kR:=zU,pR:=M7,fQ:=wq,cL:=oX,bM:=jX,iX:=wt,gF:=rR,iC:=zV,iD:=zW,mK:=BK,vN:=JT,kU:=zX,jL:=Gx,i7:=tT,dO:=lD,kW:=zY,q9:=JU,jf:=BL,mU:=BM,rD:=Gy,iY:=wu,eJ:=wx,i9:=tU,jq:=xB,kX:=zZ,kY:=A0,lj:=A2,ib:=tV,lq:=A3,hU:=BO,gQ:=xC,n8:=BP,n9:=BQ,nc:=BR,dm:=gJ,ic:=ir,iE:=A4,fV:=gk,b5:=tW,cp:=wy,vS:=wA,gR:=xD,cq:=wB,ez:=qH,dn:=wC,fW:=wD,ie:=iu,bN:=rT,c9:=oY,eA:=qI,fX:=wF,gT:=xE,dE:=BU,fi:=tX,gG:=DQ,fY:=wG,fZ:=gm,bW:=j6,cw:=jY,cO:=lZ,eR:=rV,qo:=qJ,xc:=xF,uj:=qG.g,ay:=⟨qG.c,K53.na,K53.na,K53.na⟩,qm:=⟨qG.mi,gJ.m.1,gJ.m.2,qG.kp⟩,Jd:=rS.g,df:=⟨rS.c,K53.na,K53.na,K53.na,K53.na⟩,Ex:=⟨rS.mi,ir.m.1,ir.m.2,rS.kp⟩,Bn:=du.g,aj:=⟨du.c,K53.na,K53.na,K53.na,K53.na,K53.na,K53.na,K53.na,K53.na⟩,yG:=⟨du.mi,gk.m.1,gk.m.2,du.kp⟩,Je:=gj.g,aG:=⟨gj.c,K53.na,K53.na,K53.na,K53.na⟩,Ey:=⟨gj.mi,iu.m.1,iu.m.2,gj.kp⟩,Bo:=eL.g,aF:=⟨eL.c,K53.na,K53.na⟩,yH:=⟨eL.mi,gm.m.1,gm.m.2,eL.kp⟩,tE:=B.1,XT:=B.2.1,XB:=B.2.2,iJ:=rW.1,iK:=rW.2.1,G2:=rW.2.2,gH:=by k_is,vT:=qK.1,hV:=qK.2.1,Jf:=qK.2.2,qp:=qp,qt:=qt,yI:=JV,yJ:=JW,lS:=K53.na,oa:=K53.na,zy:=DR.1,vU:=DR.2.1,Oc:=DR.2.2,zz:=by k_is,ng:=⟨_,mg_of X G (by k_is)⟩,nh:=⟨_,mg_of X G (by k_is)⟩,gq:=⟨_,mg_of X G (by k_is)⟩,known:=K53.knA X G,..}
#print axioms PySem.Challenge.cw_bandscribe_k53_whole_one_word_a_window_holds
