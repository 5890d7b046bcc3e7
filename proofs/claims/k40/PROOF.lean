import PyProof.Rows.All
import KE.KDictOf
import KE.KIsAll
import KE.KFromBytes
import KE.KDictSum
import KE.KEqDict
import KE.LcSums
import KE.KItem
import Lean
import PyProof.EqAt
import PyProof.EqKinds
import PyProof.TupleCall
import PyProof.Rows.SortStr
import PyProof.StrLawsReplace
import PyProof.StrLawsIdx
import PyProof.StrLawsIn
import PyProof.StrBlockI
import PyProof.StrBlockL
import PyProof.SliceList
import PyProof.InstStoreFacts
import PyProof.NsDelKeeps
import PyProof.StationsW
import PyProof.ExcArgs
import PyProof.ExcBaseAll.ValueError
import PyProof.StrCalls
import PyProof.ListRange
import PyProof.EnumMake
import PyProof.Draws
import PyProof.FactsAll.dict
import PyProof.StrBlock2
import PyProof.Rows.SumAny
import PyProof.NeKinds
import PyProof.Rows.MinMaxN
import PyProof.Rows.Range3
import PyProof.StrLawsFirst
import PyProof.AttrMissHeap
import PyProof.Rows.CallKwBuiltin
import KE.KMinKey
import PyProof.FString2
import KE.KDictLaws
import KE.KRevIter
import PyProof.DictItems
import PyProof.ZipIter
import PySem.Challenge.RW_bandscribe_k40_a_writer_s_desks
set_option genInjectivity false
set_option genSizeOfSpec false
open PySem.Challenge renaming pw_bandscribe_k40_a_writer_s_desks→pw0,rw_bandscribe_k40_a_writer_s_desks→rw0
open List renaming length_map→ZI,getElem?_eq_getElem→ZJ,getD_eq_getElem?_getD→ZL,getElem?_map→ZM,getElem?_eq_some_iff→ZO,length_append→ZP,mem_map→ZR,mem_of_getElem?→ZT,map_map→ZV,mem_cons_of_mem→ZW,mem_cons_self→ZZ,map_append→wa1,size_toArray→wa3,mem_singleton→wa4,length_take→wa5,mem_filter→wa6,map_cons→wab,getElem?_append_right→waf,replicate→wag,getElem_mem→wah,getElem?_append_left→wai,mem_append→waj,range→wak,take_length→wam,length_cons→wan,mem_cons→wao,all_eq_true→waq,mem_append_right→war,length_range→wau,take_add_one→waw,take_sublist→waB,filter_cons_of_pos→waC,filter_eq_self→waD,mem_append_left→waG,filter_cons_of_neg→waJ,map_congr_left→waK,append_nil→waL,mem_range→waM,length_drop→waN,idxOf_lt_length_iff→waR,length_filter_le→waT,filterMap_cons→waU,append_assoc→waX,nodup_cons→waZ,sum_cons→wb5,take_of_length_le→wb9,eq_nil_of_length_eq_zero→wba,filter_append→wbk,getElem_of_mem→wbt,not_mem_nil→wbA,count_pos_iff→wbB,getElem_inj→wbK,any_eq_true→wbL,getElem_idxOf→wbM,length_set→wbS,flatten_cons→wbV,replicate_succ→wbX,length_pos_iff→wc0,length_singleton→wc8,length_replicate→wca,getElem?_eq_none→wcb,any_cons→wce,getElem?_set_ne→wcj,mem_or_eq_of_mem_set→wcl,nodup_nil→wco,filter_sublist→wcu,find?_cons→wcD,map→wcM,getElem?_set_self→wcN,length→wcO,dropLast_concat_getLast→wcQ,mem_iff_getElem→wcV,lookup_cons→wcW,getElem_toArray→wd2,mem_flatMap→wd3,map_take→wd5,range_succ→wd8,mem_filterMap→wdc,any_map→wde,getElem?_take_of_lt→wdi,length_filterMap_le→wdn,map_id'→wdo,prefix_append→wdq,flatMap_cons→wdD,drop_of_length_le→wdG,drop_eq_nil_of_le→wdI,map_drop→wdK,take_prefix→wdN,take_append_drop→wdR,map_nil→we0,all_map→we1,mem_of_mem_take→we8,filter_map→we9,drop_zero→wel,mem_replicate→wer,all_cons→wes,any_eq_false→wez,foldl_append→weB,nodup_append→weG,filter_congr→weH,getElem_take→weJ,extract_eq_take_drop→weM,getElem?_eq_none_iff→weO,nodup_range→weV,suffix_refl→weZ,length_eq_zero_iff→wf2,prefix_iff_eq_take→wf5,of_mem_zip→wfc,foldl_cons→wfd,length_nil→wfe,lookup→wfl,range'→wfv,singleton_append→wfI,eq_nil_or_concat→wfJ,filterMap_append→wfL,take_zero→wfN,idxOf_cons_self→wfV,nodup_iff_count→wg0,flatMap_append→wgb,map_eq_nil_iff→wgd,getElem?_range→wgf,pairwise_cons→wgv,contains_cons→wgz,mem_range'_1→wgG,map_dropLast→wgH,ext_getElem?→wgJ,drop_sublist→wgL,range'_succ→wh0,drop_suffix→wh1,append_inj'→wh3,foldl→wh6,nil_append→wh8,count_cons→wh9,idxOf_cons→whd,sum_append→whe,take_left→whn
open PySem.W renaming Frag→ZK,findIn→waS,kia_one→wbh,emptyDict→wbs,recOk→wbH,xlAt→wbN,instObj→wbO,fnOf→wbP,callWith_K→wc4,keepIn→wcn,boot_heap→wcB,codeIn→wdt,looks_clsIn→wdC,plainGet→wdL,methodCall_KW→wdU,OpenLaw→wec,plainGet_of→wee,lookIn→wei,looks_findIn→wek,hasDictIn→wey,methodObj→weD,set_plain→weF,isFn→weQ,takerIn→wfb,cellsFrom_some→wfm,SharedT→wfC,kdl_values→wgr,specialIn→wgA,plainOver→wgC,kitx_list→wgE,kitx_dict→wgF,boot_o_0→wgU,handedIn→wgV,kdl_dict→wgY,kdl_call→wgZ,WalkO→wh5,KeqHits→whb,makesIn→whc,kitOne→whm
open PySem renaming wpAny_bind→ZN,wpAny_pure→waa,Program→wad,bootBuiltins→wav,mainGlobals→wax,compareOp→waE,wpAny_mono→waF,wpAny_loadPart_at→waO,wpAny_holding→wb0,wpAny_truthy_bool→wb2,FuncData→wb3,wpAny_Call_Name_kw→wb6,importedModules→wbe,cLine→wbf,codeAny_builtin→wbg,excClassObj→wbj,strKind→wbm,wpAny_tryCatch→wbq,foldedSetIterable→wbr,wpAny_isSubtype_exc→wbu,OsState→wbv,swapsWith→wbD,sizeLine_eq→wbF,codeAny_mono→wbG,plainId_quiet→wbI,wpAny_execs_nil→wbQ,lookup_relabel_local→wbR,mem_of_lookup→wbZ,wpAny_passesOwn→wc9,attributeBase→wcd,wpAny_pyIter_list→wch,codeAny_call_builtin→wck,keywordEach→wcm,wpAny_seqItems→wcq,wpAny_execs_cons→wcr,Scope→wct,plainObj_wpAny_Assign_Attribute→wcv,wpAny_getItem_str_slice→wcx,behindInMarks→wcz,sysModules→wcG,wpAny_call→wcI,wpAny_updateSeq→wcJ,wpAny_letGo→wcP,GenState→wcS,assignEach→wcX,call_meets→wd0,wpAny_standAt→wd4,Within→wdf,scanBound→wdj,tupleKind_room_in1→wdk,boot_len→wdx,wpAny_Assign_Name→wdz,wpAny_pyIter_enum→wdB,wpAny_field→wdE,Result→wdF,NameKind→wdM,checkBuiltinCall→wdP,getMethod→wdT,seqItems?→wdV,codeAny_handlers_test→wdW,letOwnedTupleGo→wdZ,post_val_or_str→we5,wpAny_handleBy_cons→weg,Builtin→weh,wpAny_setField→wej,wpAny_letOwnedTupleGo_enum→wew,wpAny_newObj_type→weC,typeLookup→weK,Keyword→weP,wpAny_lookBehind→weS,pastItsLine_dict→weT,wpAny_comprehension_free→weU,treeTable→wf8,setFlight→wff,tupleKind→wfg,codeAny_of_tree→wfi,wpAny_loadPart'→wfk,subscripted→wfn,IsRangeIter→wfp,wpAny_pyNext_range_end→wfr,wpAny_pyIter_rangeiter→wfs,codeAny_handlers_suite→wfA,wpAny_isTrue_Compare1→wfF,wpAny_loadPart→wfG,weight_type_call_type→wfH,wpAny_loadName_local→wfR,PlainAttrs→wfS,excMatches→wg1,wpAny_loadName_cell→wg9,wpAt_of_wpAny→wgc,seqIndex_neg→wgl,wpAny_nsSet1→wgs,updateSeq→wgy,seqIndex_of→wgQ,intItems_at→wgR,wpAny_of_eq→wgS,sliceBounds→wgT,wpAt_bind→whi,call→whj
open PySem.Heap renaming get?_push_of_some→ZQ,lt_size→ZX,get?_push_size→wa9,get?_update_other→wat,get?_update_self→wbd,size_push→wbo,SameBut→weR,get?_update_ne→wgg
open Nat renaming le_refl→ZS,le_trans→wa0,lt_of_lt_of_le→wa7,ne_of_lt→wa8,zero_le→wal,lt_of_le_of_lt→waI,lt_irrefl→waW,sub_self→wbn,lt_succ_self→wbx,add_sub_cancel_left→wbW,le_succ→wc2,ne_of_gt→wc3,mul_le_mul_left→wd6,not_lt_zero→wd9,le_of_eq→wdh,lt_succ_of_lt→wdA,succ_le_succ→wdO,le_of_lt→we3,mul_le_mul_right→we7,lt_or_eq_of_le→weo,lt_trichotomy→weI,min_eq_left→wfj,mul_le_mul→wfM,pow_le_pow_right→wfY,add_le_add_left→wga,zero_add→wgx,lt_succ_of_le→wgK,le_of_not_lt→wh4,le_antisymm→whf,max_le→whh
open Option.some renaming inj→ZU
open PySem.Value renaming ref→ZY,none→wbb,type→wdY,int→wf9,str→wfa,bool→wfQ,isStrOf→wg2,isStrOf_shape→wg7,float→wgP
open Bool renaming false_ne_true→wa2,and_eq_true→waV,false_eq_true→wbw,true_and→wcg,false_and→wcp,eq_iff_iff→wcC,and_false→wdv,and_true→wg5,not_true→wg6,eq_false_iff→wgN,or_eq_true→wh7
open Sum renaming inr→wac,inl→waQ
open Int renaming toNat_natCast→wae,emod_lt_of_pos→wb8,emod_nonneg→wbi,natCast_pow→wbT,natCast_mul→wcc,natCast_add→wda,le_trans→wdp,zero_add→wds,le_refl→wem,le_of_mul_le_mul_right→wex,pow_succ→wf0,eq_ofNat_of_zero_le→wf3,add_mul→wfx,le_ediv_iff_mul_le→wfz,mul_ediv_add_emod→wfK,mul_comm→wgw,ediv_nonneg→whg
open PySem.F renaming plainAttrs_list→wap,slot_list_append→waA,type_list_append→waH,plain_min_loop→wbp,called_set→wbz,plain_max_loop→wbC,excBase_ValueError→wbJ,slot_dict_values→wcs,slot_list_index→wcy,type_dict_values→wdr,plainAttrs_dict→wdy,entry_min_loop→wdH,entry_max_loop→wdQ,called_enumerate→weq,args_list_index_2→weN,entry_list_index→weX,type_list_index→wf6,slot_list_count→wf7,plainAttrs_str→wfB,slot_str_join→wfO,type_str_join→wfP,slot_list_clear→wfT,entry_type_call→wfU,slot_list_pop→wgt
open False renaming elim→waz
open PySem.W.OpenRow renaming toRowW→waP
open PySem.W.RowW renaming records→waY
open PySem.W.OpenLaw renaming row→wb1
open Ne renaming symm→wb4
open PySem.Around renaming under_plainId→wb7,under→wgj,under_plain→wgu
open True renaming intro→wbc
open PySem.Builtin.Str renaming strSliceIndices→wbl,occurrences→wf4,subAt→wgI
open PySem.Txt renaming slice→wby,join→wcZ,startswith→wdw,slice_le→we6
open PyProof.Rows renaming callWith_type1→wbE,envOfC→wd7,kws_cons→wdX,callWith_builtin1→we4,kws_nil→wea,int_text_len_1921→web,callWith_kw→wf1,subscriptTail_builtinR→wfo,sortedS→wfZ,subscriptTail→wg4,kmk_tree→whk
open PySem.Str renaming ofString→wbU,length→wcY
open Array renaming length_toList→wbY,getElem?_toList→wc7,getD_eq_getD_getElem?→wcR,toArray_toList→wd1,getElem?_eq_some_iff→weu,toList_inj→weW,getElem?_eq_none→wfu,toList_extract→wfX
open Prod.mk renaming inj→wc1
open PyProof.Rows.F renaming plain_set_update_loop→wc5,entry_set_update_loop→wdl
open PySem.Builtin.Builtins renaming bindParams→wc6
open PySem.NameKind renaming free→wcf,cell→wet
open PySem.Obj renaming mapSeq→wci,mapFields→wcA,data_mapFields→wcF,isFreed_of_fields→wdS
open PySem.Builtin.Range renaming rangeSize→wcw,small→wge
open ForInStep renaming yield→wcE
open PySem.PassesOwn renaming never→wcH,leaving→wgO
open Option renaming map_eq_some_iff→wcK,isSome_map→weA,getD_some→wgX
open Sum.inr renaming inj→wcL
open Prod renaming ext→wcT
open Eq renaming trans→wcU
open Classical renaming byContradiction→wdb,choose→wh2
open PySem.Builtin.List renaming listTooLong→wdd
open Or renaming inl→wdg
open PySem.Code renaming quiet_builtin→wdm,isFrame→wgk
open PySem.SeqAt renaming EqAt→wdu,list_indexAt→weY,notIn_listAt→wgn,eq_listAt→wha
open List.cons renaming inj→wdJ
open PySem.SeqAt.EqAt renaming same→we2,of_refs→wep,int_int→wfD,str_str→wfE,int_str→wgh,str_int→wgi
open PySem.Calls renaming call_len_list→wed,Name_function_global→wev,callWith_builtin→wfw,Constant_str→wgq
open PySem.Heap.SameBut renaming update→wef
open PySem.W.Looks renaming here→wen
open List.Sublist renaming refl→weE
open PySem.Walks renaming list→weL
open PySem.Within renaming cons→wfh
open PySem.Data renaming fields→wfq,cell→wgp
open PyProof renaming noPylong_small→wft
open PySem.StrLaws renaming sliceText_from→wfy,sliceText_to→wfW
open PySem.Paired renaming length→wg3
open PySem.EntryCells renaming newEntry→wg8
open Nat.succ renaming inj→wgm
open PySem.SeqAt.RcNeAt renaming lists→wgo
open PySem.Flt renaming mathRow→wgB
open PySem.Heap.Ns1 renaming of_empty→wgD
open PySem.SeqAt.RcAt renaming tuples→wgM
open PySem.P renaming add_list→wgW
open PySem.Builtin.Frozenset renaming updateFrom→whl
open Int.ofNat renaming inj→whp
open PySem.Shared renaming TypeIs→whq
open PySem.IsRange renaming new→whr
set_option Elab.async false
set_option linter.all false
set_option maxRecDepth 100000
set_option maxHeartbeats 4000000
namespace Tt
open PySem PySem.W PySem.Calls PyProof.Rows
noncomputable def E2(tb:String->Option weh)(p:wad)(w:World)(n₀:Nat)(ann:Option Value):Nat->wfC->Thread->Option wfC
 |0,_,_=>none
 |n+1,s,t=>match through t with
  |true=>some s
  |false=>match stepOk n₀ ann t with
   |false=>none
   |true=>match stepT (denote tb) p w s t with
    |some (s',t')=>E2 tb p w n₀ ann n s' t'
    |none=>none
theorem E3{tb:String->Option weh}{p:wad}{w:World}{n₀:Nat}{ann:Option Value}:∀{n:Nat} {s s':wfC} {t:Thread},E2 tb p w n₀ ann n s t=some s'->topRun tb p w n₀ ann n s.abs t=some s'.abs
 |0,_,_,_,h=>by cases h
 |n+1,s,s',t,h=>by
  unfold E2 at h;unfold topRun
  cases ht:through t with
  |true=>rw[ht]at h;cases h;rfl
  |false=>
   rw[ht]at h
   cases hk:stepOk n₀ ann t with
   |false=>rw[hk]at h;cases h
   |true=>
    rw[hk]at h
    cases hs:stepT (denote tb) p w s t with
    |none=>rw[hs]at h;cases h
    |some r=>obtain⟨s₂,t₂⟩:=r;rw[hs]at h;rw[stepT_spec hs];exact E3 h
noncomputable def sound(p:wad)(h₀:Heap)(s:wfC):Bool:=staticsOk (wbe p.main.body) h₀ s.abs.heap&&namesBound p s.abs.heap&&gensDone s.abs&&laidKept h₀ s.abs.heap
theorem GL{p q:wad}{loose:List Str}{Xt:Shared->Bool}{α:Type}{Yf:Shared->α}{Ya:World->α}{N n m₀:Nat}{life:Params->Life}{g0:Bool}{H₀:Params->Heap}{T₀:Params->BT}{Og:Array wcS}{d₀:Drawn}{k₀:Nat}{ann:Option Value}
 (Mg:∀w:World,(fencedOpening wf8 p w N).map (λs=>(s.heap,s.gens,s.drawn,s.toks))=some (H₀ w.params,Og,d₀,k₀))
 (size:∀P:Params,((H₀ P).isNs wax&&Og.size==0,(H₀ P).objs.size,(H₀ P).nsMap wax "__annotations__")=(true,m₀,ann))
 (tree:∀P:Params,absHeap (T₀ P) n (life P)=H₀ P)
 (run:∀(w:World) (os:wbv),∃s,E2 wf8 p w m₀ ann N ⟨T₀ w.params,n,life w.params,Og,d₀,k₀,os⟩ (topStub p)=some s/\sound p (H₀ w.params) s=true/\openSeen q loose (wbe p.main.body) Xt g0 s.abs=openGood q loose/\Yf s.abs=Ya w):LeftO p q loose Xt Yf Ya N g0:=λw=>by
 obtain⟨⟨h,gs,d,k,os⟩,e,e'⟩:=wcK.mp (Mg w);obtain⟨rfl,rfl,rfl,rfl⟩:h=H₀ w.params/\gs=Og/\d=d₀/\k=k₀:=by simpa using e'
 obtain⟨z1,z2,z3⟩:_/\_/\_:=by simpa only[Prod.mk.injEq] using size w.params
 obtain⟨s,r,l1,l2,l3⟩:=run w os;have r:=E3 r
 have ea:(SharedT.mk (T₀ w.params) n (life w.params) gs d k os).abs=⟨H₀ w.params,gs,d,k,os⟩:=by
  unfold SharedT.abs;rw[tree]
 rw[ea]at r
 have t:topFrom wf8 p w N ⟨H₀ w.params,gs,d,k,os⟩=some s.abs:=by
  unfold topFrom;dsimp only;rw[z1,z2,z3,r];show (match sound p (H₀ w.params) s with |true=>_ |false=>_)=_;rw[l1]
 unfold openEnds;rw[e];show (topFrom wf8 p w N _).map _=_;rw[t];exact congrArg some (wcT l2 l3)
theorem JV{S A B C:Type}{o:Option S}{f:S->A}{g:S->B}{h:S->C}{a:A}{b:B}{c:C}(x:o.map f=some a)(y:o.map g=some b)(z:o.map h=some c):∃s,o=some s/\f s=a/\g s=b/\h s=c:=by
 cases o with
 |none=>cases x
 |some s=>exact⟨s,rfl,ZU x,ZU y,ZU z⟩
theorem four{S A B C D E F G:Type}{o:Option S}{f:S->A×B×C×D×E×F×G}{a:A×B×C×D×E×F×G}(h1:o.map (λs=>(f s).1)=some a.1)(h2:o.map (λs=>((f s).2.1,(f s).2.2.1))=some (a.2.1,a.2.2.1))(h3:o.map (λs=>((f s).2.2.2.1,(f s).2.2.2.2.1))=some (a.2.2.2.1,a.2.2.2.2.1))(h5:o.map (λs=>(f s).2.2.2.2.2.1)=some a.2.2.2.2.2.1)(h4:o.map (λs=>(f s).2.2.2.2.2.2)=some a.2.2.2.2.2.2):o.map f=some a:=by
 cases o with
 |none=>cases h1
 |some s=>
  have e1:(f s).1=a.1:=ZU h1;have e2:((f s).2.1,(f s).2.2.1)=(a.2.1,a.2.2.1):=ZU h2;have e3:((f s).2.2.2.1,(f s).2.2.2.2.1)=(a.2.2.2.1,a.2.2.2.2.1):=ZU h3;have e5:(f s).2.2.2.2.2.1=a.2.2.2.2.2.1:=ZU h5;have e4:(f s).2.2.2.2.2.2=a.2.2.2.2.2.2:=ZU h4;exact congrArg some (wcT e1 (wcT (wc1 e2).1 (wcT (wc1 e2).2 (wcT (wc1 e3).1 (wcT (wc1 e3).2 (wcT e5 e4))))))
theorem cut(n:Nat){o:Option wfC}{as:List Addr}{v:List (Option Obj)}(h:o.map (λs=>(as.take n).map s.abs.heap.get?)=some (v.take n))(h':o.map (λs=>(as.drop n).map s.abs.heap.get?)=some (v.drop n)):o.map (λs=>as.map s.abs.heap.get?)=some v:=by
 cases o with
 |none=>cases h
 |some s=>
  have h1:(as.take n).map s.abs.heap.get?=v.take n:=ZU h;have h2:(as.drop n).map s.abs.heap.get?=v.drop n:=ZU h';show some (as.map s.abs.heap.get?)=some v;rw[<-wdR n as,wa1,h1,h2,wdR]
end Tt
namespace K40
open PySem PySem.W
noncomputable def tp(i:Nat):Stmt:=pw0.main.body.getD i (.Pass ⟨0,0,0,0⟩)
noncomputable def view:wad:={pw0 with main:={pw0.main with body:=[tp 0,tp 2,tp 3,tp 4,tp 5,tp 6,tp 7,tp 8,tp 9,tp 10,tp 11,tp 13,tp 15,tp 16,tp 17,tp 18,tp 19,tp 21,tp 22,tp 23,tp 24,tp 25,tp 27,tp 28,tp 29,tp 30,tp 31,tp 32,tp 34,tp 35,tp 36,tp 37,tp 38,tp 39,tp 40,tp 42,tp 43,tp 44,tp 45,tp 46,tp 47,tp 48,tp 49,tp 50,tp 51,tp 52,tp 53,tp 54,tp 55,tp 56,tp 58,tp 59,tp 60,tp 61,tp 62,tp 64,tp 65,tp 66,tp 67,tp 68,tp 69,tp 70,tp 71,tp 72,tp 73,tp 74,tp 75,tp 77,tp 78,tp 79,tp 80,tp 81,tp 82,tp 83,tp 84,tp 85,tp 86,tp 87,tp 88]}}
noncomputable def tree0(P:Params):BT:=(.node (boot_o_0 P) (.node (boot_o_1 P) (.node (boot_o_3 P) (.node (boot_o_7 P) .nil .nil) .nil) (.node (boot_o_5 P) (.node (boot_o_9 P) .nil .nil) .nil)) (.node (boot_o_2 P) (.node (boot_o_4 P) (.node (boot_o_8 P) .nil .nil) .nil) (.node (boot_o_6 P) (.node (boot_o_10 P) .nil .nil) .nil)))
noncomputable def run(w:World)(os:wbv):Option wfC:=(Tt.E2 wf8 pw0 w 11 (some (ZY 6)) 8100 ⟨tree0 w.params,11,(wcB w.params).life,Array.mk [],boot_drawn,boot_toks,os⟩ (topStub pw0))
noncomputable def lhsS(w:World)(os:wbv):=(run w os).map (λs=>Tt.sound pw0 (wcB w.params) s)
noncomputable def lhsA1(w:World)(os:wbv):=(run w os).map (λs=>(openSeen view [] (wbe pw0.main.body) (λs=>wbN view [] s&&wbH (waY (waP (wb1 rw0))) s) true s.abs).1)
noncomputable def lhsA2(w:World)(os:wbv):=(run w os).map (λs=>((openSeen view [] (wbe pw0.main.body) (λs=>wbN view [] s&&wbH (waY (waP (wb1 rw0))) s) true s.abs).2.1,(openSeen view [] (wbe pw0.main.body) (λs=>wbN view [] s&&wbH (waY (waP (wb1 rw0))) s) true s.abs).2.2.1))
noncomputable def lhsA3(w:World)(os:wbv):=(run w os).map (λs=>((openSeen view [] (wbe pw0.main.body) (λs=>wbN view [] s&&wbH (waY (waP (wb1 rw0))) s) true s.abs).2.2.2.1,(openSeen view [] (wbe pw0.main.body) (λs=>wbN view [] s&&wbH (waY (waP (wb1 rw0))) s) true s.abs).2.2.2.2.1))
noncomputable def lhsA5(w:World)(os:wbv):=(run w os).map (λs=>(openSeen view [] (wbe pw0.main.body) (λs=>wbN view [] s&&wbH (waY (waP (wb1 rw0))) s) true s.abs).2.2.2.2.2.1)
noncomputable def lhsA4(w:World)(os:wbv):=(run w os).map (λs=>(openSeen view [] (wbe pw0.main.body) (λs=>wbN view [] s&&wbH (waY (waP (wb1 rw0))) s) true s.abs).2.2.2.2.2.2)
noncomputable def lhsB(as:List Addr)(w:World)(os:wbv):=(run w os).map (λs=>as.map s.abs.heap.get?)
end K40
noncomputable def PySem.W.Fast.tw14598715356260435866:=wgU
theorem PySem.W.Fast.te14598715356260435866:wgU=PySem.W.Fast.tw14598715356260435866:=rfl
noncomputable def PySem.W.Fast.tw4203100973106545218:=pw0
theorem PySem.W.Fast.te4203100973106545218:pw0=PySem.W.Fast.tw4203100973106545218:=rfl
noncomputable def PySem.W.Fast.tw13899100880601395773:=wgB
theorem PySem.W.Fast.te13899100880601395773:wgB=PySem.W.Fast.tw13899100880601395773:=rfl
lay_quick K40.lhsS K40.lhsA1 K40.lhsA2 K40.lhsA3 K40.lhsA4 K40.lhsA5 K40.lhsB
section
open PySem PySem.W PyProof.Rows
local macro_rules |`(tactic|o_head $H)=>`(tactic|(refine PySem.W.holds_open (q:=K40.view) (loose:=[]) (Xt:=λs=>PySem.W.xlAt K40.view [] s&&PySem.W.recOk (PySem.W.RowW.records (PySem.W.OpenRow.toRowW (PySem.W.OpenLaw.row PySem.Challenge.rw_bandscribe_k40_a_writer_s_desks))) s) (XP:=PySem.W.XL K40.view []) (Yf:=PySem.W.Hook.obs $H) (Ya:=PySem.W.Hook.val $H) (YP:=PySem.W.Hook.says $H) (N:=8100) ?hl (PySem.W.Hook.of $H) (PySem.W.Hook.keeps $H) (λs e=>PySem.W.xl_of s (Bool.and_eq_true_iff.mp e).1) PySem.W.XL.keeps (by rfl) (by rfl) (by rfl) (λs e=>PySem.W.recFacts_of (Bool.and_eq_true_iff.mp e).2) (by rfl) (by first |assumption |decide+kernel) (by decide+kernel) ⟨rfl,rfl,rfl,rfl,rfl,by decide+kernel⟩ ?hw ?hc;(case hl=>(intro w;contradiction))))
theorem K40.pre(h:False):(rw0).Holds:=by
 w_on;o_law;k_head
 all_goals contradiction
end
namespace K40
open PySem PySem.W
noncomputable def addrs:List Addr:=[2,3,15,17,18,20,21,22,29,30,31,32,35,42,43,44,47,54,56,57,59,60,61,62,63,66,73,75,76,78,79,80,81,82,85,92,94,95,97,98,99,100,101,104,111,112,113,116,123,124,125,128,135,137,138,140,141,142,143,144,147,154,155,156,159,166,168,169,171,172,173,174,175,178,180,181,183,184,185,187,188,190,191,192,194,195,197,198,199,201,202,204,205,206,208,209,211,212,213,216,217,218,221,222,223,225,226,228,229,230,233,234,235,237,238,240,241,242,244,245,247,248,249,252,253,254,257,258,259,262,263,264,266,267,269,270,271,273,274,276,277,278,280,281,283,284,285,288,289,297,300,301,302,303,304,305,306,309,312,313,314,316,317,319,320,321,324,325,326,328,329,331,332,333,336,337,338,340,341,343,344,352,355,356,357,359,360,362,363,364,365,366,367,368,371,373,374,376,377,378,380,381,383,384,385,387,388,390,391,392,395,396,397,400,401,402,405,406,407,409,410,412,413,414,416,417,419,420,421,424,425,426,428,429,431,432,433,435,436,438,439,440,443,444,445,447,448,450,451,452,454,455,457,458,466,469,470,471,473,474,476,477,478,480,481,483,484,485,487,488,490,491,492,494,495,497,498,499,501,502,504,505,506,508,509,511,512,513,516,517,518,520,521,523,524,525,527,528,530,531,532,533,534,535,536,539,542,543,544,546,547,549,550,551,553,554,556,557,558,560,561,563,564,565,568,569,570,572,573,575,576,577,579,580,582,583,584,586,587,589,590,591,594,595,596,599,600,608,610,611,613,614,615,617,618,620,621,622,624,625,627,628,629,631,632,634,635,636,638,639,641,642,643,645,646,648,649,650,652,653,655,656,657,659,660,662,663,664,666,667,669,670,671,674,675,676,677,678,679,680,683,685,686,688,689,690,692,693,695,696,697,700,701,702,704,705,707,708,709,711,712,714,715,716,719,720,721,724,725,726,728,729,731,732,733,735,736,738,739,740,742,743,745,746,747,750,751,752,754,755,757,758]
open PyProof.Rows in
theorem pS(w:World)(os:wbv):lhsS w os=some true:=wcU (congrFun (congrFun PySem.W.Fast.te8313422324546022536 w) os) (by kernel_rfl)
open PyProof.Rows in
theorem UJ(w:World)(os:wbv):lhsA5 w os=some (plainGoodE view (looseW view [])):=wcU (congrFun (congrFun PySem.W.Fast.te8831560783210603029 w) os) (by kernel_rfl)
open PyProof.Rows in
theorem UK(w:World)(os:wbv):lhsA3 w os=some (true,pinGoodD (drecsOf view)):=wcU (congrFun (congrFun PySem.W.Fast.te15425577608598970231 w) os) (by kernel_rfl)
open PyProof.Rows in
theorem UL(w:World)(os:wbv):lhsA4 w os=some (plainGoodD view [],wideGood view,clsGoodW view []):=wcU (congrFun (congrFun PySem.W.Fast.te14593654002686652362 w) os) (by kernel_rfl)
open PyProof.Rows in
theorem UM(w:World)(os:wbv):lhsA1 w os=some (expectedOf view):=wcU (congrFun (congrFun PySem.W.Fast.te8318435101950374161 w) os) (by kernel_rfl)
open PyProof.Rows in
theorem UN(w:World)(os:wbv):lhsA2 w os=some (bltViewBooted,true):=wcU (congrFun (congrFun PySem.W.Fast.te3456580515139773557 w) os) (by kernel_rfl)
theorem UO(w:World)(os:wbv):lhsB (K40.addrs.take 160) w os=some (((K40.pre.heap_39 w.params).map λp=>some p.2).take 160):=wcU (congrFun (congrFun (congrFun PySem.W.Fast.te14432560912522822907 _) w) os) (by kernel_rfl)
theorem UP(w:World)(os:wbv):lhsB (K40.addrs.drop 160) w os=some (((K40.pre.heap_39 w.params).map λp=>some p.2).drop 160):=wcU (congrFun (congrFun (congrFun PySem.W.Fast.te14432560912522822907 _) w) os) (by kernel_rfl)
theorem op:opening pw0=plainProg pw0.main.scope.names:=by kernel_rfl
theorem fe(s:Shared):fenceModules? pw0 s=some s:=by kernel_rfl
theorem tr(P:Params):absHeap (tree0 P) 11 (wcB P).life=wcB P:=by kernel_rfl
theorem sz(P:Params):((wcB P).isNs wax&&(Array.mk []:Array wcS).size==0,(wcB P).objs.size,(wcB P).nsMap wax "__annotations__")=(true,11,(some (ZY 6))):=by kernel_rfl
theorem whole:LeftO pw0 view [] (λs=>wbN view [] s&&wbH (waY (waP (wb1 rw0))) s) (λs=>K40.addrs.map s.heap.get?) (λw=>((K40.pre.heap_39 w.params).map λp=>some p.2)) 8100:=Tt.GL (H₀:=wcB) (T₀:=tree0) (life:=λP=>(wcB P).life) (boot_open op (by decide+kernel) fe) sz tr λw os=>Tt.JV (o:=run w os) (f:=λs=>Tt.sound pw0 (wcB w.params) s) (g:=λs=>openSeen view [] (wbe pw0.main.body) (λs=>wbN view [] s&&wbH (waY (waP (wb1 rw0))) s) true s.abs) (h:=λs=>K40.addrs.map s.abs.heap.get?) (pS w os) (Tt.four (o:=run w os) (f:=λs=>openSeen view [] (wbe pw0.main.body) (λs=>wbN view [] s&&wbH (waY (waP (wb1 rw0))) s) true s.abs) (a:=openGood view []) (UM w os) (UN w os) (UK w os) (UJ w os) (UL w os)) (Tt.cut (o:=run w os) 160 (UO w os) (UP w os))
end K40
open PySem
open AutoSeq1 (wpAny_loadPart')
open PySem.W (Looks looks_findIn looks_typeIn InitBack bind_fn findIn clsIn specialIn readsIn findCls keepIn isFn typeIn InstAt looks_find looks_hook looks_mroIn takesIn mroIn subIn KitX kitOne kitCls kia_one findObj findObj_data class_get handed_on handedOut_of)
section
local macro_rules|`(tactic|lia)=>`(tactic|lia-abstractProof)
local macro_rules(kind:=«term{_}»)|`({$x,*})=>`(⟨$x,*⟩)
local macro_rules|`(())=>`(by omega)
local macro_rules|`(∅)=>`(by decide+kernel)
local macro_rules|`(⋯)=>`(by decide)
namespace L2
open PySem.Spec PyProof.Rows
noncomputable abbrev Key:=Sum Int Str
noncomputable def vf:Key->Value->Bool
 |.inl k,v=>Value.isInt k v
 |.inr x,v=>wg2 x v
noncomputable def Pa(w:World):Key->Int
 |.inl k=>hashInt k
 |.inr x=>hashStr w x
theorem bW:∀{k:Key} {v:Value},vf k v=true->(∃i t,k=waQ i/\v=wf9 i t)\/(∃x t,k=wac x/\v=wfa x t)
 |.inl i,v,h=>by
  obtain⟨t,e⟩:=Value.isInt_shape (k:=i) (v:=v) h;exact .inl ⟨i,t,rfl,e⟩
 |.inr x,v,h=>by
  obtain⟨t,e⟩:=wg7 (x:=x) (v:=v) h;exact .inr ⟨x,t,rfl,e⟩
theorem C8(i:Int)(t:Tok):vf (.inl i) (.int i t)=true:=by simp[vf,Value.isInt]
theorem C9(x:Str)(t:Tok):vf (.inr x) (.str x t)=true:=by simp[vf,wg2]
theorem JW(a b:Int):decide ((waQ a:Key)=waQ b)=(a==b):=by
 grind
theorem JX(a b:Str):decide ((wac a:Key)=wac b)=decide (a=b):=by simp_all [Key,wcL,decide_eq_false]
theorem JY(a:Int)(b:Str):decide ((waQ a:Key)=wac b)=false:=decide_eq_false (λq=>nomatch q)
theorem JZ(a:Str)(b:Int):decide ((wac a:Key)=waQ b)=false:=decide_eq_false (λq=>nomatch q)
noncomputable def bF(prog:wad)(w:World):PySem.KeyKind prog w Key where
 is:=vf
 hash:=Pa w
 inj:=λv a b ha hb=>by
  rcases bW ha with⟨i,t,rfl,rfl⟩ |⟨x,t,rfl,rfl⟩
  .rcases bW hb with⟨j,u,rfl,e⟩ |⟨y,u,rfl,e⟩
   .injection e with e1 _;rw[e1]
   .exact nomatch e
  .rcases bW hb with⟨j,u,rfl,e⟩ |⟨y,u,rfl,e⟩
   .exact nomatch e
   .injection e with e1 _;rw[e1]
 byValue:=λk v h=>by
   rcases bW h with⟨i,t,rfl,rfl⟩ |⟨x,t,rfl,rfl⟩<;>rfl
 pyHash:=λhv h=>by
  rcases bW hv with⟨i,t,rfl,rfl⟩ |⟨x,t,rfl,rfl⟩
  .exact wpAny_pyHash_int h
  .exact wpAny_pyHash_str h
 eqBool:=λhu hv h=>by
  rcases bW hu with⟨i,t,rfl,rfl⟩ |⟨x,t,rfl,rfl⟩
  .rcases bW hv with⟨j,u,rfl,rfl⟩ |⟨y,u,rfl,rfl⟩
   .rw[JW]at h;exact wpAny_eqBool_int h
   .rw[JY]at h;exact wgh i t y u _ _ _ _ h
  .rcases bW hv with⟨j,u,rfl,rfl⟩ |⟨y,u,rfl,rfl⟩
   .rw[JZ]at h;exact wgi x t j u _ _ _ _ h
   .rw[JX]at h;exact wpAny_eqBool_str h
 «strs»:=λk x t v h=>by
  rcases bW h with⟨i,u,rfl,e⟩ |⟨y,u,rfl,e⟩
  .exact nomatch e
  .injection e with e1 _
   subst e1;cases v<;>rfl
theorem xS(prog:wad)(w:World)(i:Int)(t:Tok):(bF prog w).is (.inl i) (.int i t)=true:=C8 i t
theorem xT(prog:wad)(w:World)(x:Str)(t:Tok):(bF prog w).is (.inr x) (.str x t)=true:=C9 x t
set_option genInjectivity true in
inductive V where
 |non |bl (b:Bool) |int (i:Int) |str (x:Str) |byt (b:Array UInt8) |flt (b:UInt64) |ref (a:Addr) |ty (n:String)
 deriving DecidableEq
def RelV:V->Value->Prop
 |.non,u=>u=wbb
 |.bl b,u=>u=wfQ b
 |.int i,u=>∃t,u=wf9 i t
 |.str x,u=>∃t,u=wfa x t
 |.byt b,u=>∃t,u=Value.bytes b t
 |.flt b,u=>∃t,u=wgP b t
 |.ref a,u=>u=ZY a
 |.ty n,u=>u=wdY n
abbrev Vals:List V->List Value->Prop:=Paired RelV
theorem Vals.length{xs:List V}{us:List Value}(r:Vals xs us):xs.length=us.length:=wg3 r
theorem Vals.get:∀{xs:List V} {us:List Value} {i:Nat} {x:V},Vals xs us->xs[i]?=some x->∃u,us[i]?=some u/\RelV x u
 |_,_,_,_,.nil,e=>by simp at e
 |_,_,0,_,.cons r _,e=>by simp at e;subst e;exact{_,rfl,r}
 |_,_,i+1,x,.cons _ t,e=>by
  obtain⟨u,a,b⟩:=Vals.get (i:=i) (x:=x) t (by simpa using e);exact{u,by simpa using a,b}
theorem Vals.set(r:RelV x u):∀{xs:List V} {us:List Value} (i:Nat),Vals xs us->Vals (xs.set i x) (us.set i u)
 |_,_,_,.nil=>.nil
 |_,_,0,.cons _ t=>.cons r t
 |_,_,i+1,.cons q t=>.cons q (Vals.set r i t)
theorem Vals.append:∀{xs ys:List V} {us ws:List Value},Vals xs us->Vals ys ws->Vals (xs++ys) (us++ws)
 |_,_,_,_,.nil,s=>s
 |_,_,_,_,.cons r t,s=>.cons r (Vals.append t s)
theorem Vals.take:∀{xs:List V} {us:List Value} (n:Nat),Vals xs us->Vals (xs.take n) (us.take n)
 |_,_,0,_=>.nil
 |_,_,_+1,.nil=>.nil
 |_,_,n+1,.cons r t=>.cons r (Vals.take n t)
theorem Vals.drop:∀{xs:List V} {us:List Value} (n:Nat),Vals xs us->Vals (xs.drop n) (us.drop n)
 |_,_,0,r=>r
 |_,_,_+1,.nil=>.nil
 |_,_,n+1,.cons _ t=>Vals.drop n t
def j7:Option V->Option Value->Prop
 |some v,some u=>RelV v u
 |none,none=>True
 |_,_=>False
def KV{κ:Type}:List (κ×V)->List (κ×Value)->Prop:=Paired λ(p:κ×V) (q:κ×Value)=>p.1=q.1/\RelV p.2 q.2
noncomputable def kV:Key->V
 |.inl i=>.int i
 |.inr x=>.str x
set_option genInjectivity true in
inductive HO where
 |lst (xs:List V)
 |tup (xs:List V)
 |dK (kvs:List (Key×V)) |dT (kvs:List (List Key×V))
 |set (S:Int->Bool) (n:Nat)
 |ins (C dx:Addr) (fs:List (Str×V))
 |own (x:Addr)
 |xd (fs:List (Str×V))
 |met (f x:Addr)
 |rng (lo hi:Int)
 |frz (o:Obj) (u:HO)
 |tbl (ps:Array Value)
 |ext (φ:Heap->Prop)
noncomputable abbrev Hp:=Addr->Option HO
noncomputable def upd(H:Hp)(a:Addr)(o:HO):Hp:=λb=>if b=a then some o else H b
theorem a6:upd H a o a=some o:=by unfold upd;rw[if_pos rfl]
theorem ae(h:b≠a):upd H a o b=H b:=by unfold upd;rw[if_neg h]
theorem Bg:upd (upd H a o) a u=upd H a u:=by
 funext b;unfold upd;split<;>rfl
theorem Mh{H:Hp}{a b:Addr}{o u:HO}(h:H a=some o)(h':H b=some u)(d:o≠u):a≠b:=by grind [ZU]
theorem af{H:Hp}{a b:Addr}{o:HO}(h:H a=some o)(h':H b=none):a≠b:=by
 grind
def Rd(H:Hp)(a:Addr)(u:HO):Prop:=H a=some u\/∃o,H a=some (.frz o u)
def Mi:Option HO->Prop
 |some (.lst _)=>True
 |some (.dK _)=>True
 |some (.dT _)=>True
 |some (.set _ _)=>True
 |some (.ins _ _ _)=>True
 |some (.ext _)=>True
 |_=>False
structure Un(fs ex:List Addr)(H H':Hp)(h h':Heap):Prop where
 keep:∀b o,h.get? b=some o->H b=none->b∉fs->b∉ex->h'.get? b=some o
 slot:∀b o,h.get? b=some o->H b=none->b∈fs->b∉ex->∃sl,h'.get? b=some {o with slots:=sl}
 free:∀b o,h.get? b=some o->H b=none->b∉ex->H' b=none
 there:∀b o,h.get? b=some o->b∉ex->∃o',h'.get? b=some o'
 se:∀b xs,H b=some (.tup xs)->H' b=some (.tup xs)
 ry:∀b o u,H b=some (.frz o u)->H' b=some (.frz o u)
 sf:∀b ps,H b=some (.tbl ps)->∃more,H' b=some (.tbl (ps++more))
noncomputable def Pb(h:Heap)(H:Hp):List Addr:=(wak h.objs.size).filter λa=>(H a).isSome
noncomputable def wG(h:Heap)(H:Hp):Heap:=PySem.W.hideAll h (Pb h H)
theorem Ca(h:Heap)(H:Hp):(wG h H).objs.size=h.objs.size:=PySem.W.hideAll_size _ _
theorem E4(e:h.get? b=some o)(n:H b=none):(wG h H).get? b=some o:=
 PySem.W.hideAll_get _ e λa=>by
  have q:(H b).isSome=true:=(wa6.mp a).2;rw[n]at q;simp at q
theorem GN(e:(wG h H).get? b=some o):h.get? b=some o/\H b=none:=by
 have a:h.get? b=some o:=PySem.W.of_hideAll (Pb h H) e;refine{a,?_}
 cases q:H b with
 |none=>rfl
 |some x=>
  grind [Pb,ZX,wG,PySem.W.hideAll_none]
noncomputable def GO(g h:Heap)(L:Addr):List (Addr×Obj):=(wak h.objs.size).filterMap λa=>if a=L\/(g.get? a).isSome=true then none else(h.get? a).map λo=>(a,o)
noncomputable def rest(g h:Heap)(L d:Addr):List (Addr×Obj):=(GO g h L).filter λp=>decide (p.1≠d)
structure Mod(K:ZK)(mg:Str->Option Value)(base:Heap):Prop where
 Je:K.In base
 glob:base.Ns wax mg
 blt:∃mb,base.Ns builtinsNs mb/\∀x:Str,x≠"__name__"->mb x=wav x
 nolimit:base.NoLimit
structure Cx where
 prog:wad
 w:World
 K:ZK
 mg:Str->Option Value
 base:Heap
 A:Around
 N:List Str
 s₀:Shared
 H₀:Hp
 env:Env
 outer:List Env
 stack:List Env
 ex:List Addr
 fn:Str->Bool
 calm:Bool
 pn:List (Addr×Obj)
 xe:Value->Shared->Prop
noncomputable def pY(l:List Env):List Addr:=l.filterMap (·.frame)
noncomputable abbrev Cx.fs(X:Cx):List Addr:=pY X.outer
def Mj(sc:wct)(x:Str):Prop:=sc.names.lookup x=some .local\/sc.names.lookup x=some .cell\/sc.names.lookup x=some .free
def Loc(sc:wct)(x:Str):Prop:=sc.names.lookup x=some .local\/sc.names.lookup x=some .cell
def Look(env:Env)(h:Heap)(m:Str->Option Value)(x:Str)(u:Value):Prop:=
 (env.kindOf x=some .local/\m x=some u)\/((env.kindOf x=some .cell\/env.kindOf x=some .free)/\∃c,env.cells.lookup x=some c/\h.IsCell c (some u))
structure Cx.Ok(X:Cx):Prop where
 mod:Mod X.K X.mg X.base
 kind:X.env.scope.kind=.function
 glob:X.env.globals=wax
 blt:X.env.builtins=builtinsNs
 above:X.s₀.heap.objs.size<=X.env.locals
 inj:∀x y c,X.env.cells.lookup x=some c->X.env.cells.lookup y=some c->x=y
 has:∀x,(X.env.kindOf x=some .cell\/X.env.kindOf x=some .free)->∃c,X.env.cells.lookup x=some c
 K0:∀x c,X.fn x=true->X.env.cells.lookup x=some c->X.s₀.heap.objs.size<=c
 hd:X.calm=true->X.A.handled=none
 frames:X.A.frames=some X.stack
 LV:X.stack=X.outer\/(X.stack=X.env::X.outer/\X.env.frame=some X.env.locals)
 Oh:∀b∈X.ex,b≠X.env.locals/\∀x c,X.env.cells.lookup x=some c->c≠b
 bs:∀b o,X.base.get? b=some o->X.s₀.heap.get? b=some o/\X.H₀ b=none
 E5:X.base.objs.size<=X.s₀.heap.objs.size
 zA:∀b o,X.base.get? b=some o->b∉X.ex
 Cb:∀b∈X.ex,b∉X.fs
 nE:X.s₀.heap.FunFrames X.base X.outer
 GP:∀b∈X.fs,X.H₀ b=none
theorem xU{N:List Str}(g:N.Nodup){i j:Nat}{x:Str}(a:N[i]?=some x)(b:N[j]?=some x):i=j:=by
 obtain⟨e,c⟩:=ZO.mp a;obtain⟨f,d⟩:=ZO.mp b;exact(wbK g).mp (c.trans d.symm)
noncomputable abbrev XK:=Value->Option Addr->Hp->Prop
noncomputable abbrev St:=List (Option V)
noncomputable abbrev VK:=V->Hp->Prop
noncomputable abbrev TE:=St->Hp->VK->Prop
noncomputable abbrev TT:=St->Hp->(Bool->Hp->Prop)->Prop
noncomputable abbrev TA:=St->Hp->(List V->Hp->Prop)->Prop
structure Bx(p:Prop):Prop where
 go:p
instance {p:Prop}:CoeFun (Bx p) λ_=>p:=⟨Bx.go⟩
theorem bS{α:Type}{t:Sem α}{Q g:α->Shared->Prop}{M:Model}{A:Around}{E:Value->Shared->Prop}{s:Shared}(h:wpAny M A t Q E s)(j:∀a s,Q a s->g a s):wpAny M A t g E s:=waF h j λ_ _ x=>x
inductive GQ(i:Nat)(σ:St)(H:Hp)(Q:VK):Prop
 |mk (v) (_:σ[i]?=some (some v)) (_:Q v H)
def tC(v:V):TE:=λ_ H Q=>Q v H
inductive Sj(x:V)(H:Hp)(Q:Bool->Hp->Prop):Prop
 |mk (c) (_:x=.bl c) (_:Q c H)
def tB(t:TE):TT:=λσ H Q=>t σ H λx H1=>Sj x H1 Q
def Pg(t u:TT):TT:=λσ H Q=>t σ H λc H1=>if c=true then u σ H1 Q else Q false H1
def UQ(t u:TT):TT:=λσ H Q=>t σ H λc H1=>if c=true then Q true H1 else u σ H1 Q
def Ph(t:TT):TT:=λσ H Q=>t σ H λc H1=>Q (!c) H1
def aK(K:ZK)(H:Hp)(a:Addr)(xs:List V):Prop:=
 Rd H a (.lst xs) \/
  ∃(o:Obj) (its:Array Value) (n:Nat),K.lookup a=some o/\o.cls=.type "list"/\o.dict=none/\o.data=.seq its n/\its.size<=sizeLine/\Vals xs its.toList
def fJ(K:ZK)(H:Hp)(a:Addr)(xs:List V):Prop:=
 Rd H a (.tup xs) \/
  ∃(o:Obj) (its:Array Value) (n:Nat),K.lookup a=some o/\o.cls=.type "tuple"/\o.data=.seq its n/\its.size<=sizeLine/\Vals xs its.toList
noncomputable def Pj:Value->Option V
 |.none=>some .non
 |.bool b=>some (.bl b)
 |.int i _=>some (.int i)
 |.str x _=>some (.str x)
 |.bytes b _=>some (.byt b)
 |.float b _=>some (.flt b)
 |.ref a=>some (.ref a)
 |.type n=>some (.ty n)
 |_=>none
theorem RelV.abs{x:V}{u:Value}(r:RelV x u):Pj u=some x:=by
 cases x with
 |non=>cases r;rfl
 |bl _=>cases r;rfl
 |int _=>obtain⟨t,rfl⟩:=r;rfl
 |str _=>obtain⟨t,rfl⟩:=r;rfl
 |byt _=>obtain⟨t,rfl⟩:=r;rfl
 |flt _=>obtain⟨t,rfl⟩:=r;rfl
 |ref _=>cases r;rfl
 |ty _=>cases r;rfl
theorem RelV.inj{x y:V}{u:Value}(r:RelV x u)(q:RelV y u):x=y:=ZU (r.abs.symm.trans q.abs)
theorem Vals.inj:∀{xs ys:List V} {us:List Value},Vals xs us->Vals ys us->xs=ys
 |_,_,_,.nil,.nil=>rfl
 |_,_,_,.cons r t,.cons a b=>by rw[r.inj a,Vals.inj t b]
noncomputable abbrev Cx.mL(X:Cx)(E:Value->Shared->Prop):Cx:={X with xe:=E}
noncomputable abbrev Cx.Jf(X:Cx):Cx:=X.mL λ_ _=>False
noncomputable abbrev TG:=V->St->Hp->(St->Hp->Prop)->Prop
noncomputable abbrev Oi:=List V->St->Hp->(St->Hp->Prop)->Prop
noncomputable abbrev K1:=V->V->V->Hp->(Hp->Prop)->Prop
noncomputable abbrev Ml:=V->V->Hp->VK->Prop
def eI(i:Nat):TG:=λv σ H Q=>Q (σ.set i (some v)) H
inductive E6(vs:List V)(σ:St)(H:Hp)(Q:St->Hp->Prop):Prop
 |mk (_:vs=[]) (_:Q σ H)
inductive k8(t:TG)(u:Oi)(vs:List V)(σ:St)(H:Hp)(Q:St->Hp->Prop):Prop
 |mk (v r) (_:vs=v::r) (_:t v σ H λσ' H'=>u r σ' H' Q)
inductive E7(K:ZK)(n:Nat)(t:Oi)(v:V)(σ:St)(H:Hp)(Q:St->Hp->Prop):Prop
 |mk (a xs) (_:v=.ref a) (_:fJ K H a xs) (_:xs.length=n) (_:t xs σ H Q)
def Pk(to ti:TE)(t:K1):TG:=λv σ H Q=>to σ H λo H1=>ti σ H1 λi H2=>t o i v H2 λH3=>Q σ H3
noncomputable def UR(f:Int->Int->Int):Ml:=λx y H Q=>∃i j,x=.int i/\y=.int j/\Q (.int (f i j)) H
structure It where
 go:Nat->Hp->Prop
 uC:Nat->Hp->V->Hp->Prop
 stop:Nat->Hp->Prop
def si(X:Cx)(pins:List (Addr×Obj))(H:Hp)(b:Addr):Prop:=
 H b=none/\b≠X.env.locals/\b∉X.fs/\(b∈X.ex\/X.s₀.heap.objs.size<=b)/\(∀x c,X.env.cells.lookup x=some c->c≠b)/\∀p∈X.pn++pins,p.1≠b
noncomputable abbrev TI:=St->Hp->(It->Hp->Prop)->Prop
theorem xV{E:Value->Shared->Prop}{Q:Unit->Shared->Prop}(j:s.heap.get? it=some o)(hc:o.cls=.type n)(hd:o.data=.fields vs)
 (hn:["enumerate","zip","dict_itemiterator","dict_reverseitemiterator","odict_iterator","itertools.zip_longest","itertools.pairwise"].contains n=false) (g:Q .unit s):wpAny M A (wdZ l (.ref it) u) Q E s:=by
 unfold wdZ
 cases l<;>first
  |exact waa g
  |(cases u<;>first
     |exact waa g
     |(refine ZN (wpAny_load j ?_)
       rw[hc,hd];show wpAny M A (if (["enumerate","zip","dict_itemiterator","dict_reverseitemiterator","odict_iterator","itertools.zip_longest","itertools.pairwise"].contains n&&vs[0]?==some (rawInt _))=true then _ else _) Q E s;rw[if_neg (by grind)]
       exact waa g))
noncomputable def LW(K:ZK)(a:Addr):It:=
 {λi H=>∃xs x,aK K H a xs/\xs[i]?=some x,λi H x H'=>H'=H/\∀xs,aK K H a xs->xs[i]?=some x,λi H=>∃xs,aK K H a xs/\xs.length<=i}
noncomputable def Jg(lo:Int)(n:Nat):It:={λi _=>i<n,λi H x H'=>H'=H/\x=.int (lo+i),λi _=>n<=i}
def Mm(K:ZK)(tl:TE):TI:=λσ H R=>tl σ H λx H1=>∃a,x=.ref a/\(∃xs,aK K H1 a xs)/\R (LW K a) H1
def Mo(ta:TA):TI:=λσ H R=>ta σ H λvs H1=>∃j:Int,vs=[.int j]/\-(2^62)<=j/\j<2^62/\R (Jg 0 j.toNat) H1
def Mp(ta:TA):TI:=λσ H R=>ta σ H λvs H1=>∃i j:Int,vs=[.int i,.int j]/\(-(2^62)<=i/\i<2^62/\-(2^62)<=j/\j<2^62)/\R (Jg i (j-i).toNat) H1
noncomputable def sj(fp:List Addr)(h:Heap):List (Addr×Obj):=fp.filterMap λb=>(h.get? b).map λo=>(b,o)
theorem j8(g:b∈j)(e:h.get? b=some o):(b,o)∈sj j h:=wdc.mpr {b,g,by rw[e];rfl}
theorem Cd(g:p∈sj j h):p.1∈j/\h.get? p.1=some p.2:=by
 obtain⟨b,a,e⟩:=wdc.mp g
 cases q:h.get? b with
 |none=>grind
 |some o=>
  grind
noncomputable abbrev R2:=V->V->Hp->VK->Prop
def Mq(r:R2)(ta tb:TE):TE:=λσ H Q=>ta σ H λx H1=>tb σ H1 λy H2=>r x y H2 Q
def UT(r:V->Hp->VK->Prop)(ta:TE):TE:=λσ H Q=>ta σ H λx H1=>r x H1 Q
inductive rI(C:Int->Int->Prop)(g:Int->Int->V)(x y:V)(H:Hp)(Q:VK):Prop
 |mk (i j) (_:x=.int i) (_:y=.int j) (_:C i j) (_:Q (g i j) H)
inductive Jh(g:Int->Int->V)(x y:V)(H:Hp)(Q:VK):Prop
 |mk (i j) (_:x=.int i) (_:y=.int j) (_:Q (g i j) H)
inductive rU(g:Int->V)(x:V)(H:Hp)(Q:VK):Prop
 |mk (i) (_:x=.int i) (_:Q (g i) H)
def Pm(i j:Int):Prop:=0<j/\j<1073741824
def GR(i j:Int):Prop:=(-(2^64)<i/\i<2^64)\/(-(2^64)<j/\j<2^64)
noncomputable def Mr:V->V->Bool
 |.non,.non=>true |.non,.int _=>true |.int _,.non=>true |.non,.bl _=>true |.bl _,.non=>true |.non,.str _=>true |.str _,.non=>true
 |.int _,.int _=>true |.bl _,.bl _=>true |.str _,.str _=>true |.byt _,.byt _=>true
 |.int _,.str _=>true |.str _,.int _=>true |.bl _,.str _=>true |.str _,.bl _=>true
 |_,_=>false
inductive UU(x y:V)(H:Hp)(Q:VK):Prop
 |mk (_:Mr x y=true) (_:Q (.bl (decide (x=y))) H)
inductive UW(x y:V)(H:Hp)(Q:VK):Prop
 |mk (_:Mr x y=true) (_:Q (.bl (!decide (x=y))) H)
theorem Bh:decide (V.int i=V.int j)=(i==j):=by
 rw[wcC];simp
theorem E8:decide (V.bl i=V.bl j)=(i==j):=by
 rw[wcC];simp
theorem Bi:decide (V.str i=V.str j)=(i==j):=by
 rw[wcC];simp
theorem Bj:decide (V.byt i=V.byt j)=(i.toList==j.toList):=by
 rw[wcC];cases i;cases j;simp
def E9(t:TE):TT:=λσ H Q=>t σ H λx H'=>Sj x H' Q
theorem mM:(sizeLine:Nat)<2^63:=by rw[wbF];decide
theorem vals1(r:Vals [x] us):∃u,us=[u]/\RelV x u:=by
 cases r with
 |cons a b=>cases b;exact{_,rfl,a}
theorem vals2(r:Vals [x,y] us):∃u g,us=[u,g]/\RelV x u/\RelV y g:=by
 cases r with
 |cons a b=>
  cases b with
  |cons c d=>cases d;exact{_,_,rfl,a,c}
structure zB(h:Heap)(x dx C:Addr)(mA:Str->Option Value):Prop where
 obj:h.get? x=some (wbO C dx)
 ns:h.Ns1 dx mA
 ne:dx≠x
noncomputable def cx(f:Str)(v:V):List (Str×V)->List (Str×V)
 |[]=>[(f,v)]
 |(g,x)::r=>if g=f then(g,v)::r else(g,x)::cx f v r
theorem aB(f g:Str)(v:V):∀fs:List (Str×V),(cx f v fs).lookup g=if g=f then some v else fs.lookup g
 |[]=>by
  show wfl g [(f,v)]=_
  by_cases h:g=f
  .grind
  .grind
 |(k,x)::r=>by
  have a:=aB f g v r;rw[show cx f v ((k,x)::r)=(if k=f then(k,v)::r else(k,x)::cx f v r) from rfl]
  by_cases hk:k=f
  .grind
  .grind
theorem pe(f:Str)(v:V):∀fs:List (Str×V),f∈(cx f v fs).map (·.1)/\∀g,g∈fs.map (·.1)->g∈(cx f v fs).map (·.1)
 |[]=>{by simp[cx],λg h=>by simp at h}
 |(k,x)::r=>by
  obtain⟨a,b⟩:=pe f v r;rw[show cx f v ((k,x)::r)=(if k=f then(k,v)::r else(k,x)::cx f v r) from rfl]
  by_cases hk:k=f
  .grind
  .grind
theorem pZ(f:Str)(v:V):∀fs:List (Str×V),(cx f v fs).length<=fs.length+1
 |[]=>by simp[cx]
 |(k,x)::r=>by
  have a:=pZ f v r;rw[show cx f v ((k,x)::r)=(if k=f then(k,v)::r else(k,x)::cx f v r) from rfl]
  by_cases hk:k=f
  .grind
  .grind
theorem j7.wH(r:j7 (some v) o):∃u,o=some u/\RelV v u:=by
 cases o with
 |none=>exact(show False from r).elim
 |some u=>exact⟨u,rfl,r⟩
theorem j7.none_of(r:j7 none o):o=none:=by grind [j7,cases False]
theorem Ce(r:RelV v u):wgV u=true:=by
 cases v with
 |non=>cases(show u=wbb from r);rfl
 |bl b=>cases(show u=wfQ b from r);rfl
 |int i=>obtain⟨t,e⟩:=(show ∃t,u=wf9 i t from r);cases e;rfl
 |str x=>obtain⟨t,e⟩:=(show ∃t,u=wfa x t from r);cases e;rfl
 |byt b=>obtain⟨t,e⟩:=(show ∃t,u=Value.bytes b t from r);cases e;rfl
 |flt b=>obtain⟨t,e⟩:=(show ∃t,u=wgP b t from r);cases e;rfl
 |ref a=>cases(show u=ZY a from r);rfl
 |ty n=>cases(show u=wdY n from r);rfl
structure zx(K:ZK)(C:Addr):Prop where
 pg:wdL K C Str.empty=true
 hd:wey K C=true
 po:wgC K C=true
 sa:waS K (.ref C) "__setattr__"=some (some (.builtin "object.__setattr__"))
theorem zx.get{K:ZK}{C:Addr}(c:zx K C)(f:Str):wdL K C f=true:=c.pg
def bX(K:ZK)(C:Addr)(f:Str):Prop:=waS K (.ref C) f=some none
theorem bX.Ms{K:ZK}{C:Addr}{f:Str}(n:bX K C f):wfb K C f=some none:=by
 unfold wfb;rw[show waS K (.ref C) f=some none from n];rfl
inductive UX(K:ZK)(f:Str)(x:V)(H:Hp)(Q:VK):Prop
 |mk (a C dx fs v) (_:x=.ref a) (_:H a=some (.ins C dx fs)) (_:zx K C) (_:bX K C f) (_:fs.lookup f=some v) (_:Q v H)
def Mt(K:ZK)(ta:TE)(f:Str):TE:=λσ H Q=>ta σ H λx H1=>UX K f x H1 Q
theorem zC{A:Around}{C:Addr}{us:List Value}{g:List (Str×Value)}:(A.under (.builtin "type.__call__" {.ref C::us,g})).depth=A.depth+1:=by
 first |rfl |simp[wgj,Code.weight,Code.isCreation,Code.isGuard,Code.isCaller,Code.frames,wgk,guardIds]
theorem zD{A:Around}{C:Addr}{us:List Value}{g:List (Str×Value)}:(A.under (.builtin "type.__call__" {.ref C::us,g})).units=A.units+1:=by
 first |rfl |simp[wgj,Code.cUnits,Code.frames,wgk]
def wI:TA:=λ_ H Q=>Q [] H
def q0(ta:TE)(tr:TA):TA:=λσ H Q=>ta σ H λx H1=>tr σ H1 λxs H2=>Q (x::xs) H2
inductive UY(xs:List V)(H:Hp)(Q:VK):Prop
 |mk (_:xs.length<=sizeLine) (_:∀p,H p=none->Q (.ref p) (upd H p (.tup xs)))
inductive UZ(xs:List V)(H:Hp)(Q:VK):Prop
 |mk (_:xs.length<=sizeLine) (_:∀p,H p=none->Q (.ref p) (upd H p (.lst xs)))
noncomputable abbrev Sp:=List V->Hp->VK->XK->Prop
noncomputable abbrev DV:=List Env->Hp->Shared->XK->Value->Shared->Prop
def Ji(sp:Sp)(uD:List V)(E:XK)(t:TA):TE:=λσ H Q=>t σ H λvs H1=>sp (vs++uD) H1 Q E
inductive V0(C:Addr)(m:Str)(x:V)(H:Hp)(k:Prop):Prop
 |mk (a dx fs) (_:x=.ref a) (_:H a=some (.ins C dx fs)) (_:fs.lookup m=none) (_:k)
def Bk(C:Addr)(m:Str)(sp:Sp)(uD:List V)(E:XK)(ta:TE)(t:TA):TE:=λσ H Q=>ta σ H λx H1=>V0 C m x H1 (t σ H1 λvs H2=>sp (x::(vs++uD)) H2 Q E)
def Mu(C:Addr)(sp:Sp)(uD:List V)(E:XK)(t:TA):TE:=λσ H Q=>t σ H λvs H1=>∀x dx,H1 x=none->H1 dx=none->dx≠x ->
 sp (.ref x::(vs++uD)) (upd (upd H1 dx (.own x)) x (.ins C dx [])) (λv H2=>v=.non/\Q (.ref x) H2) E
def Binds(K:ZK)(fd:wb3)(ps:List Str)(ds:List Value):Prop:=
 ∀(s:Shared) (us:List Value),K.In s.heap->(us++ds).length=ps.length->BindsTo s fd {us,[]} (ps.zip (us++ds))
theorem Binds.all{K:ZK}{fd:wb3}{ps:List Str}(h:∀us:List Value,us.length=ps.length->bindArgs fd {us,[]}=pure (ps.zip us)):Binds K fd ps []:=λs us _ hl=>by
 rw[waL]at hl ⊢;exact .of_eq (h us hl)
structure rM(N P:List Str)(sc:wct):Prop where
 kind:sc.kind=.function
 co:sc.isCoroutine=false
 gen:sc.isGenerator=false
 nd:N.Nodup
 pre:N.take P.length=P
 par:∀x∈P,sc.names.lookup x=some .local\/sc.names.lookup x=some .cell
 K2:∀y∈sc.names,y.2≠.free
theorem vg{kindOf:Str->Option wdM}:∀{binds:List (Str×Value)} {m:Str->Option Value},(∀v,(x,v)∉binds)->bindL kindOf binds m x=m x
 |[],_,_=>rfl
 |(n,v)::r,m,h=>by
  unfold bindL;rw[vg λw hw=>h w (ZW _ hw)];split
  .grind
  .rfl
theorem vh{kindOf:Str->Option wdM}:∀{binds:List (Str×Value)} {m:Str->Option Value},(∀v,(x,v)∉binds)->bindC kindOf binds m x=m x
 |[],_,_=>rfl
 |(n,v)::r,m,h=>by
  unfold bindC;rw[vh λw hw=>h w (ZW _ hw)];split
  .rfl
  .grind
theorem vi{kindOf:Str->Option wdM}:∀{P:List Str} {vs:List Value} {i:Nat} {m:Str->Option Value},P.Nodup->P[i]?=some x->vs[i]?=some v->kindOf x=some .local ->
 bindL kindOf (P.zip vs) m x=some v
 |[],_,_,_,_,h,_,_=>by simp at h
 |_::_,[],_,_,_,_,h,_=>by simp at h
 |p::P,w::vs,0,m,nd,a,b,hk=>by
  simp at a b;subst a;subst b;show bindL kindOf ((p,w)::P.zip vs) m p=_;unfold bindL;rw[vg λv c=>(waZ.mp nd).1 (wfc c).1,if_pos hk];simp
 |p::P,w::vs,i+1,m,nd,a,b,hk=>by
  show bindL kindOf ((p,w)::P.zip vs) m x=_;unfold bindL;exact vi (i:=i) (waZ.mp nd).2 (by simpa using a) (by simpa using b) hk
theorem vj{kindOf:Str->Option wdM}:∀{P:List Str} {vs:List Value} {i:Nat} {m:Str->Option Value},P.Nodup->P[i]?=some x->vs[i]?=some v->kindOf x≠some .local ->
 bindC kindOf (P.zip vs) m x=some v
 |[],_,_,_,_,h,_,_=>by simp at h
 |_::_,[],_,_,_,_,h,_=>by simp at h
 |p::P,w::vs,0,m,nd,a,b,hk=>by
  simp at a b;subst a;subst b;show bindC kindOf ((p,w)::P.zip vs) m p=_;unfold bindC;rw[vh λv c=>(waZ.mp nd).1 (wfc c).1,if_neg hk];simp
 |p::P,w::vs,i+1,m,nd,a,b,hk=>by
  show bindC kindOf ((p,w)::P.zip vs) m x=_;unfold bindC;exact vj (i:=i) (waZ.mp nd).2 (by grind) (by grind) hk
noncomputable def start(N:List Str)(vs:List V):St:=vs.map some++wag (N.length-vs.length) none
theorem xW{g:wct}{n:Nat}{x:Str}(h:g.names.lookup x=some .cell):∃c,(cellsFrom n g.names []).lookup x=some c:=by
 have q:=wfm g.names n [] (.inl h);exact Option.isSome_iff_exists.mp q
noncomputable abbrev TO:=St->Hp->(Option Int->Hp->Prop)->Prop
noncomputable def GU:TO:=λ_ H Q=>Q none H
inductive V1(x:V)(H:Hp)(Q:Option Int->Hp->Prop):Prop
 |mk (i) (_:x=.int i) (_:Q (some i) H)
noncomputable def Mv(t:TE):TO:=λσ H Q=>t σ H λx H1=>V1 x H1 Q
noncomputable def Cg(n:Nat)(i:Int):Option Nat:=if 0<=i then(if i<n then some i.toNat else none) else if -(n:Int)<=i then some (i+n).toNat else none
noncomputable def uG{α:Type}(xs:List α)(i:Int):Option α:=(Cg xs.length i).bind λj=>xs[j]?
theorem Bl(h:Cg n i=some j):seqIndex? i n=some j/\j<n/\-(n:Int)<=i/\i<n:=by
 unfold Cg at h
 by_cases h0:0<=i
 .rw[if_pos h0]at h
  by_cases a:i<n
  .rw[if_pos a]at h;have e:i.toNat=j:=ZU h;exact{by rw[wgQ h0 a,e],by lia,by lia,a}
  .rw[if_neg a]at h;cases h
 .rw[if_neg h0]at h
  by_cases a:-(n:Int)<=i
  .rw[if_pos a]at h;have e:(i+n).toNat=j:=ZU h;exact{by rw[wgl (by lia) a,e],by lia,a,by lia}
  .rw[if_neg a]at h;cases h
theorem wJ{α:Type}{xs:List α}{i:Int}{v:α}(h:uG xs i=some v):∃j,seqIndex? i xs.length=some j/\xs[j]?=some v/\j<xs.length/\-(xs.length:Int)<=i/\i<xs.length:=by
 unfold uG at h
 cases e:Cg xs.length i with
 |none=>rw[e]at h;cases h
 |some j=>
  rw[e]at h;obtain⟨a,b,c,d⟩:=Bl e;exact⟨j,a,h,b,c,d⟩
theorem bq{α:Type}{xs:List α}{j:Nat}{v:α}(h:xs[j]?=some v):uG xs (j:Int)=some v:=by
 have a:j<xs.length:=(ZO.mp h).1
 have e:Cg xs.length (j:Int)=some j:=by
  unfold Cg;rw[if_pos (by lia),if_pos (by lia)];simp
 unfold uG;rw[e];exact h
theorem Ea{α:Type}(xs:List α)(v:α):uG (xs++[v]) (-1)=some v:=by
 have hl:(xs++[v]).length=xs.length+1:=by simp
 have e:Cg (xs++[v]).length (-1)=some xs.length:=by
  unfold Cg;rw[hl,if_neg ⋯,if_pos (by lia)];congr 1
  lia
 unfold uG;rw[e];show (xs++[v])[xs.length]?=some v;simp
def GV(b:Expr):Prop:=∀o i,wfn b false o i=operate [o,i] (getItem o i)
inductive Mw(K:ZK)(x y:V)(H:Hp)(Q:VK):Prop
 |mk (p xs i v) (_:x=.ref p) (_:y=.int i) (_:aK K H p xs) (_:uG xs i=some v) (_:Q v H)
inductive Mx(K:ZK)(x y:V)(H:Hp)(Q:VK):Prop
 |mk (p xs i v) (_:x=.ref p) (_:y=.int i) (_:fJ K H p xs) (_:uG xs i=some v) (_:Q v H)
inductive Pn(x y:V)(H:Hp)(Q:VK):Prop
 |mk (z i c) (_:x=.str z) (_:y=.int i) (_:z.length<=sizeLine) (_:uG z.cps.toList i=some c) (_:Q (.str ⟨#[c]⟩) H)
noncomputable def d9:V->Bool
 |.non=>true
 |.bl _=>true
 |.int _=>true
 |.str _=>true
 |_=>false
theorem Vals.one:∀{x:V} {us:List Value},Vals [x] us->∃u,us=[u]/\RelV x u
 |_,_,.cons r .nil=>{_,rfl,r}
theorem Vals.zero:∀{us:List Value},Vals [] us->us=[]
 |_,.nil=>rfl
theorem Vals.dropLast(h:Vals xs us):Vals xs.dropLast us.dropLast:=by
 induction h with
 |nil=>exact .nil
 |cons r t a=>
  cases t with
  |nil=>exact .nil
  |cons q b=>exact .cons r a
theorem Vals.rep(h:Vals xs us):∀k:Nat,Vals (wag k xs).flatten (wag k us).flatten
 |0=>.nil
 |k+1=>by
  rw[wbX,wbX,wbV,wbV];exact Vals.append h (Vals.rep h k)
theorem foldl_rep(g:List Value):∀(k:Nat) (j:List Value),
 wh6 (λl p=>l++p) j.toArray (wag k g.toArray)=(j++(wag k g).flatten).toArray
 |0,j=>by simp
 |k+1,j=>by
  have e:j.toArray++g.toArray=(j++g).toArray:=by simp
  have a:(j++g)++(wag k g).flatten=j++(wag (k+1) g).flatten:=by
   grind
  rw[<-a,<-foldl_rep g k (j++g),<-e,wbX,wfd]
theorem Eb(h:n<=sizeLine):wdd n=false:=by grind [wdd,decide_eq_false]
theorem GW{α:Type}(xs:List α)(k:Nat):(wag k xs).flatten.length=k*xs.length:=by simp_all [wbX,wbV,ZP,Nat.succ_mul,Nat.add_comm]
theorem vk(r:RelV (kV k) u):(bF P w).is k u=true:=by grind [RelV,kV,bF,xS,xT]
theorem vm:∀{ks:List Key} {us:List Value},Vals (ks.map kV) us->ItemsAre (bF P w) ks us
 |[],_,r=>by rw[we0]at r;cases r;exact .nil
 |k::ks,_,r=>by
  rw[wab]at r
  cases r with
  |cons h t=>exact .cons (vk h) (vm t)
abbrev KT(H:Hp):List (List Key×V)->List (List Key×Addr×Value)->Prop:=Paired λp q=>p.1=q.1/\H q.2.1=some (.tup (p.1.map kV))/\RelV p.2 q.2.2
def My(i:Expr):Prop:=∀ov iv,wfn i false ov iv=operate [ov,iv] (getItem ov iv)
theorem GX{prog:wad}{w:World}{A:Around}{E:Value->Shared->Prop}{s:Shared}{env:Env}{value slice:Expr}{pos:Pos}{T id:String}{Q:Value->Shared->Prop}
 (hl:weK (.type T) "__getitem__"=pure (some (.builtin id))) (hs:My slice)
 (h:wpAny (model prog w) A (eval value env) (λo j=>wpAny (model prog w) A (eval slice env) (λi g=>g.TypeIs o T/\wpAny (model prog w) A (getItem o i) Q E g) E j) E s) :
 wpAny (model prog w) A (eval (.Subscript value slice pos) env) Q E s:=by
 refine Subscript_ (waF h (λo j c=>waF c (λi g a=>?_) λ_ _ x=>x) λ_ _ x=>x);obtain⟨e,a⟩:=a;unfold wg4;refine ZN ?_;rw[getitemInPython_of_ne e.not_modules];refine ZN (wpAny_specialOf e hl ?_)
 have fin:wpAny (model prog w) A (wfn slice false o i) (λr b=>wpAny (model prog w) A (letTemporaryGo value o r >>= λ_=>pure r) Q E b) E g:=by
  rw[hs o i];exact wpAny_operating (waF a (λr b d=>ZN (wpAny_letTemporaryGo (waa d))) λ_ _ x=>x)
 first
  |exact waa (ZN fin)
  |exact ZN (waa (ZN fin))
  |exact ZN fin
def K3:TE:=λ_ H Q=>∀p,H p=none->Q (.ref p) (upd H p (.dK []))
def zE:List (TE×TE)->St->Hp->(List (V×V)->Hp->Prop)->Prop
 |[],_,H,Q=>Q [] H
 |(tk,tv)::r,σ,H,Q=>tk σ H λx H1=>tv σ H1 λy H2=>zE r σ H2 λps H3=>Q ((x,y)::ps) H3
abbrev VV:List (V×V)->List (Value×Value)->Prop:=Paired λp q=>RelV p.1 q.1/\RelV p.2 q.2
theorem vn:∀{vs:List Value} {ns:List Int},IntsAre vs ns->Vals (ns.map V.int) vs
 |_,_,.nil=>.nil
 |_,_,.cons n t h=>.cons ⟨t,rfl⟩ (vn h)
noncomputable abbrev YC{K:ZK}{h:Heap}(_:K.In h):ZK:=K
noncomputable def inClass(s:Stmt)(j:Nat):Stmt:=match s with
 |.ClassDef _ _ _ body _ _ _ _ _ _ _=>body.getD j (.Pass ⟨0,0,0,0⟩)
 |_=>.Pass ⟨0,0,0,0⟩
noncomputable def cT(s:Stmt):Arguments:=match s with
 |.FunctionDef _ a _ _ _ _ _ _ _ _=>a
 |_=>{posonlyargs:=[],args:=[],vararg:=none,kwonlyargs:=[],kw_defaults:=[],kwarg:=none,defaults:=[]}
noncomputable def bU(s:Stmt):List Stmt:=match s with
 |.FunctionDef _ _ b _ _ _ _ _ _ _=>b
 |_=>[]
noncomputable def aD(s:Stmt):wct:=match s with
 |.FunctionDef _ _ _ _ _ _ sc _ _ _=>sc
 |_=>{kind:=.function,names:=[],isGenerator:=false,isCoroutine:=false}
noncomputable abbrev cI:DV:=λ_ _ _ _ _ _=>False
abbrev E0:XK:=λ_ _ _=>False
structure xX(K:ZK)(x qual:Str)(st:Stmt)(f:Addr)(fd:wb3):Prop where
 ex:∃(oc:Value) (od:Option Addr) (kV doc pm:Value) (an:Option Addr) (gn ct:Value) (Ec:Array (Option Value)),
  fd=wbP x qual (cT st) (bU st) (aD st) .none kV doc pm an gn ct/\K.lookup f=some {oc,od,.func fd,Ec}/\wdt K gn qual=true
 kp:wcn K (.ref f)=true
theorem bO(h:n<=1000):n<sizeLine:=waI h ⋯
theorem bo{A B:Prop}(h:B):if false=true then A else B:=by
 grind
theorem eJ{A B:Prop}(h:A):if true=true then A else B:=by
 grind
theorem zF{c A B:Prop}[Decidable c](g:c->A)(j:¬c->B):if c then A else B:=by
 by_cases h:c
 .rw[if_pos h];exact g h
 .rw[if_neg h];exact j h
def a7(H H':Hp):Prop:=∀b o,H b=some o->H' b=some o
theorem a7.trans(a:a7 H g)(b:a7 g j):a7 H j:=λc o h=>b c o (a c o h)
theorem a7.free(e:a7 H g)(h:g l=Option.none):H l=Option.none:=by
 cases q:H l with
 |none=>rfl
 |some o=>
  rw[e l o q]at h;cases h
theorem a7.seq{K:ZK}{H g:Hp}{a:Addr}{xs:List V}(e:a7 H g)(h:aK K H a xs):aK K g a xs:=by
 rcases h with(h |⟨o,h⟩) |h
 .exact .inl (.inl (e _ _ h))
 .exact .inl (.inr {o,e _ _ h})
 .exact .inr h
theorem a7.upd(h:H a=none):a7 H (upd H a o):=λb u e=>by rw[ae (af e h)];exact e
abbrev Jj(nm:String):Prop:=["enumerate","zip","dict_itemiterator","dict_reverseitemiterator","odict_iterator","itertools.zip_longest","itertools.pairwise"].contains nm=false
noncomputable def Bm(z:Str)(i:Nat):V:=.str {#[z.cps.getD i 0]}
noncomputable def eD(z:Str):List V:=z.cps.toList.map λc=>V.str {#[c]}
def K4(scope:wct)(env:Env):Prop:=∀y∈scope.names,y.2=.free->env.kindOf y.1=some .cell\/env.kindOf y.1=some .free
def uH:TT:=λ_ H Q=>Q true H
def Mz{α:Type}:Nat->(List α->Prop)->Prop
 |0,P=>P []
 |n+1,P=>∀a,Mz n λus=>P (a::us)
noncomputable def pick(σ:St)(ix:List Nat):St:=ix.map λi=>(σ[i]?).join
theorem zG:∀{us:List Value},Vals (ns.map V.str) us->StrsAre us ns:=by
 induction ns with
 |nil=>intro us r;rw[we0]at r;cases r;exact .nil
 |cons n ns a=>
  intro us r;rw[wab]at r
  cases r with
  |cons b c=>
   obtain⟨t,e⟩:=b;subst e;exact .cons n t (a c)
theorem vo:∀{vs:List Value} {ns:List Str},StrsAre vs ns->Vals (ns.map V.str) vs
 |_,_,.nil=>.nil
 |_,_,.cons n t h=>.cons ⟨t,rfl⟩ (vo h)
noncomputable def iH(v d:Addr):HO:=.ext λh=>h.IsValuesView v d
theorem Ch{b e i:Addr}(h:b∉[e,i]):b≠e/\b≠i:=by simpa using h
theorem MA{e i n:Nat}(h:e<n)(h':i<n):∀b∈[e,i],b<n:=by simp[h,h']
theorem jF:wav "enumerate"=some (.type "enumerate"):=∅
theorem sub_str_set:isSubtype (.type "str") (.type "set")=pure false:=by rw[isSubtype_type];kernel_rfl
theorem sub_str_frozenset:isSubtype (.type "str") (.type "frozenset")=pure false:=by rw[isSubtype_type];kernel_rfl
theorem Jk(P:wad)(w:World)(x:Str)(t:Tok):(wbm P w).is x (.str x t)=true:=by simp[wbm,wg2]
noncomputable def eT(x:Str)(i:Nat):Str:={#[x.cps.getD i 0]}
noncomputable def GY(P:wad)(w:World)(a:Addr)(n:Nat):HO:=.ext λh=>∃S,h.SetOf (wbm P w) a S n
structure FnAt(K:ZK)(mg:Str->Option Value)(nm:Str)(st:Stmt)(ps:List Str)(f:Addr)(fd:wb3):Prop where
 F:xX K nm nm st f fd
 b:Binds K fd ps []
 g:mg nm=some (.ref f)
theorem Ed{c A B:Prop}[Decidable c](h:¬c)(b:B):if c then A else B:=by
 grind
theorem Pp{c A B:Prop}[Decidable c](h:c)(a:A):if c then A else B:=by
 grind
theorem ay(h:n<=1000000):n<=sizeLine:=wa0 h (by rw[wbF];decide)
theorem dX(ps:List Str):(ps.map V.str).all d9=true:=by
 rw[we1];exact waq.mpr λ_ _=>rfl
noncomputable def bY(mv:List (Str×Addr)):List (Key×V):=mv.map λm=>((wac m.1:Key),V.ref m.2)
theorem fK(mv:List (Str×Addr)):((bY mv).map λg=>kV g.1)=(mv.map (·.1)).map V.str:=by
 unfold bY;rw[ZV,ZV];rfl
theorem Bn{R:Str->Prop}:∀{ys:List V},(∀y∈ys,∃t,y=.str t/\R t)->∃ts:List Str,ys=ts.map V.str/\∀t∈ts,R t
 |[],_=>{[],rfl,λ_ h=>nomatch h}
 |y::ys,h=>by
  obtain⟨t,rfl,c⟩:=h y (ZZ ..);obtain⟨ts,rfl,a⟩:=Bn (R:=R) (ys:=ys) λy d=>h y (ZW _ d);refine{t::ts,rfl,λu b=>?_};rcases wao.mp b with rfl |b
  .exact c
  .exact a u b
structure GB(lo:Nat)(H:Hp)(h:Heap)(e C:Addr)(od:Option Addr):Prop where
 ge:lo<=e
 nt:H e=none
 ob:∃vs sl,h.get? e=some {.ref C,od,.fields vs,sl}/\1<vs.size /\
  (vs[1]?=some .none\/∃T oT ts,vs[1]?=some (.ref T)/\lo<=T/\H T=none/\T≠e/\h.get? T=some oT/\oT.data=.fields ts/\ts[3]?=some .none)
noncomputable abbrev rN(C d t:Addr):Obj:={cls:=.ref C,dict:=some d,data:=.fields #[.ref t,.none,.none,.none,.bool false,.none]}
noncomputable def XD(x C d:Addr):HO:=.ext λh=>∃t,h.get? x=some (rN C d t)
theorem K5(h:H x=some o):upd H x o=H:=by grind [upd]
noncomputable def del(H:Hp)(x:Addr):Hp:=λb=>if b=x then none else H b
theorem gb:del H x x=none:=if_pos rfl
theorem gQ(h:b≠x):del H x b=H b:=if_neg h
theorem Bo(h:H x=none):del (upd H x o) x=H:=by grind [gb,gQ,ae]
theorem zH(h:d≠x):del (upd H d o) x=upd (del H x) d o:=by
 funext b
 by_cases e:b=x
 .subst e;rw[gb,ae (wb4 h),gb]
 .rw[gQ e]
  by_cases a:b=d
  .subst a;rw[a6,a6]
  .rw[ae a,ae a,gQ e]
theorem wK:del (upd H x o) x=del H x:=by grind [gb,gQ,ae]
noncomputable abbrev TJ:=Str->St->Hp->(Str->Hp->Prop)->Prop
noncomputable abbrev MB:=XK->TE
noncomputable abbrev Cx.marked(X:Cx)(e:Addr):Cx:={X with A:=X.A.mark (some (.ref e)),calm:=false}
theorem Ee(v:V):V.bl (decide (v=v))=V.bl true:=by simp
theorem pf(v:V):V.bl (!decide (v=v))=V.bl false:=by simp
theorem j9:∀{ns:List Int} {g:List Value},Vals (ns.map V.int) g->∃xs:List (Int×Tok),g=xs.map (λp=>wf9 p.1 p.2)/\xs.map (·.1)=ns
 |[],g,r=>by cases r;exact{[],rfl,rfl}
 |n::ns,g,r=>by
  cases r with
  |cons h t=>
   obtain⟨a,rfl⟩:=h;obtain⟨xs,rfl,e⟩:=j9 t;exact{(n,a)::xs,rfl,by grind}
theorem Ef{κ:Type}:∀{kvs:List (κ×V)} {vs:List (κ×Value)},KV kvs vs->∀{i:Nat} {p:κ×V},kvs[i]?=some p->∃q,vs[i]?=some q/\p.1=q.1/\RelV p.2 q.2
 |_,_,.nil,i,p,h=>by simp at h
 |_,_,.cons r t,i,p,h=>by
  cases i with
  |zero=>exact{_,rfl,by have:=ZU h;subst this;exact r}
  |succ i=>exact Ef t h
noncomputable def zI(v:V):Bool:=!decide (v=.non)
noncomputable def V2:Ml:=λx y H Q=>∃i j,x=.int i/\y=.int j/\GR i j/\Q (.int (i*j)) H
noncomputable def jG(q:V×V):List V:=[q.1,q.2]
noncomputable def sq(kvs:List (Key×V)):Bool:=kvs.all λkv=>d9 kv.2
def MC(i j:Int):Prop:=0<j/\j.natAbs.log2<9000
noncomputable def GZ(lo c:Int)(n:Nat):It:={λi _=>i<n,λi H x H'=>H'=H/\x=.int (lo+(i:Nat)*c),λi _=>n<=i}
theorem vp(a b:Int):wcw a b (-1)=((a-b).toNat:Nat):=by
 unfold wcw;rw[if_neg ⋯];split
 .rw[show (-(-1):Int)=1 from rfl,Int.ediv_one];lia
 .lia
def MD(ta:TA):TI:=λσ H R=>ta σ H λvs H1=>∃i j:Int,vs=[.int i,.int j,.int (-1)]/\(0<=i/\i<=1000000/\0<=j/\j<=1000000)/\R (GZ i (-1) (i-j).toNat) H1
noncomputable def rP:List Expr->Option (List Int)
 |[]=>some []
 |.Constant (.int i) _ _::es=>(rP es).map (i :: ·)
 |_::_=>none
def Jl:List Int->TA
 |[]=>wI
 |i::is=>q0 (tC (.int i)) (Jl is)
noncomputable def mN:V->Bool
 |.non=>true
 |.bl _=>true
 |.int _=>true
 |.str _=>true
 |_=>false
theorem lJ(h:mN v=true):d9 v=true:=by
 cases v with
 |non=>rfl
 |bl _=>rfl
 |int _=>rfl
 |str _=>rfl
 |_=>cases h
theorem iI(n:Nat):(wak n).all (λ_=>true)=true:=by simp
theorem nF(s:a7 H g)(h:Rd H a o):Rd g a o:=by
 rcases h with e |⟨z,e⟩
 .exact .inl (s _ _ e)
 .exact .inr {z,s _ _ e}
theorem a7.Hc{K:ZK}{H g:Hp}{a:Addr}{xs:List V}(s:a7 H g)(h:fJ K H a xs):fJ K g a xs:=by
 rcases h with e |e
 .exact .inl (nF s e)
 .exact .inr e
noncomputable def aG(H H':Hp):Hp:=λa=>match H a with
 |none=>H' a
 |some _=>none
theorem aX(H g:Hp):a7 (aG H g) g:=λa o e=>by
 grind [aG]
theorem gR(s:a7 g j):a7 (aG H g) (aG H j):=by grind [a7,aG]
theorem bN(hl:H l=some o)(kp:∀b o,g b=some o->b≠l->j b=some o):a7 (aG H g) (aG H j):=by grind [a7,aG]
theorem bR(h:H a=none)(e:g a=some o):aG H g a=some o:=by
 grind [aG]
noncomputable def fb(H:Hp)(x:Addr):Hp:=λd=>if d=x then none else H d
theorem fL(h:H d=some o)(hd:d≠x):fb H x d=some o:=by
 unfold fb;rw[if_neg hd];exact h
theorem K6(j:H x=some (.ins C g fs))(h:Rd H d o)(l:∀z,o≠.ins C g z)(p:∀a b,HO.frz a b≠.ins C g fs):Rd (fb H x) d o:=by grind [Rd,fb,fL,ZU]
theorem wL{K:ZK}{H:Hp}{x C g:Addr}{fs:List (Str×V)}(j:H x=some (.ins C g fs)){d:Addr}{ys:List V}(h:aK K H d ys):aK K (fb H x) d ys:=by
 rcases h with(e |⟨o,e⟩) |e
 .exact .inl (.inl (fL e λz=>by grind))
 .exact .inl (.inr {o,fL e λz=>by grind})
 .exact .inr e
noncomputable def bf{α:Type}(p:Nat->Bool):Nat->List α->List α
 |_,[]=>[]
 |i,x::xs=>if p i then x::bf p (i+1) xs else bf p (i+1) xs
theorem iJ(ns:List Int):(ns.map V.int).all d9=true:=by grind [d9]
theorem Jm{x y:V}{g:List Value}(h:Vals [x,y] g):∃u v,g=[u,v]/\RelV x u/\RelV y v:=by
 cases h with
 |cons a b=>
  cases b with
  |cons c d=>
   cases d;exact{_,_,rfl,a,c}
set_option genInjectivity true in
inductive Lt where
 |fl (v:V)
 |ls (vs:List V)
 |tp (vs:List V)
 deriving DecidableEq
noncomputable def pQ(q:Str×Nat):List V:=[.str q.1,.int (q.2:Int)]
theorem Eg{p q:Str×Nat}(h:pQ p=pQ q):p=q:=by
 have a:=wdJ h;have b:=wdJ a.2;exact wcT (V.str.inj a.1) (whp (V.int.inj b.1))
theorem ph:∀{j:List Addr} {g:List Value},Vals (j.map V.ref) g->g=j.map ZY
 |[],_,h=>by cases h;rfl
 |r::j,_,h=>by
  cases h with
  |cons a b=>cases a;rw[ph b];rfl
section
variable{X:Cx}{a b:Expr}{ta tb:TE}
def Gl(X:Cx)(x:Str):Prop:=X.env.kindOf x=some .globalImplicit
theorem Eh(b:Expr)(h:op≠.In)(g:op≠.NotIn):wcz op b=false:=by
 have a:(op==CmpOp.In)=false:=by grind
 have c:(op==CmpOp.NotIn)=false:=by grind
 cases b<;>simp[wcz,a,c]
def ME(ta tb:TE):TE:=λσ H Q=>ta σ H λx H1=>∃c,x=.bl c/\if c=true then tb σ H1 Q else Q (.bl false) H1
def MF(ta:TE):TE:=λσ H Q=>ta σ H λx H1=>∃c,x=.bl c/\Q (.bl (!c)) H1
def V3(t:TT)(ta tb:TE):TE:=λσ H Q=>t σ H λc H1=>if c=true then ta σ H1 Q else tb σ H1 Q
theorem gp(b:Expr)(h:op≠.In:=by decide)(g:op≠.NotIn:=by decide):wcz op b=false:=by
 have a:(op==CmpOp.In)=false:=by grind
 have c:(op==CmpOp.NotIn)=false:=by grind
 cases b<;>simp[wcz,a,c]
noncomputable def k9:V->V->Bool
 |.non,.non=>true
 |.bl a,.bl b=>a==b
 |.bl a,.int b=>(if a then 1 else 0)==b
 |.int a,.bl b=>a==(if b then 1 else 0)
 |.int a,.int b=>a==b
 |.str a,.str b=>a==b
 |_,_=>false
theorem kc(j:RelV y u)(g:RelV x v)(p:d9 y=true)(l:d9 x=true):wdu A s u v (k9 y x):=by
 cases y with
 |non=>
  cases j
  cases x with
  |non=>cases g;exact we2 _
  |bl b=>cases g;exact SeqAt.EqAt.none_bool b
  |int b=>obtain⟨t,rfl⟩:=g;exact SeqAt.EqAt.none_int b t
  |str b=>obtain⟨t,rfl⟩:=g;exact SeqAt.EqAt.none_str b t
  |_=>exact absurd (show false=true from l) wa2
 |bl a=>
  cases j
  cases x with
  |non=>cases g;exact SeqAt.EqAt.bool_none a
  |bl b=>cases g;exact SeqAt.EqAt.bool_bool a b
  |int b=>obtain⟨t,rfl⟩:=g;exact SeqAt.EqAt.bool_int a b t
  |str b=>obtain⟨t,rfl⟩:=g;exact SeqAt.EqAt.bool_str a b t
  |_=>exact absurd (show false=true from l) wa2
 |int a=>
  obtain⟨c,rfl⟩:=j
  cases x with
  |non=>cases g;exact SeqAt.EqAt.int_none a c
  |bl b=>cases g;exact SeqAt.EqAt.int_bool a c b
  |int b=>obtain⟨t,rfl⟩:=g;exact wfD a c b t
  |str b=>obtain⟨t,rfl⟩:=g;exact wgh a c b t
  |_=>exact absurd (show false=true from l) wa2
 |str a=>
  obtain⟨c,rfl⟩:=j
  cases x with
  |non=>cases g;exact SeqAt.EqAt.str_none a c
  |bl b=>cases g;exact SeqAt.EqAt.str_bool a c b
  |int b=>obtain⟨t,rfl⟩:=g;exact wgi a c b t
  |str b=>obtain⟨t,rfl⟩:=g;exact wfE a c b t
  |_=>exact absurd (show false=true from l) wa2
 |_=>exact absurd (show false=true from p) wa2
noncomputable def zJ(x:V)(u:Value):Bool:=match u with
 |.none=>k9 .non x
 |.bool b=>k9 (.bl b) x
 |.int i _=>k9 (.int i) x
 |.str z _=>k9 (.str z) x
 |_=>false
theorem Ei(r:RelV y u)(f:d9 y=true):zJ x u=k9 y x:=by
 cases y with
 |non=>cases r;rfl
 |bl b=>cases r;rfl
 |int i=>obtain⟨t,rfl⟩:=r;rfl
 |str z=>obtain⟨t,rfl⟩:=r;rfl
 |_=>exact absurd (show false=true from f) wa2
theorem kd(g:RelV x v)(j:d9 x=true):∀{xs:List V} {us:List Value},Vals xs us->xs.all d9=true->∀u∈us,wdu A s u v (zJ x u)
 |_,_,.nil,_=>λu a=>by cases a
 |y::xs,u::us,.cons r t,f=>λb a=>by
  rw[wes,waV]at f;rcases wao.mp a with rfl |a
  .rw[Ei r f.1];exact kc r g f.1 j
  .exact kd g j t f.2 b a
noncomputable def nG:List V->List V->Bool
 |[],[]=>true
 |x::xs,y::ys=>k9 x y&&nG xs ys
 |_,_=>false
theorem vq(h:mN v=true):k9 v v=true:=by
 cases v with
 |non=>rfl
 |bl b=>cases b<;>rfl
 |int i=>show (i==i)=true;simp
 |str z=>show (z==z)=true;simp
 |_=>cases h
end
section
variable{κ:Type}[DecidableEq κ]
noncomputable def cR(kvs:List (κ×V))(k:κ):Option V:=(kvs.find? λkv=>decide (kv.1=k)).map (·.2)
theorem Ej:cR ([]:List (κ×V)) k=none:=rfl
theorem fg{p:κ×V}{r:List (κ×V)}{k:κ}(e:p.1=k):cR (p::r) k=some p.2:=by simp[cR,wcD,e]
theorem fh{p:κ×V}{r:List (κ×V)}{k:κ}(e:¬p.1=k):cR (p::r) k=cR r k:=by simp[cR,wcD,e]
theorem j7.iK(r:j7 o u):o.isSome=u.isSome:=by
 cases o with
 |none=>cases u with
  |none=>rfl
  |some _=>exact(show False from r).elim
 |some _=>cases u with
  |none=>exact(show False from r).elim
  |some _=>rfl
theorem KV.val{kvs:List (κ×V)}{vs:List (κ×Value)}(r:KV kvs vs)(k:κ):j7 (cR kvs k) (valueAt vs k):=by
 unfold KV at r
 induction r with
 |nil=>exact wbc
 |@cons p q ps a h t f=>
  obtain⟨d,g⟩:=h
  by_cases e:p.1=k
  .have c:q.1=k:=d.symm.trans e;have b:valueAt (q::a) k=some q.2:=by simp[valueAt,wcD,c]
   rw[fg e,b];exact g
  .have c:¬q.1=k:=λz=>e (d.trans z);have b:valueAt (q::a) k=valueAt a k:=by simp[valueAt,wcD,c]
   rw[fh e,b];exact f
theorem KV.repl(r:KV kvs vs)(k:κ)(j:RelV y u) :
 KV (kvs.map λg=>if g.1=k then(g.1,y) else g) (vs.map λg=>if g.1=k then(g.1,u) else g):=by
 unfold KV at r ⊢
 induction r with
 |nil=>exact .nil
 |@cons p q ps d h t b=>
  rw[wab,wab];refine .cons ?_ b;obtain⟨a,c⟩:=h
  by_cases e:p.1=k
  .rw[if_pos e,if_pos (a.symm.trans e)];exact⟨a,j⟩
  .rw[if_neg e,if_neg (λz=>e (a.trans z))];exact⟨a,c⟩
theorem KV.keys{kvs:List (κ×V)}{vs:List (κ×Value)}(r:KV kvs vs):kvs.map (·.1)=vs.map (·.1):=by
 unfold KV at r
 induction r with
 |nil=>rfl
 |cons h t a=>grind
theorem KV.length{kvs:List (κ×V)}{vs:List (κ×Value)}(r:KV kvs vs):kvs.length=vs.length:=wg3 r
end
section
variable{t:TA}{t2:TE}
def MG(t:TA):TE:=λσ H Q=>t σ H λxs H1=>UY xs H1 Q
def MH(t:TA):TE:=λσ H Q=>t σ H λxs H1=>UZ xs H1 Q
theorem KT.val{H:Hp}{kvs:List (List Key×V)}{xs:List (List Key×Addr×Value)}(r:KT H kvs xs)(k:List Key):j7 (cR kvs k) ((atKey xs k).map (·.2)):=by
 induction r with
 |nil=>exact wbc
 |@cons p q ps a h t f=>
  obtain⟨d,_,g⟩:=h
  by_cases e:p.1=k
  .have c:q.1=k:=d.symm.trans e;have b:atKey (q::a) k=some q.2:=by simp[atKey,wcD,c]
   rw[fg e,b];exact g
  .have c:¬q.1=k:=λz=>e (d.trans z);have b:atKey (q::a) k=atKey a k:=by simp[atKey,wcD,c]
   rw[fh e,b];exact f
theorem KT.repl(r:KT H kvs xs)(k:List Key)(j:RelV y u) :
 KT H (kvs.map λg=>if g.1=k then(g.1,y) else g) (xs.map (putAt k u)):=by
 induction r with
 |nil=>exact .nil
 |@cons p q ps f h t c=>
  rw[wab,wab];refine .cons ?_ c;obtain⟨a,b,d⟩:=h;unfold putAt
  by_cases e:p.1=k
  .rw[if_pos e,if_pos (a.symm.trans e)];exact⟨a,b,j⟩
  .rw[if_neg e,if_neg (λz=>e (a.trans z))];exact⟨a,b,d⟩
def eK(H:Hp)(a:Addr)(y:V)(r:Option V):Prop:=
 (∃kvs k,Rd H a (.dK kvs)/\y=kV k/\r=cR kvs k)\/∃kvs k b,Rd H a (.dT kvs)/\y=.ref b/\H b=some (.tup (k.map kV))/\r=cR kvs k
theorem eK.k{H:Hp}{a:Addr}{kvs:List (Key×V)}{k:Key}(e:H a=some (.dK kvs)):eK H a (kV k) (cR kvs k):=.inl {kvs,k,.inl e,rfl,rfl}
def MI(td ty:TE):TE:=λσ H Q=>td σ H λx H1=>ty σ H1 λy H2=>∃a v,x=.ref a/\eK H2 a y (some v)/\Q v H2
def Pq(ty td:TE):TE:=λσ H Q=>ty σ H λy H1=>td σ H1 λx H2=>∃a o,x=.ref a/\eK H2 a y o/\Q (.bl o.isSome) H2
def Hd(ty td:TE):TE:=λσ H Q=>ty σ H λy H1=>td σ H1 λx H2=>∃a o,x=.ref a/\eK H2 a y o/\Q (.bl (!o.isSome)) H2
structure M2(X:Cx)(o:Expr)(m:Str)(apos:Pos)(e f:Expr)(i5:Pos):Prop where
 base:wcd o m X.env (eval o X.env)=eval o X.env
 few:((backTo i5 (starEach [e,f] X.env)).all (λx=>!x.1)&&(backToKw i5 (wcm [] X.env)).all (λx=>x.1.isSome)
  && decide (([e,f]:List Expr).length+([]:List weP).length+(if ([]:List weP).isEmpty then 0 else 1)<30))=true
 line:(apos.endLine==i5.line)=true
 trees:backTo i5 (starEach [e,f] X.env)=[(false,eval e X.env),(false,eval f X.env)]
structure k4(J:It)(Ok:Hp->Prop)(xs:List V):Prop where
 go:∀i H,Ok H->i<xs.length->J.go i H
 uC:∀i H x H',Ok H->i<xs.length->J.uC i H x H'->H'=H/\xs[i]?=some x
 stop:∀H,Ok H->J.stop xs.length H
theorem aL(K:ZK)(a:Addr)(xs:List V):k4 (LW K a) (λH=>aK K H a xs) xs:=
 {λi H q hi=>{xs,xs[i],q,by simp[hi]},λi H x b q _ y=>{y.1,y.2 xs q},λH q=>{xs,q,ZS _}}
noncomputable def Oj(n:Nat)(val:Nat->V):It:={λi _=>i<n,λi H x H'=>H'=H/\x=val i,λi _=>n<=i}
theorem K7{val:Nat->V}(hn:xs.length=n)(g:∀i x,xs[i]?=some x->val i=x):k4 (Oj n val) (λ_=>True) xs:=by
 subst hn;refine{λi H _ hi=>hi,λi H x a _ hi y=>{y.1,?_},λH _=>ZS _};have e:xs[i]?=some xs[i]:=by simp[hi]
 rw[e,y.2,g i _ e]
theorem mO(lo:Int)(n:Nat):k4 (Jg lo n) (λ_=>True) ((wak n).map λi=>V.int (lo+(i:Nat))):=by
 refine{λi H _ hi=>(show i<n by simpa using hi),λi H x b _ hi y=>{y.1,?_},λH _=>?_}
 .have a:i<n:=by simpa using hi
  rw[y.2];simp[a]
 .show n<=_;simp
theorem nH(z:Str):k4 (Oj z.cps.size (Bm z)) (λ_=>True) (eD z):=by simp_all [K7,eD,ZM,ZU,wc7,Bm,wcR]
def Pt(tl:TE):TI:=λσ H R=>tl σ H λx H1=>∃z,x=.str z/\R (Oj z.cps.size (Bm z)) H1
theorem i6{α:Type}:∀n P,Mz n P->∀us:List α,us.length=n->P us
 |0,_,h,[],_=>h
 |n+1,_,h,a::us,e=>i6 n _ (h a) us (wgm e)
structure bP(X:Cx)(scope:wct)(x:Str)(ys:List Str)(ix:List Nat):Prop where
 kind:scope.kind=.function
 Ek:∀y∈scope.names,y.2≠.cell
 names:∀y∈scope.names,y.2=.local->scope.names.lookup y.1=some .local
 var:scope.names.lookup x=some .local
 free:K4 scope X.env
 nd:(x::ys).Nodup
 len:ix.length=ys.length
 slots:∀(j:Nat) (y:Str),ys[j]?=some y->∃i:Nat,ix[j]?=some i/\X.N[i]?=some y/\(X.env.scope.names.lookup y=some .cell\/X.env.scope.names.lookup y=some .free)/\scope.names.lookup y=some .free
theorem xY(h:xs.length≠ys.length):nG xs ys=false:=by
 induction xs generalizing ys with
 |nil=>cases ys with
  |nil=>exact absurd rfl h
  |cons _ _=>rfl
 |cons x xs a=>cases ys with
  |nil=>rfl
  |cons y ys=>
   show (k9 x y&&nG xs ys)=false;rw[a (by simpa using h),wdv]
theorem mP:∀{xs ys:List V},xs.length=ys.length->nG xs ys=(wak xs.length).all λj=>k9 (xs.getD j .non) (ys.getD j .non)
 |[],[],_=>rfl
 |[],_::_,h=>by simp at h
 |_::_,[],h=>by simp at h
 |x::xs,y::ys,h=>by
  show (k9 x y&&nG xs ys)=_;rw[wan,List.range_succ_eq_map,wes,we1,mP (by simpa using h)];rfl
inductive Pu(K:ZK)(x y:V)(H:Hp)(Q:VK):Prop
 |mk (a b xs ys) (_:x=.ref a) (_:y=.ref b) (_:aK K H a xs) (_:aK K H b ys) (_:xs.all d9=true) (_:ys.all d9=true) (_:Q (.bl (nG xs ys)) H)
noncomputable def LX(K:ZK)(a:Addr):It:=
 {λi H=>∃xs x,aK K H a xs/\xs[i]?=some x,λi H x H'=>∃T xv,H T=none/\x=.ref T/\H'=upd H T (.tup [.int (i:Nat),xv])/\∀xs,aK K H a xs->xs[i]?=some xv,λi H=>∃xs,aK K H a xs/\xs.length<=i}
def MJ(K:ZK)(ta:TA):TI:=λσ H R=>ta σ H λvs H1=>∃a xs,vs=[.ref a]/\aK K H1 a xs/\R (LX K a) H1
noncomputable def mQ(sc scope:wct)(N:List Str)(x:Str)(ys:List Str)(ix:List Nat):Bool:=
 (match scope.kind with |.function=>true |_=>false) &&
 (scope.names.all λy=>!decide (y.2=.cell))&&(scope.names.all λy=>!decide (y.2=.local) ||decide (scope.names.lookup y.1=some .local)) &&
 (scope.names.all λy=>!decide (y.2=.free) ||decide (sc.names.lookup y.1=some .cell) ||decide (sc.names.lookup y.1=some .free)) &&
 decide (scope.names.lookup x=some .local)&&decide ((x::ys).Nodup)&&decide (ix.length=ys.length) &&
 ((wak ys.length).all λj=>match ys[j]?,ix[j]? with
   |some y,some i=>decide (N[i]?=some y)&&(decide (sc.names.lookup y=some .cell) ||decide (sc.names.lookup y=some .free))&&decide (scope.names.lookup y=some .free)
   |_,_=>false)
theorem El{κ:Type}(f:κ->V)(g:κ->Str)(j:∀a b,g a=g b->f a=f b):∀{l:List κ} {c:κ},c∈l->cR (l.map λc=>((wac (g c):Key),f c)) (wac (g c):Key)=some (f c):=by intro a;induction a<;>grind [fg,fh,wcL]
theorem vr:∀(a b:List Str),nG (a.map V.str) (b.map V.str)=decide (a=b)
 |[],[]=>rfl
 |[],_::_=>rfl
 |_::_,[]=>rfl
 |x::c,y::d=>by
  show ((x==y)&&nG (c.map V.str) (d.map V.str))=_;rw[vr c d]
  by_cases e:x=y
  .grind
  .grind
structure Jn(K:ZK)(CB:Addr):Prop where
 sp:wgA K (.ref CB) "__getattribute__"=some (some (.builtin "type.__getattribute__"))
 rd:readsIn K CB (.type "type")=true
 fc:findCls K (.ref CB) (.type "type") "__init__"=some (.val (.builtin "ValueError.__init__"))
noncomputable def Pw:TJ:=λacc _ H Q=>acc.length<=sizeLine/\Q acc H
noncomputable def He(d:Addr)(o:Obj)(kvs:List (Key×V)):It:={λi H=>H d=some (.frz o (.dK kvs))/\i<kvs.length,λi H x H'=>H'=H/\∃kv,kvs[i]?=some kv/\x=kV kv.1,λi H=>H d=some (.frz o (.dK kvs))/\kvs.length<=i}
def MK(tl:TE):TI:=λσ H R=>tl σ H λx H1=>∃d kvs,x=.ref d/\((H1 d=some (.dK kvs)/\∀o,R (He d o kvs) (upd H1 d (.frz o (.dK kvs))))\/∃o,H1 d=some (.frz o (.dK kvs))/\R (He d o kvs) H1)
inductive Px(K:ZK)(x y:V)(H:Hp)(Q:VK):Prop
 |mk (a b xs ys) (_:x=.ref a) (_:y=.ref b) (_:aK K H a xs) (_:aK K H b ys) (_:xs.all d9=true) (_:ys.all d9=true) (_:Q (.bl (!nG xs ys)) H)
def bu(H:Hp)(rs:List Addr)(Sl:List (List V)):Prop:=rs.length=Sl.length/\∀(i:Nat) (r:Addr) (xs:List V),rs[i]?=some r->Sl[i]?=some xs->H r=some (.tup xs)
theorem bu.nil(H:Hp):bu H [] []:={rfl,λi r a h=>by simp at h}
def K8(tl:TE):TI:=λσ H R=>tl σ H λx H1=>∃d kvs,x=.ref d/\(H1 d=some (.dK kvs)\/∃o,H1 d=some (.frz o (.dK kvs)))/\∀o H',H' d=some (.frz o (.dK kvs))->(∀c,c≠d->H' c=H1 c)->R (He d o kvs) H'
noncomputable def hitsD(kb ka:List (Key×V)):Bool:=ka.all λkv=>match cR kb kv.1 with
 |some y=>k9 kv.2 y
 |none=>false
noncomputable def Py(ka kb:List (Key×V)):Bool:=ka.length==kb.length&&hitsD kb ka
inductive Pz(x y:V)(H:Hp)(Q:VK):Prop
 |mk (a b ka kb) (_:x=.ref a) (_:y=.ref b) (_:Rd H a (.dK ka)) (_:Rd H b (.dK kb)) (_:sq ka=true) (_:sq kb=true) (_:Q (.bl (Py ka kb)) H)
theorem xZ(lo c:Int)(n:Nat):k4 (GZ lo c n) (λ_=>True) ((wak n).map λi=>V.int (lo+(i:Nat)*c)):=by
 refine{λi H _ hi=>(show i<n by simpa using hi),λi H x b _ hi y=>{y.1,?_},λH _=>?_}
 .have a:i<n:=by simpa using hi
  rw[y.2];simp[a]
 .show n<=_;simp
def sr:List (Int×Int)->TA
 |[]=>wI
 |p::ps=>q0 (MG (q0 (tC (.int p.1)) (q0 (tC (.int p.2)) wI))) (sr ps)
def ML(K:ZK)(t:TA)(t2:TE):TE:=λσ H Q=>t σ H λvs H1=>t2 σ H1 λy H2=>∃a ns d,vs=[.ref a]/\y=.int d/\aK K H2 a (wcM V.int ns)/\(ns=[]->Q (.int d) H2)/\(∀M,M∈ns->(∀a∈ns,a<=M)->Q (.int M) H2)
inductive PB(K:ZK)(x y:V)(H:Hp)(Q:VK):Prop
 |mk (r l:Addr) (rs:List Addr) (prs:List (Str×Nat)) (q:Str×Nat) (_:x=.ref r) (_:y=.ref l) (_:H r=some (.tup (pQ q))) (_:aK K H l (rs.map V.ref)) (_:bu H rs (prs.map pQ)) (_:Q (.bl (!decide (q∈prs))) H)
end
section
variable{fs ex:List Addr}{H H1:Hp}{h h1:Heap}
theorem Un.any(u:Un fs ex H H1 h h1){b:Addr}{ob:Obj}(q:h.get? b=some ob)(n:H b=none)(g:b∉ex):∃sl,h1.get? b=some {ob with slots:=sl}:=by
 by_cases a:b∈fs
 .exact u.slot b ob q n a g
 .exact{ob.slots,u.keep b ob q n a g}
theorem nJ:∀{xs:List V} {us:List Value},Vals xs us->xs.all d9=true->us.any (zJ x)=xs.any λy=>k9 y x
 |_,_,.nil,_=>rfl
 |y::xs,u::us,.cons r t,f=>by
  rw[wes,waV]at f;rw[wce,wce,Ei r f.1,nJ t f.2]
noncomputable def nK(x:V)(xs:List V):Bool:=xs.any λy=>k9 y x
theorem iL(y:Str)(ps:List Str):nK (.str y) (ps.map V.str)=decide (y∈ps):=by
 unfold nK;rw[wde]
 induction ps with
 |nil=>rfl
 |cons p ps a=>
  rw[wce,a];show ((p==y) ||decide (y∈ps))=decide (y∈p::ps)
  by_cases e:p=y
  .subst e;simp
  .grind
theorem su(y:Int)(ns:List Int):nK (.int y) (ns.map V.int)=decide (y∈ns):=by
 unfold nK;rw[wde]
 induction ns with
 |nil=>rfl
 |cons a l b=>
  rw[wce,b];show ((a==y) ||decide (y∈l))=decide (y∈a::l)
  by_cases e:a=y
  .subst e;simp
  .grind
end
section
variable{a:Addr}
theorem Paired.K9{α β:Type}{F G:α->β->Prop}:∀{g:List α} {j:List β},Paired F g j->(∀a b,F a b->G a b)->Paired G g j
 |_,_,.nil,_=>.nil
 |_,_,.cons r t,f=>.cons (f _ _ r) (Paired.K9 t f)
theorem Ci{h:Heap}{g:Addr}{j:Str->Option Value}(n:h.Ns1 g j):∃l,h.get? g=some l/\∀name,wei name l=some (j name):=by
 obtain⟨o,c,m,d,hd,hk,_,f⟩:=n;refine{o,d,λname=>?_};have e:=f name;unfold nsFind findBy at e;rw[<-Array.find?_toList]at e;unfold wei;rw[hd];dsimp only;split
 .rename_i y q;rw[q]at e;exact congrArg some e
 .rename_i q;rw[q]at e
  have a:c.toList.any (·.refKey)=false:=by
   rw[wez];intro y i;obtain⟨z,t,b⟩:=hk y (Array.mem_toList_iff.mp i);simp[DictEntry.refKey,b]
  have k:¬c.toList.any (·.refKey)=true:=by rw[a];exact wa2
  rw[if_neg k];exact congrArg some e
theorem zB.look{h:Heap}{x j C:Addr}{l:Str->Option Value}(I:zB h x j C l):∃g,PySem.W.InstAt h x (wbO C j) C (some g)/\∀name,wei name g=some (l name):=
 let ⟨g,a,hl⟩:=Ci I.ns
 {g,⟨I.obj,rfl,rfl,a⟩,hl}
inductive Ol(K:ZK)(neg:Bool)(x y:V)(H:Hp)(Q:VK):Prop
 |mk (p xs) (_:y=.ref p) (_:(aK K H p xs\/fJ K H p xs)) (_:d9 x=true) (_:xs.all d9=true) (_:Q (.bl (if neg then !nK x xs else nK x xs)) H)
theorem KT.keeps(r:KT H kvs xs)(g:∀b ys,H b=some (.tup ys)->j b=some (.tup ys)):KT j kvs xs:=
 Paired.K9 r λ_ _ z=>{z.1,g _ _ z.2.1,z.2.2}
theorem bu.snoc(t:bu H g j)(h:H r=some (.tup xs)):bu H (g++[r]) (j++[xs]):=by
 refine{by rw[ZP,ZP,t.1];rfl,λi a b c d=>?_}
 by_cases hi:i<g.length
 .rw[wai hi]at c;rw[wai (by rw[<-t.1];exact hi)]at d;exact t.2 i a b c d
 .have e:i=g.length:=by
   have:=(ZO.mp c).1;rw[ZP,wc8]at this
   lia
  subst e;rw[waf (ZS _),wbn]at c;rw[waf (by rw[t.1];exact ZS _),t.1,wbn]at d;cases c;cases d;exact h
theorem bu.mem(t:bu H j g)(h:r∈j):∃xs∈g,H r=some (.tup xs):=by
 obtain⟨i,hi,e⟩:=wcV.mp h;have a:i<g.length:=by rw[<-t.1];exact hi
 exact{g[i],wah a,t.2 i r _ (by grind) (ZJ a)}
end
section
variable{κ:Type}[DecidableEq κ]
noncomputable def putK(kvs:List (κ×V))(k:κ)(v:V):List (κ×V):=
 if (kvs.any λkv=>decide (kv.1=k))=true then kvs.map (λkv=>if kv.1=k then(kv.1,v) else kv) else kvs++[(k,v)]
theorem ke(k:κ):∀kvs:List (κ×V),(kvs.any λg=>decide (g.1=k))=(cR kvs k).isSome
 |[]=>rfl
 |p::r=>by
  rw[wce]
  by_cases e:p.1=k
  .simp only[fg e,decide_eq_true e,Bool.true_or,Option.isSome_some]
  .rw[fh e,decide_eq_false e,Bool.false_or];exact ke k r
theorem kg(kvs:List (κ×V))(k:κ)(v:V):(putK kvs k v).length<=kvs.length+1:=by
 unfold putK;split
 .rw[ZI];lia
 .rw[ZP,wan,wfe];lia
theorem fi{kvs:List (κ×V)}{k:κ}(v:V)(h:cR kvs k=none):putK kvs k v=kvs++[(k,v)]:=by simp_all [putK,ke,if_neg]
theorem KV.any{kvs:List (κ×V)}{vs:List (κ×Value)}(r:KV kvs vs)(k:κ):(kvs.any λg=>decide (g.1=k))=vs.any λg=>decide (g.1=k):=by
 unfold KV at r
 induction r with
 |nil=>rfl
 |cons h t a=>rw[wce,wce,a,h.1]
theorem KV.put{kvs:List (κ×V)}{vs:List (κ×Value)}(r:KV kvs vs)(k:κ){y:V}{u:Value}(g:RelV y u):KV (putK kvs k y) (stored vs k u):=by
 unfold putK stored;rw[r.any k]
 by_cases e:(vs.any λa=>decide (a.1=k))=true
 .rw[if_pos e,if_pos e];exact r.repl k g
 .rw[if_neg e,if_neg e];exact Paired.snoc r ⟨rfl,g⟩
end
section
variable{K:ZK}
theorem KT.put{H:Hp}{kvs:List (List Key×V)}{xs:List (List Key×Addr×Value)}(r:KT H kvs xs)(k:List Key){b:Addr}{y:V}{u:Value}(j:H b=some (.tup (k.map kV)))(g:RelV y u) :
 KT H (putK kvs k y) (storedH xs k b u):=by
 have e:(kvs.any λa=>decide (a.1=k))=(atKey xs k).isSome:=by
  rw[ke,(r.val k).iK,weA]
 unfold putK storedH;rw[e]
 by_cases q:(atKey xs k).isSome=true
 .rw[if_pos q,if_pos q];exact r.repl k g
 .rw[if_neg q,if_neg q];exact Paired.snoc r ⟨rfl,j,g⟩
def kh(H:Hp)(a:Addr)(y v:V)(H':Hp):Prop:=
 (∃kvs k,H a=some (.dK kvs)/\y=kV k/\kvs.length<sizeLine/\H'=upd H a (.dK (putK kvs k v))) \/
 ∃kvs k b,H a=some (.dT kvs)/\y=.ref b/\H b=some (.tup (k.map kV))/\kvs.length<sizeLine/\H'=upd H a (.dT (putK kvs k v))
theorem kh.k{H:Hp}{a:Addr}{kvs:List (Key×V)}{k:Key}{v:V}(e:H a=some (.dK kvs))(hl:kvs.length<sizeLine):kh H a (kV k) v (upd H a (.dK (putK kvs k v))):=.inl ⟨kvs,k,e,rfl,hl,rfl⟩
noncomputable def ja(kvs more:List (Key×V)):List (Key×V):=more.foldl (λacc kv=>putK acc kv.1 kv.2) kvs
theorem KV.merge:∀{more:List (Key×V)} {g:List (Key×Value)} {kvs:List (Key×V)} {vs:List (Key×Value)},KV more g->KV kvs vs->KV (ja kvs more) (merged vs g):=by
 intro more g kvs vs r;unfold KV at r
 induction r generalizing kvs vs with
 |nil=>intro q;exact q
 |@cons p q ps c h t a=>
  intro b
  have e:KV (putK kvs p.1 p.2) (stored vs q.1 q.2):=by
   have:=b.put p.1 h.2;rw[<-h.1];exact this
  exact a e
theorem uI:∀(more kvs:List (Key×V)),(ja kvs more).length<=kvs.length+more.length:=by intro more;induction more<;>grind [putK,kg,ja,wan]
def MM(PD:List (TE×TE)):TE:=λσ H Q=>∀p,H p=none->zE PD σ (upd H p (.dK [])) λps H2=>H2 p=some (.dK [])/\∃kvs:List (Key×V),ps=kvs.map (λkv=>(kV kv.1,kv.2))/\kvs.length<=15/\Q (.ref p) (upd H2 p (.dK (ja [] kvs)))
theorem xX.binds{x g:Str}{st:Stmt}{f:Addr}{fd:wb3}{ps:List Str}(F:xX K x g st f fd)
 (h:∀(kV j pm:Value) (p:Option Addr) (l ct:Value) (us:List Value),us.length=ps.length->bindArgs (wbP x g (cT st) (bU st) (aD st) .none kV j pm p l ct) {us,[]}=pure (ps.zip us)):Binds K fd ps []:=by
 obtain⟨c,d,kV,j,pm,p,l,ct,a,rfl,lk,b⟩:=F.ex;exact .all (h kV j pm p l ct)
theorem Em{x g:Str}{st:Stmt}{f:Addr}{C:Value}{I t:Option Addr}{r:Array (Option Value)}{kV p pm j ct:Value}(l:K.lookup f=some {C,I,.func (wbP x g (cT st) (bU st) (aD st) .none kV p pm t j ct),r})
 (c:wdt K j g=true) (k:wcn K (.ref f)=true):xX K x g st f (wbP x g (cT st) (bU st) (aD st) .none kV p pm t j ct):={⟨C,I,kV,p,pm,t,j,ct,r,rfl,l,c⟩,k}
theorem mR:∀{names:List (Str×wdM)} (g:List (Str×Addr)),(∀y∈names,y.2=.free->∃c,env.cells.lookup y.1=some c)->(∀y c,g.lookup y=some c->env.cells.lookup y=some c) ->
 ∃cl:List (Str×Addr),(forIn names g (λ(x:Str×wdM) p=>(match x with |(name,kind)=>if kind == .free then do let c <-cellOf env name;pure (wcE ((name,c)::p)) else pure (wcE p):Sem (ForInStep (List (Str×Addr))))))=pure cl /\
  (∀y c,cl.lookup y=some c->env.cells.lookup y=some c)/\(∀y c,g.lookup y=some c->∃j,cl.lookup y=some j)/\∀y∈names,y.2=.free->∃c,cl.lookup y.1=some c
 |[],g,_,ha=>{g,rfl,ha,λy c e=>⟨c,e⟩,λ_ h=>nomatch h}
 |(n,k)::r,g,f,ha=>by
  rw[List.forIn_cons]
  by_cases hk:k=.free
  .obtain⟨c,hc⟩:=f (n,k) ZZ hk;have i:(k==wcf)=true:=by rw[hk];rfl
   obtain⟨cl,l,m,d,o⟩:=mR (env:=env) (names:=r) ((n,c)::g) (λy a=>f y (ZW _ a)) (λy j e=>by
    rw[wcW]at e
    cases q:y==n with
    |true=>
     rw[q]at e;have:c=j:=ZU e;subst this;have:y=n:=eq_of_beq q;subst this;exact hc
    |false=>
     rw[q]at e
     exact ha y j e)
   refine{cl,?_,m,λy j e=>?_,λy a b=>?_}
   .rw[<-l];simp only[i,if_true];have s:cellOf env n=pure c:=by unfold cellOf;rw[hc]
    rw[s];rfl
   .by_cases q:y=n
    .subst q;exact d y c (by simp[wcW])
    .refine d y j ?_;have:(y==n)=false:=beq_eq_false_iff_ne.mpr q;rw[wcW,this];exact e
   .rcases wao.mp a with rfl |a
    .exact d n c (by simp[wcW])
    .exact o y a b
  .have i:(k==wcf)=false:=by simpa using hk
   obtain⟨cl,l,m,d,o⟩:=mR (env:=env) (names:=r) g (λy a=>f y (ZW _ a)) ha;refine{cl,?_,m,d,λy a b=>?_}
   .rw[<-l];simp only[i,wbw,if_false];rfl
   .rcases wao.mp a with rfl |a
    .exact absurd b hk
    .exact o y a b
theorem lW(g:∀y∈scope.names,y.2=.free->∃c,env.cells.lookup y.1=some c) :
 ∃cl,closureFor scope env=pure cl/\(∀y c,cl.lookup y=some c->env.cells.lookup y=some c)/\∀y∈scope.names,y.2=.free->∃c,cl.lookup y.1=some c:=by
 obtain⟨cl,b,d,_,f⟩:=mR (env:=env) (names:=scope.names) [] g (λy c e=>by simp at e);refine{cl,?_,d,f};simp only[closureFor]
 first
  |(rw[b];rfl)
  |(have a:=b;simp only at a ⊢;rw[a];rfl)
  |(refine wcU (congrArg (λm=>m >>= λh=>pure h) ?_) ?_;exact pure cl;exact b;rfl)
theorem wM(g:∀y∈scope.names,y.2≠.cell)(h:(relabel scope env).names.lookup x=some .cell\/(relabel scope env).names.lookup x=some .free):∃k,(x,k)∈scope.names/\k=wcf:=by
 unfold relabel at h;dsimp only at h
 have key:∀(names:List (Str×wdM)),(∀y∈names,y.2≠.cell) ->
  ((names.map λ(n,k)=>if (k==wcf&&env.scope.kind == .function&&env.kindOf n==some .cell) then(n,wet) else(n,k)).lookup x=some .cell \/
   (names.map λ(n,k)=>if (k==wcf&&env.scope.kind == .function&&env.kindOf n==some .cell) then(n,wet) else(n,k)).lookup x=some .free)->∃k,(x,k)∈names/\k=wcf:=by
  intro names
  induction names with
  |nil=>grind
  |cons y r a=>
   grind
 exact key scope.names g h
theorem sv(h:scope.names.lookup x=some .free):(relabel scope env).names.lookup x=some .cell\/(relabel scope env).names.lookup x=some .free:=by
 unfold relabel;dsimp only
 have key:∀(names:List (Str×wdM)),names.lookup x=some .free ->
  ((names.map λ(n,k)=>if (k==wcf&&env.scope.kind == .function&&env.kindOf n==some .cell) then(n,wet) else(n,k)).lookup x=some .cell \/
   (names.map λ(n,k)=>if (k==wcf&&env.scope.kind == .function&&env.kindOf n==some .cell) then(n,wet) else(n,k)).lookup x=some .free):=by
  intro names
  induction names with
  |nil=>grind
  |cons y r a=>
   grind
 exact key scope.names h
theorem En(hk:kvs.map (·.1)=ks.map (wac:Str->Key))(rel:KV kvs vs)(hl:us.length=vs.length)
 (g:∀(j:Nat) (u:Value),us[j]?=some u->∃k x,vs[j]?=some (k,x)/\(bF P w).is k u=true):StrsAre us ks:=by
 have e:vs.map (·.1)=ks.map (wac:Str->Key):=rel.keys ▸ hk;clear hk rel
 induction ks generalizing us vs with
 |nil=>
  have:vs=[]:=by cases vs with |nil=>rfl |cons a b=>simp at e
  subst this;have:us=[]:=wf2.mp hl;subst this;exact .nil
 |cons k ks i=>
  cases vs with
  |nil=>simp at e
  |cons v vs=>
   cases us with
   |nil=>simp at hl
   |cons u us=>
    rw[wab,wab]at e;injection e with l m
    obtain⟨f,x,n,o⟩:=g 0 u rfl;have c:v=(f,x):=by simpa using n
    subst c;have d:f=(wac k:Key):=l;subst d;obtain⟨t,rfl⟩:=wg7 (x:=k) (v:=u) o;exact .cons k t (i (by simpa using hl) (λj p h=>g (j+1) p (by simpa using h)) m)
theorem vt:∀{kvs:List (Key×V)} {vs:List (Key×Value)} {us:List Value},KV kvs vs->us.length=vs.length ->
 (∀(j:Nat) (u:Value),us[j]?=some u->∃k x,vs[j]?=some (k,x)/\(bF P w).is k u=true)->Vals (kvs.map λg=>kV g.1) us
 |_,_,us,.nil,hl,_=>by
  have:us=[]:=wf2.mp hl;subst this;exact .nil
 |_,_,us,.cons (a:=p) (b:=q) r t,hl,d=>by
  cases us with
  |nil=>simp at hl
  |cons u us=>
   obtain⟨f,x,l,m⟩:=d 0 u rfl;have c:q=(f,x):=by simpa using l
   subst c;refine .cons ?_ (vt t (by simpa using hl) λj n h=>d (j+1) n (by simpa using h));have e:p.1=f:=r.1;show RelV (kV p.1) u;rw[e];rcases bW m with⟨i,t,rfl,rfl⟩ |⟨y,t,rfl,rfl⟩
   .exact⟨t,rfl⟩
   .exact⟨t,rfl⟩
noncomputable def q8(σ:List Str)(v:Str):List Str:=if σ.any (· == v)=true then σ else σ++[v]
noncomputable def cB(val:Nat->Str)(i:Nat):List Str:=((wak i).map val).foldl q8 []
theorem i7(val:Nat->Str)(i:Nat):cB val (i+1)=q8 (cB val i) (val i):=by
 unfold cB;rw[wd8,wa1,weB];rfl
theorem vv(val:Nat->Str):∀i,(cB val i).length<=i
 |0=>ZS _
 |i+1=>by
  rw[i7];unfold q8;have a:=vv val i;split
  .lia
  .grind
theorem Cj(σ:List Str)(v k:Str):(q8 σ v).any (· == k)=(σ.any (· == k) ||decide (k=v)):=by
 unfold q8
 by_cases h:σ.any (· == v)=true
 .rw[if_pos h]
  by_cases e:k=v
  .subst e;rw[h];simp
  .simp[e]
 .rw[if_neg h,List.any_append]
  by_cases e:k=v
  .subst e;simp
  .have a:(v==k)=false:=by simpa [beq_iff_eq] using(λb:v=k=>e b.symm)
   simp[a,e]
theorem wN(σ:List Str)(v:Str):(q8 σ v).length=if σ.any (· == v) then σ.length else σ.length+1:=by
 unfold q8;split<;>simp
theorem zK{X:Cx}(g:X.env.scope=l)(r:X.N=N)(h:mQ l scope N x ys p=true):bP X scope x ys p:=by
 unfold mQ at h;simp only[waV]at h;obtain⟨⟨⟨⟨⟨⟨⟨b,d⟩,f⟩,k⟩,m⟩,n⟩,o⟩,s⟩:=h;refine{?_,λy a=>?_,λy a e=>?_,of_decide_eq_true m,λy a e=>?_,of_decide_eq_true n,of_decide_eq_true o,λj y c=>?_}
 .cases e:scope.kind<;>rw[e]at b<;>first |rfl |cases b
 .have:=waq.mp d y a;simpa using this
 .have:=waq.mp f y a;simpa [e] using this
 .have:=waq.mp k y a;have q:l.names.lookup y.1=some .cell\/l.names.lookup y.1=some .free:=by simpa [e] using this
  show X.env.scope.names.lookup y.1=some .cell\/X.env.scope.names.lookup y.1=some .free;rw[g];exact q
 .have hl:j<ys.length:=(ZO.mp c).1;have:=waq.mp s j (waM.mpr hl);rw[c]at this
  cases e:p[j]? with
  |none=>rw[e]at this;cases this
  |some i=>
   rw[e]at this;simp only[waV,wh7,decide_eq_true_eq]at this;exact{i,rfl,by rw[r];exact this.1.1,by rw[g];exact this.1.2,this.2}
noncomputable def jH(ks:List Str):List (Key×V):=ks.map λk=>((wac k:Key),V.bl true)
theorem zL(ks:List Str):(jH ks).map (·.1)=ks.map (wac:Str->Key):=by
 unfold jH;rw[ZV];rfl
theorem Ck(ks:List Str):(jH ks).length=ks.length:=by unfold jH;rw[ZI]
noncomputable def ki(es:List (Key×V))(Ka:List Str):Bool:=(es.map (·.2)).any λe=>nK e (Ka.map V.str)
theorem Eo{e:V}{a b:List Str}(h:∀k∈a,k∈b)(q:nK e (a.map V.str)=true):nK e (b.map V.str)=true:=by grind [nK]
theorem zM{g:List (Key×V)}{a b:List Str}(h:∀k∈a,k∈b)(q:ki g a=true):ki g b=true:=by
 unfold ki at q ⊢;obtain⟨y,c,d⟩:=wbL.mp q;exact wbL.mpr {y,c,Eo h d}
structure Cm(ks:List Str)(es:Str->List (Key×V))(ls:List Str):Prop where
 sub:ls.Sublist ks
 uJ:∀k∈ls,ki (es k) ls=true
 most:∀Ka:List Str,(∀k∈Ka,k∈ks/\ki (es k) Ka=true)->∀k∈Ka,k∈ls
theorem gJ(h:k∈mv.map (·.1)):∃a,(k,a)∈mv/\cR (bY mv) (wac k:Key)=some (.ref a):=by
 induction mv with
 |nil=>simp at h
 |cons m mv b=>
  grind [fg,bY,fh]
noncomputable def roundF(ss:List Str)(es:Str->List (Key×V))(Ka:List Str):List Str:=ss.filter λp=>ki (es p) Ka
noncomputable def rounds(ss:List Str)(es:Str->List (Key×V)):Nat->List Str
 |0=>ss
 |n+1=>roundF ss es (rounds ss es n)
theorem GB.low{lo j:Nat}{H:Hp}{h:Heap}{e C:Addr}{l:Option Addr}(F:GB lo H h e C l)(hl:j<=lo):GB j H h e C l:=by
 obtain⟨g,n,i,sl,k,m,f⟩:=F;refine{wa0 hl g,n,i,sl,k,m,?_};rcases f with f |⟨T,o,p,a,b,c,d⟩
 .exact .inl f
 .exact .inr {T,o,p,a,wa0 hl b,c,d}
theorem eK.f{H:Hp}{a:Addr}{o:Obj}{kvs:List (Key×V)}{k:Key}(e:H a=some (.frz o (.dK kvs))):eK H a (kV k) (cR kvs k):=.inl {kvs,k,.inr ⟨o,e⟩,rfl,rfl}
noncomputable def pj(f:Str->V)(ks:List Str):List (Key×V):=ks.map λp=>((wac p:Key),f p)
theorem sx(f:Str->V)(h:k∈ks):cR (pj f ks) (wac k:Key)=some (f k):=by
 induction ks with
 |nil=>simp at h
 |cons j ks a=>
  by_cases e:j=k
  .subst e;exact fg rfl
  .unfold pj;rw[wab,fh (λz=>e (wcL z))];exact a (by grind)
theorem y3(f:Str->V)(ks:List Str):(pj f ks).length=ks.length:=by unfold pj;rw[ZI]
theorem vx(f:Str->V)(ks:List Str)(k:Str):pj f (ks++[k])=pj f ks++[((wac k:Key),f k)]:=by unfold pj;rw[wa1];rfl
noncomputable def Hf(f:Str->Int):V->V:=λv=>match v with
 |.str z=>.int (f z)
 |_=>.non
theorem pq(f:Str->Int)(g:List Str):(g.map V.str).map (Hf f)=(g.map f).map V.int:=by
 rw[ZV,ZV];rfl
theorem y7{R:It->Hp->Prop}(h:g d=some (.dK kvs)\/∃o,g d=some (.frz o (.dK kvs)))
 (k:∀o j,j d=some (.frz o (.dK kvs))->(∀c,c≠d->j c=g c)->R (He d o kvs) j) :
 (g d=some (.dK kvs)/\∀o,R (He d o kvs) (upd g d (.frz o (.dK kvs))))\/∃o,g d=some (.frz o (.dK kvs))/\R (He d o kvs) g:=by
 rcases h with h |⟨o,h⟩
 .exact .inl {h,λo=>k o _ a6 λc hc=>ae hc}
 .exact .inr {o,h,k o _ h λc _=>rfl}
theorem bu.keep(t:bu H j g)(k:∀r xs,H r=some (.tup xs)->l r=some (.tup xs)):bu l j g:={t.1,λi r xs a b=>k _ _ (t.2 i r xs a b)}
theorem eK.rd{H:Hp}{a:Addr}{kvs:List (Key×V)}{k:Key}(e:Rd H a (.dK kvs)):eK H a (kV k) (cR kvs k):=.inl ⟨kvs,k,e,rfl,rfl⟩
theorem Cp(h:sq kvs=true)(e:cR kvs k=some v):d9 v=true:=by
 unfold cR at e
 cases q:kvs.find? λa=>decide (a.1=k) with
 |none=>rw[q]at e;cases e
 |some a=>
  rw[q]at e;have:=waq.mp h a (List.mem_of_find?_eq_some q);cases e;exact this
theorem mS{α:Type}(p:Nat->Bool)(x:α):∀(k:Nat) (xs:List α),bf p k (xs++[x])=bf p k xs++(if p (k+xs.length) then[x] else[])
 |k,[]=>by
  show (if p k then x::[] else[])=[]++_;rw[wh8];rfl
 |k,y::xs=>by
  have e:k+(y::xs).length=k+1+xs.length:=by grind
  rw[e];show (if p k then y::bf p (k+1) (xs++[x]) else bf p (k+1) (xs++[x]))=(if p k then y::bf p (k+1) xs else bf p (k+1) xs)++_;rw[mS p x (k+1) xs];cases p k<;>rfl
theorem lK{α:Type}(p:Nat->Bool):∀(k:Nat) (xs:List α),(bf p k xs).length<=xs.length
 |_,[]=>ZS _
 |k,x::xs=>by
  have:=lK p (k+1) xs;show (if p k then x::bf p (k+1) xs else bf p (k+1) xs).length<=xs.length+1
  cases p k with
  |true=>grind
  |false=>grind
theorem vy{α β:Type}(f:α->β)(p:Nat->Bool):∀(k:Nat) (xs:List α),bf p k (xs.map f)=(bf p k xs).map f
 |_,[]=>rfl
 |k,x::xs=>by
  show (if p k then f x::bf p (k+1) (xs.map f) else bf p (k+1) (xs.map f))=(if p k then x::bf p (k+1) xs else bf p (k+1) xs).map f;rw[vy f p (k+1) xs];cases p k<;>rfl
theorem under(n:Nat){P:Int->Prop}(h:∀k:Fin n,P ((k.val:Nat):Int))(d:Int)(a:0<=d)(b:d<(n:Int)):P d:=by
 obtain⟨k,rfl⟩:=wf3 a;exact h {k,Int.ofNat_lt.mp b}
theorem ax{X:Cx}(ys:List Str)(ix:List Nat)(h:mQ X.env.scope scope X.N x ys ix=true:=by kernel_rfl):bP X scope x ys ix:=zK rfl rfl h
theorem Ep{H:Hp}{q:Str×Nat}{e:Value->Bool}(he:∀c p,H c=some (.tup (pQ p))->e (.ref c)=decide (p=q)):∀{g:List Addr} {prs:List (Str×Nat)},bu H g (prs.map pQ)->(g.map ZY).countP e=prs.count q/\(g.map ZY).any e=decide (q∈prs)
 |[],[],_=>⟨rfl,rfl⟩
 |[],p::prs,h=>nomatch h.1
 |r::g,[],h=>nomatch h.1
 |r::g,p::prs,h=>by
  have h0:H r=some (.tup (pQ p)):=h.2 0 r _ rfl rfl;have hs:bu H g (prs.map pQ):={wgm h.1,λi a b d f=>h.2 (i+1) a b d f};obtain⟨j,k⟩:=Ep he hs;rw[wab,List.countP_cons,wce,he r p h0,j,k,wh9];refine{?_,?_}
  .by_cases c:p=q<;>simp[c]
  .by_cases c:p=q
   .simp[c]
   .simp[c,wb4 c]
end
section
variable{M:Model}{A:Around}{E:Value->Shared->Prop}{s:Shared}{base:Heap}{env:Env}{outer:List Env}{L e C:Addr}{od:Option Addr}{lo:Nat}{H:Hp}
structure Cq(lo:Nat)(H:Hp)(fs:List Addr)(h h':Heap):Prop where
 keep:∀b o,h.get? b=some o->(b<lo\/H b≠none)->b∉fs->h'.get? b=some o
 slot:∀b o,h.get? b=some o->b∈fs->∃sl,h'.get? b=some {o with slots:=sl}
theorem vz{Q:Unit->Shared->Prop}
 (MN:A.frames=some (env::outer)) (hl:s.heap.FunFrames base (env::outer)) (hf:env.frame=some L) (MO:lo<=s.heap.objs.size) (MP:∀b,s.heap.objs.size<=b->H b=none) (Om:lo<=e) (Sn:H e=none)
 (he:s.heap.get? e=some oe) (xR:oe.cls=.ref C) (Sq:oe.dict=od) (hd:oe.data=.fields vs) (hsz:1<vs.size)
 (h:∀h',GB lo H h' e C od->Cq lo H ((env::outer).filterMap (·.frame)) s.heap h'->Q .unit {s with heap:=h'}) :
 wpAny M A (do let a <-frameOf env;let pl <-entryPlaceOf L Oo;let b <-wg8 head a .none (rawInt L) .none pl;setField (.ref e) 1 b) (λ_ s'=>wpAny M A (wff (.ref e) none) Q E s') E s:=by
 have MQ:e∉(env::outer).filterMap (·.frame):=λhm=>by
  obtain⟨_,o,ho,PF⟩:=hl.mem hm;rw[he]at ho;injection ho with ho;subst ho;exact PF vs hd
 refine ZN (wpAny_frameOf_fun MN hl hf λh₁ MR=>?_);refine ZN (wpAny_entryPlaceOf λpl hpl=>?_);unfold wg8 newFields;refine ZN (weC ?_ (hpl.sizeOk5 _ _ _ _ _));have Sr:h₁.get? e=some oe:=(MR.2.1 e MQ).trans he;have Ss:=ZQ (h:=h₁) {cls:=.type "traceback",dict:=none,data:=.fields ([head,.ref L,.none,rawInt L,.none]++(if pl.isEmpty then wag 6 wbb else pl)).toArray} Sr;refine wej Ss hd hsz ?_;have PH:h₁.objs.size≠e:=wc3 (ZX Sr);have Su:=wcF hd (·.setIfInBounds 1 (ZY h₁.objs.size));have Sv:=wbd (wcA (·.setIfInBounds 1 (ZY h₁.objs.size))) Ss (wdS Su)
 have Sw:=(wat (h₁.push {cls:=.type "traceback",dict:=none,data:=.fields ([head,.ref L,.none,rawInt L,.none]++(if pl.isEmpty then wag 6 wbb else pl)).toArray})
  (wcA (·.setIfInBounds 1 (ZY h₁.objs.size))) (wb4 PH)).trans (wa9 h₁ rfl)
 unfold wff;refine ZN (wdE Sv Su (x:=.ref h₁.objs.size) (by simp[hsz]) ?_);rw[if_pos (show (ZY h₁.objs.size != wbb)=true from by simp)];refine wej Sw rfl (by simp only[wa3,ZP,wan,wfe]<;>lia) (h _ ?_ ?_)
 .refine{Om,Sn,vs.setIfInBounds 1 (.ref h₁.objs.size),oe.slots,?_,by simpa using hsz,.inr {h₁.objs.size,_,_,by simp[hsz],by rw[MR.1];exact MO,MP _ (by rw[MR.1];exact ZS _),PH,
   wbd _ Sw (wdS (wcF rfl _)),wcF rfl _,by first |(simp;done) |(rcases hpl with rfl |⟨_,_,_,_,_,_,_,rfl⟩<;>simp)}}
  rw[wat _ _ PH,Sv];obtain⟨c,d,dt,sl⟩:=oe;dsimp only at xR Sq hd;subst xR Sq hd;rfl
 .have keep:∀b o,b≠e->h₁.get? b=some o ->
   (((h₁.push {cls:=.type "traceback",dict:=none,data:=.fields ([head,.ref L,.none,rawInt L,.none]++(if pl.isEmpty then wag 6 wbb else pl)).toArray}).update e (wcA (·.setIfInBounds 1 (ZY h₁.objs.size)))).update h₁.objs.size
     (wcA (·.setIfInBounds 3 ((none:Option Addr).elim wbb λf=>rawInt f)))).get? b=some o:=λb o V4 hb=>by
   have V5:h₁.objs.size≠b:=wc3 (ZX hb);rw[wat _ _ V5,wat _ _ (wb4 V4)];exact ZQ _ hb
  refine{λb o hb hx PF=>keep b o ?_ ((MR.2.1 b PF).trans hb),λb o hb hm=>?_}
  .rintro rfl;rcases hx with hx |hx
   .exact absurd (wa7 hx Om) (waW _)
   .exact hx Sn
  .obtain⟨sl,hs⟩:=MR.2.2 b o hb;exact{sl,keep b _ (λz=>MQ (z ▸ hm)) hs}
theorem y8{Q:Unit->Shared->Prop}(p:A.frames=some (env::outer))(hl:s.heap.FunFrames base (env::outer))(I:env.frame=some L)(r:lo<=s.heap.objs.size)(g:∀b,s.heap.objs.size<=b->H b=none)
 (F:GB lo H s.heap e C od) (h:∀h',GB lo H h' e C od->Cq lo H ((env::outer).filterMap (·.frame)) s.heap h'->Q .unit {s with heap:=h'}) :
 wpAny M A (noteFrame (.ref e) env) (λ_ s'=>wpAny M A (wff (.ref e) none) Q E s') E s:=by
 obtain⟨m,n,z,sl,v,t,k⟩:=F;unfold noteFrame;simp only[I];rcases k with k |⟨T,N,B,G,u,x,y,w,i,k⟩
 .refine ZN (wdE v rfl k ?_);rw[if_neg ⋯];exact vz p hl I r g m n v rfl rfl rfl t h
 .refine ZN (wdE v rfl G ?_);rw[if_pos (show (ZY T != wbb)=true from by simp)];refine ZN (wdE w i k ?_);rw[if_neg (show ¬((wbb==rawInt L)=true) from by simp[rawInt])];refine ZN (wej w i (weu.mp k).1 ?_);have other:∀b,b≠T->(s.heap.update T (wcA (·.setIfInBounds 3 wbb))).get? b=s.heap.get? b:=λb a=>wat _ _ (wb4 a)
  have c:∀b o,s.heap.get? b=some o->(∀z,o.data≠.fields z)->b≠T:=λb o a d q=>by
   rw[q,w]at a;injection a with a;subst a;exact d B i
  have f:(s.heap.update T (wcA (·.setIfInBounds 3 wbb))).objs.size=s.heap.objs.size:=Heap.size_after_update ..;refine vz (s:={s with heap:=s.heap.update T (wcA (·.setIfInBounds 3 wbb))}) p (hl.of_keeps λb o a d=>{o,(other b (c b o a d)).trans a,rfl}) I (by show lo<=_;rw[f];exact r) (λb a=>g b (by rw[<-f];exact a)) m n ((other e (wb4 y)).trans v) rfl rfl rfl t λh' J P=>h h' J {λb o a l hn=>P.keep b o ((other b ?_).trans a) l hn,λb o a D=>P.slot b o ((other b ?_).trans a) D}
  .rintro rfl;rcases l with l |l
   .exact absurd (wa7 l u) (waW _)
   .exact l x
  .rintro rfl;obtain⟨_,O,j,d⟩:=hl.mem D;rw[w]at j;injection j with j;subst j
   exact d B i
theorem sy{Q:Unit->Shared->Prop}(F:GB lo H s.heap e C od)(h:∀h',GB lo H h' e C od->(∀b o,s.heap.get? b=some o->(b<lo\/H b≠none)->h'.get? b=some o)->Q .unit {s with heap:=h'}) :
 wpAny M A (wff (.ref e) none) Q E s:=by
 obtain⟨g,i,p,sl,n,j,f⟩:=F;unfold wff;rcases f with f |⟨T,v,u,r,a,k,l,t,d,f⟩
 .refine ZN (wdE n rfl f ?_);rw[if_neg ⋯];exact waa (h _ {g,i,p,sl,n,j,.inl f} λb o q _=>q)
 .have c:3<u.size:=(weu.mp f).1;refine ZN (wdE n rfl r ?_);rw[if_pos (show (ZY T != wbb)=true from by simp)];refine wej t d c (h _ {g,i,p,sl,?_,j,.inr {T,_,_,r,a,k,l,wbd _ t (wdS (wcF d _)),wcF d _,by simp[c]}} λb o q m=>?_)
  .exact(wat _ _ l).trans n
  .refine(wat _ _ ?_).trans q;rintro rfl;rcases m with m |m
   .exact absurd (wa7 m a) (waW _)
   .exact m k
end
section
variable(P:wad)(w:World)
def bZ(H:Hp)(h:Heap)(a:Addr):HO->Prop
 |.lst xs=>xs.length<=sizeLine/\∃(its:List Value) (n:Nat),Vals xs its/\h.get? a=some {cls:=.type "list",data:=.seq its.toArray n}
 |.tup xs=>xs.length<=sizeLine/\∃its:List Value,Vals xs its/\IsTup h a its.toArray
 |.dK kvs=>kvs.length<=sizeLine/\(a==wcG)=false/\∃vs,KV kvs vs/\h.DictOf (bF P w) a vs
 |.dT kvs=>kvs.length<=sizeLine/\(a==wcG)=false/\∃xs:List (List Key×Addr×Value),
   Paired (λ(p:List Key×V) (q:List Key×Addr×Value)=>p.1=q.1/\H q.2.1=some (.tup (p.1.map kV))/\RelV p.2 q.2.2) kvs xs /\
   ∃o es ep,h.get? a=some o/\o.ExactDict/\o.data=.dict es ep/\es.toList=xs.map (entryOfKey (wfg (bF P w)))/\(xs.map (·.1)).Nodup
 |.set S n=>h.SetOf (intKind P w) a S n
 |.ins C dx fs=>H dx=some (.own a)/\fs.length<=1000/\dx≠a/\h.get? a=some (wbO C dx) /\
   ∃mA,h.Ns1 dx mA/\(∀f,j7 (fs.lookup f) (mA f))/\wdf mA (fs.map (·.1))
 |.own _=>∃o,h.get? a=some o
 |.xd fs=>∃mA,h.Ns1 a mA/\∀f,j7 (fs.lookup f) (mA f)
 |.rng lo hi=>∃t u v,h.get? a=some {cls:=.type "range",data:=.fields #[.int lo t,.int hi u,.int 1 v]}
 |.frz o u=>h.get? a=some o/\bZ H h a u
 |.tbl ps=>h.get? a=some {cls:=.none,data:=.fields ps}
 |.met f x=>h.get? a=some (weD (.ref f) (.ref x))
 |.ext φ=>φ h/\(∃o,h.get? a=some o)/\∀h1 h2:Heap,φ h1->(∀o,h1.get? a=some o->h2.get? a=some o)->φ h2
def jb(H:Hp)(h:Heap):Prop:=∀a o,H a=some o->bZ P w H h a o
end
section
variable{ta tb tc:TE}
theorem Rd.ok{P:wad}{w:World}{H:Hp}{h:Heap}{a:Addr}{u:HO}(r:Rd H a u)(x:jb P w H h):bZ P w H h a u:=by
 rcases r with r |⟨o,r⟩
 .exact x a u r
 .obtain⟨_,q⟩:=x a _ r;exact q
structure Inv(X:Cx)(pins:List (Addr×Obj))(σ:List (Option V))(H:Hp)(s:Shared):Prop where
 ok:X.Ok
 os:s.os=X.s₀.os
 bare:AllBare s.gens
 base:Un X.fs X.ex X.H₀ H X.s₀.heap s.heap
 loc:∃m,s.heap.Ns X.env.locals m/\∀(i:Nat) (x:Str) (v:V),X.N[i]?=some x->σ[i]?=some (some v)->Mj X.env.scope x->∃u,RelV v u/\Look X.env s.heap m x u
 cell:∀x c,X.env.cells.lookup x=some c->∃v,s.heap.IsCell c v
 free:H X.env.locals=none
 iM:∀x c,X.env.cells.lookup x=some c->H c=none
 pin:∀p∈X.pn++pins,s.heap.get? p.1=some p.2/\H p.1=none/\p.1≠X.env.locals/\p.1∉X.fs/\∀v,p.2.data≠.cell v
 bc:jb X.prog X.w H s.heap
 len:σ.length=X.N.length
def EP(X:Cx)(pins:List (Addr×Obj))(σ:St)(Q:VK)(u:Value)(s':Shared):Prop:=∃v H',Inv X pins σ H' s'/\RelV v u/\Q v H'
def TP(X:Cx)(pins:List (Addr×Obj))(σ:St)(Q:Bool->Hp->Prop)(b:Bool)(s':Shared):Prop:=∃H',Inv X pins σ H' s'/\Q b H'
def AP(X:Cx)(pins:List (Addr×Obj))(σ:St)(Q:List V->Hp->Prop)(us:List Value)(s':Shared):Prop:=∃vs H',Inv X pins σ H' s'/\Vals vs us/\Q vs H'
abbrev PE(X:Cx)(e:Expr)(t:TE):Prop:=Bx (∀(pins:List (Addr×Obj)) (s:Shared) (σ:St) (H:Hp) (Q:VK),Inv X pins σ H s->t σ H Q->wpAny (model X.prog X.w) X.A (eval e X.env) (EP X pins σ Q) X.xe s)
abbrev PT(X:Cx)(e:Expr)(t:TT):Prop:=Bx (∀(pins:List (Addr×Obj)) (s:Shared) (σ:St) (H:Hp) (Q:Bool->Hp->Prop),Inv X pins σ H s->t σ H Q->wpAny (model X.prog X.w) X.A (isTrue e X.env (eval e X.env)) (TP X pins σ Q) X.xe s)
abbrev PW(X:Cx)(e:Expr)(t:TT):Prop:=Bx (∀(whole:Sem Value) (pins:List (Addr×Obj)) (s:Shared) (σ:St) (H:Hp) (Q:Bool->Hp->Prop),Inv X pins σ H s->t σ H Q->wpAny (model X.prog X.w) X.A (isTrue e X.env whole) (TP X pins σ Q) X.xe s)
theorem PW.pt{X:Cx}{e:Expr}{t:TT}(h:PW X e t):PT X e t:={h _}
abbrev PA(X:Cx)(es:List Expr)(t:TA):Prop:=Bx (∀(pos:Pos) (pins:List (Addr×Obj)) (s:Shared) (σ:St) (H:Hp) (Q:List V->Hp->Prop),Inv X pins σ H s->t σ H Q->wpAny (model X.prog X.w) X.A (spliced (backTo pos (starEach es X.env))) (AP X pins σ Q) X.xe s)
abbrev PG(X:Cx)(target:Expr)(t:TG):Prop:=Bx (∀(pins:List (Addr×Obj)) (s:Shared) (σ:St) (H:Hp) (v:V) (u:Value) (Q:St->Hp->Prop),Inv X pins σ H s->RelV v u->t v σ H Q ->
  wpAny (model X.prog X.w) X.A (assign target X.env u) (λ_ s'=>∃σ' H',Inv X pins σ' H' s'/\Q σ' H') X.xe s)
abbrev Oq(X:Cx)(ts:List Expr)(t:Oi):Prop:=Bx (∀(pins:List (Addr×Obj)) (s:Shared) (σ:St) (H:Hp) (vs:List V) (us:List Value) (Q:St->Hp->Prop),Inv X pins σ H s->Vals vs us->t vs σ H Q ->
  wpAny (model X.prog X.w) X.A (assignInOrder ((wcX ts X.env).map (·.2)) us) (λ_ s'=>∃σ' H',Inv X pins σ' H' s'/\Q σ' H') X.xe s)
def MS(X:Cx)(t:K1):Prop:=
 ∀(pins:List (Addr×Obj)) (s:Shared) (σ:St) (H:Hp) (o i v:V) (ov iv u:Value) (Q:Hp->Prop),Inv X pins σ H s->RelV o ov->RelV i iv->RelV v u->t o i v H Q ->
  wpAny (model X.prog X.w) X.A (setItem ov iv u) (λ_ s'=>∃H',Inv X pins σ H' s'/\Q H') X.xe s
def Ot(X:Cx)(op:Operator)(t:Ml):Prop:=
 ∀(pins:List (Addr×Obj)) (s:Shared) (σ:St) (H:Hp) (x y:V) (v u:Value) (Q:VK),Inv X pins σ H s->RelV x v->RelV y u->t x y H Q ->
  wpAny (model X.prog X.w) X.A (inplaceOp op v u) (EP X pins σ Q) X.xe s
structure Turn(P:wad)(w:World)(K:ZK)(tg:Expr)(J:It)(fp:List Addr)(it:Addr)(tn:Nat->Heap->Prop):Prop where
 mem:it∈fp
 obj:∀i h,tn i h->∀b∈fp,∃o,h.get? b=some o/\∀v,o.data≠.cell v
 keep:∀i h h',tn i h->(∀b∈fp,∀o,h.get? b=some o->h'.get? b=some o)->tn i h'
 item:∀(X:Cx),X.prog=P->X.w=w->X.K=K->X.calm=true->∀(i:Nat) (pins:List (Addr×Obj)) (s:Shared) (σ:St) (H:Hp) (E:Value->Shared->Prop),Inv X pins σ H s->(∀b∈fp,si X pins H b)->tn i s.heap->J.go i H ->
  wpAny (model P w) X.A (pyNext (.ref it)) (λr s1=>∃u,r=some u /\
   wpAny (model P w) X.A (wdZ tg (.ref it) u) (λ_ s2=>∃x H',Inv X pins σ H' s2/\RelV x u/\J.uC i H x H'/\tn (i+1) s2.heap/\∀b∈fp,H' b=none) E s1) E s
 done:∀(X:Cx),X.prog=P->X.w=w->X.K=K->X.calm=true->∀(i:Nat) (pins:List (Addr×Obj)) (s:Shared) (σ:St) (H:Hp) (E:Value->Shared->Prop),Inv X pins σ H s->(∀b∈fp,si X pins H b)->tn i s.heap->J.stop i H ->
   wpAny (model P w) X.A (pyNext (.ref it)) (λr s1=>r=none/\Inv X pins σ H s1) E s
 self:∀(A:Around) (i:Nat) (s:Shared) (Q:Value->Shared->Prop) (E:Value->Shared->Prop),tn i s.heap->Q (.ref it) s->wpAny (model P w) A (pyIter (.ref it)) Q E s
def MT(X:Cx)(pins:List (Addr×Obj))(σ:St)(tg:Expr)(R:It->Hp->Prop)(PL:Value)(s2:Shared):Prop:=
 ∃(it:Addr) (fp:List Addr) (tn:Nat->Heap->Prop) (J:It) (H':Hp),PL=.ref it/\Inv X pins σ H' s2/\Turn X.prog X.w X.K tg J fp it tn/\tn 0 s2.heap/\(∀b∈fp,si X pins H' b)/\R J H'
abbrev PI(X:Cx)(tg iter:Expr)(wi:TI):Prop:=Bx (∀(pins:List (Addr×Obj)) (s:Shared) (σ:St) (H:Hp) (R:It->Hp->Prop),Inv X pins σ H s->wi σ H R ->
  wpAny (model X.prog X.w) X.A (eval iter X.env) (λv s1=>wpAny (model X.prog X.w) X.A (pyIter v) (MT X pins σ tg R) X.xe s1) X.xe s)
def jc(X:Cx)(f:Value->Value->Sem Value)(r:R2):Prop:=
 ∀(pins:List (Addr×Obj)) (s:Shared) (σ:St) (H:Hp) (x y:V) (v u:Value) (Q:VK),Inv X pins σ H s->RelV x v->RelV y u->r x y H Q ->
  wpAny (model X.prog X.w) X.A (f v u) (EP X pins σ Q) X.xe s
def PN(X:Cx)(f:Value->Sem Value)(r:V->Hp->VK->Prop):Prop:=
 ∀(pins:List (Addr×Obj)) (s:Shared) (σ:St) (H:Hp) (x:V) (v:Value) (Q:VK),Inv X pins σ H s->RelV x v->r x H Q ->
  wpAny (model X.prog X.w) X.A (f v) (EP X pins σ Q) X.xe s
theorem GR.ok{i j:Int}(h:GR i j):IntMulOk i j:=by
 rcases h with⟨a,b⟩ |⟨a,b⟩
 .exact .of_left (intBits_le_64 a b)
 .exact .of_right (intBits_le_64 a b)
def Kb(r r':R2)(ta tb tc:TE):TE:=λσ H Q=>ta σ H λx H1=>tb σ H1 λy H2=>r x y H2 λz H3=>∃k,z=.bl k /\
 (if k=true then tc σ H3 λw' H4=>r' y w' H4 Q else Q (.bl false) H3)
def CE(outer:List Env)(P:wad)(w:World)(H:Hp)(s:Shared)(Q:VK)(u:Value)(s':Shared):Prop:=
 ∃v H',s'.os=s.os/\AllBare s'.gens/\Un (pY outer) [] H H' s.heap s'.heap/\jb P w H' s'.heap/\RelV v u/\Q v H'
def CR(CX:DV)(outer:List Env)(P:wad)(w:World)(H:Hp)(s:Shared)(Q:VK)(E:XK)(r:wdF)(s':Shared):Prop:=
 match r with
 |.ok (.ret u)=>CE outer P w H s Q u s'
 |.ok _=>False
 |.error e=>CX outer H s E e s'
abbrev PK(X:Cx)(V6:List weP)(t:TA):Prop:=Bx (∀(pos:Pos) (pins:List (Addr×Obj)) (s:Shared) (σ:St) (H:Hp) (Q:List V->Hp->Prop),Inv X pins σ H s->t σ H Q->wpAny (model X.prog X.w) X.A (evalAll ((backToKw pos (wcm V6 X.env)).map (·.2))) (AP X pins σ Q) X.xe s)
abbrev PO(X:Cx)(e:Option Expr)(t:TO):Prop:=Bx (∀(pins:List (Addr×Obj)) (s:Shared) (σ:St) (H:Hp) (Q:Option Int->Hp->Prop),Inv X pins σ H s->t σ H Q ->
  wpAny (model X.prog X.w) X.A (evalPart e X.env) (λu s'=>∃o H',Inv X pins σ H' s'/\IsPart u o/\Q o H') X.xe s)
def LY(X:Cx)(r:R2):Prop:=
 ∀(value slice:Expr) (pins:List (Addr×Obj)) (s:Shared) (σ:St) (H:Hp) (x y:V) (v u:Value) (Q:VK),Inv X pins σ H s->RelV x v->RelV y u->r x y H Q ->
  wfn slice false v u=operate [v,u] (getItem v u)->wpAny (model X.prog X.w) X.A (wg4 value slice v u) (EP X pins σ Q) X.xe s
theorem sA(h:Heap)(g:wcG<h.objs.size):bZ P w H (h.push {cls:=.type "dict",data:=.dict #[]}) h.objs.size (.dK []):=
 {wal _,beq_eq_false_iff_ne.mpr (wb4 (wa8 g)),[],.nil,Heap.DictOf.new h}
abbrev Ou(X:Cx)(pos:Pos)(keys:List (Option Expr))(values:List Expr)(PD:List (TE×TE)):Prop:=Bx (∀(pins:List (Addr×Obj)) (s:Shared) (σ:St) (H:Hp) (Q:List (V×V)->Hp->Prop),Inv X pins σ H s->zE PD σ H Q ->
  wpAny (model X.prog X.w) X.A (evalPairs (pairTrees keys values X.env pos)) (λvs s'=>∃ps H',Inv X pins σ H' s'/\VV ps vs/\Q ps H') X.xe s)
theorem Bp{X:Cx}:Ou X pos [] [] []:={λa s σ H Q I h=>pairTrees_nil_walk {[],H,I,.nil,h}}
theorem ya{X:Cx}(hk:PE X k tk)(j:PE X v l)(p:Ou X pos ks vs g) :
 Ou X pos (some k::ks) (v::vs) ((tk,l)::g):={λa s σ H Q I h=>
 pairTrees_cons_walk (bS (hk a s σ H _ I h) λu b ⟨x,c,d,e,f⟩=>bS (j a b σ c _ d f) λz i ⟨y,m,n,o,q⟩=>
  bS (p a i σ m _ n q) λws A ⟨ps,r,t,rel,w⟩=>{(x,y)::ps,r,t,.cons ⟨e,o⟩ rel,w})}
noncomputable def yc(P:wad)(w:World):DV:=λouter H s E ev s'=>∃e C od H',ev=.ref e/\s'.os=s.os/\AllBare s'.gens/\Un (pY outer) [] H H' s.heap s'.heap/\jb P w H' s'.heap/\GB s.heap.objs.size H' s'.heap e C od/\E (.ref C) od H'
def Bq(X:Cx)(E:XK):Prop:=∀(pins:List (Addr×Obj)) (σ:St) (H:Hp) (s:Shared) (e C:Addr) (od:Option Addr),Inv X pins σ H s->GB X.s₀.heap.objs.size H s.heap e C od->E (.ref C) od H->X.xe (.ref e) s
abbrev PJ(X:Cx)(es:List Expr)(t:TJ):Prop:=Bx (∀(pins:List (Addr×Obj)) (s:Shared) (σ:St) (H:Hp) (acc:Str) (Q:Str->Hp->Prop),Inv X pins σ H s->t acc σ H Q ->
 wpAny (model X.prog X.w) X.A (joinParts acc (evalEach es X.env)) (λu s'=>∃z H',Inv X pins σ H' s'/\(∃tk,u=.str z tk)/\Q z H') X.xe s)
end
section
variable{X:Cx}{pins:List (Addr×Obj)}{σ:List (Option V)}{H H':Hp}{s:Shared}{h':Heap}
theorem Cx.Ok.PQ(ok:X.Ok)(e:X.base.get? b=some o):b∉X.fs:=λa=>by
 have:=(ok.nE.mem a).1;rw[e]at this;cases this
theorem Inv.bs(I:Inv X pins σ H s):∀b o,X.base.get? b=some o->s.heap.get? b=some o/\H b=none:=λb o e=>
 {I.base.keep b o (I.ok.bs b o e).1 (I.ok.bs b o e).2 (I.ok.PQ e) (I.ok.zA b o e),I.base.free b o (I.ok.bs b o e).1 (I.ok.bs b o e).2 (I.ok.zA b o e)}
theorem Inv.bk(I:Inv X pins σ H s):∀b o,X.base.get? b=some o->s.heap.get? b=some o:=λb o e=>(I.bs b o e).1
theorem Inv.mod(I:Inv X pins σ H s):Mod X.K X.mg X.base:=I.ok.mod
theorem Inv.gC(I:Inv X pins σ H s):X.K.In s.heap:=I.ok.mod.Je.keeps I.bk
theorem Inv.Kc(I:Inv X pins σ H s):∀x c,X.env.cells.lookup x=some c->c≠X.env.locals:=λx c e z=>by
 obtain⟨v,o,d,hd⟩:=I.cell x c e;obtain⟨m,⟨f,g,h,a,b,_⟩,_⟩:=I.loc;rw[z,a]at d;cases d;rw[b]at hd;cases hd
theorem Inv.nE(I:Inv X pins σ H s):s.heap.FunFrames X.base X.outer:=by
 have all:∀(l:List Env),(∀b∈pY l,b∈X.fs)->X.s₀.heap.FunFrames X.base l->s.heap.FunFrames X.base l:=by
  intro l
  induction l with
  |nil=>intro _ _;trivial
  |cons env r f=>
   intro hs hl;obtain⟨hk,⟨L,o,a,hn,g,hd⟩,h⟩:=hl;have c:L∈X.fs:=hs L (by unfold pY;rw[waU,a];exact ZZ);obtain⟨sl,e⟩:=I.base.slot L o g (I.ok.GP L c) c λz=>I.ok.Cb L z c;exact{hk,{L,_,a,hn,e,hd},f (λb d=>hs b (by unfold pY;rw[waU,a];exact ZW _ d)) h}
 exact all X.outer (λ_ d=>d) I.ok.nE
theorem Inv.stack(I:Inv X pins σ H s):s.heap.FunFrames X.base X.stack:=by
 rcases I.ok.LV with e |⟨e,a⟩
 .rw[e];exact I.nE
 .rw[e];obtain⟨m,hn,_⟩:=I.loc;refine .cons (by rw[I.ok.kind];decide) a hn ?_ I.nE;exact Heap.get?_none_of_le (wa0 I.ok.E5 I.ok.above)
theorem Inv.sC(I:Inv X pins σ H s):∀b∈pY X.stack,b∈X.env.locals::X.fs:=λb a=>by
 rcases I.ok.LV with e |⟨e,c⟩
 .grind
 .grind [pY]
theorem Inv.rQ(I:Inv X pins σ H s):∀b∈pY X.stack,H b=none:=λb a=>by
 rcases wao.mp (I.sC b a) with e |a
 .rw[e];exact I.free
 .obtain⟨_,o,c,_⟩:=I.ok.nE.mem a;exact I.base.free b o c (I.ok.GP b a) λz=>I.ok.Cb b z a
theorem Inv.step{g':Array wcS}{t':Nat}{d':Drawn}{ch:List Addr}(I:Inv X pins σ H s)
 (g:∀b∈ch,(b∈X.ex\/X.s₀.heap.objs.size<=b)/\b≠X.env.locals/\(∀x c,X.env.cells.lookup x=some c->c≠b)/\∀p∈X.pn++pins,p.1≠b)
 (keep:∀b o,b≠X.env.locals->b∉X.fs->b∉ch->s.heap.get? b=some o->H b=none->h'.get? b=some o)
 (slot:∀b o,b≠X.env.locals->b∈X.fs->b∉ch->s.heap.get? b=some o->H b=none->∃sl,h'.get? b=some {o with slots:=sl}) (free:∀b o,b∉ch->s.heap.get? b=some o->H b=none->H' b=none)
 (there:∀b o,b∉ch->s.heap.get? b=some o->∃C,h'.get? b=some C)
 (se:∀b xs,H b=some (.tup xs)->H' b=some (.tup xs)) (ry:∀b o u,H b=some (.frz o u)->H' b=some (.frz o u)) (sf:∀b ps,H b=some (.tbl ps)->∃more,H' b=some (.tbl (ps++more)))
 (ns:∀m,s.heap.Ns X.env.locals m->h'.Ns X.env.locals m) (bc:jb X.prog X.w H' h') (T:AllBare g') :
 Inv X pins σ H' {s with heap:=h',gens:=g',drawn:=d',toks:=t'}:=by
 have B:∀b o,X.s₀.heap.get? b=some o->b≠X.env.locals:=λb o e=>wa8 (wa7 (ZX e) I.ok.above)
 have j:∀b o,X.s₀.heap.get? b=some o->b∉X.ex->b∉ch:=λb o e a y=>by
  rcases(g b y).1 with z |z
  .exact a z
  .exact absurd (wa7 (ZX e) z) (waW _)
 have f:∀x c,X.env.cells.lookup x=some c->∀v,s.heap.IsCell c v->h'.IsCell c v:=λx c e v ⟨o,A,hd⟩=>by
  have h:c∉ch:=λz=>(g c z).2.2.1 x c e rfl
  by_cases hc:c∈X.fs
  .obtain⟨sl,q⟩:=slot c o (I.Kc x c e) hc h A (I.iM x c e);exact{_,q,hd}
  .exact{o,keep c o (I.Kc x c e) hc h A (I.iM x c e),hd}
 refine{I.ok,I.os,T,{λb o e n y a=>?_,λb o e n y a=>?_,λb o e n a=>?_,λb o e a=>?_,λb xs e=>se b xs (I.base.se b xs e),λb o xs e=>ry b o xs (I.base.ry b o xs e),λb ps e=>?_},?_,λx c e=>?_,?_,λx c e=>?_,λp G=>?_,bc,I.len}
 .exact keep b o (B b o e) y (j b o e a) (I.base.keep b o e n y a) (I.base.free b o e n a)
 .obtain⟨sl,t⟩:=I.base.slot b o e n y a;obtain⟨E,D⟩:=slot b _ (B b o e) y (j b o e a) t (I.base.free b o e n a);exact⟨E,D⟩
 .obtain⟨C,t⟩:=I.base.there b o e a;exact free b C (j b o e a) t (I.base.free b o e n a)
 .obtain⟨C,t⟩:=I.base.there b o e a;exact there b C (j b o e a) t
 .obtain⟨m1,t⟩:=I.base.sf b ps e;obtain⟨L,D⟩:=sf b _ t;exact{m1++L,by rw[D,Array.append_assoc]}
 .obtain⟨m,hn,hl⟩:=I.loc;refine{m,ns m hn,λi x v t D M=>?_};obtain⟨u,r,l⟩:=hl i x v t D M;refine{u,r,?_};rcases l with l |⟨k,c,e,z⟩
  .exact .inl l
  .exact .inr {k,c,e,f x c e _ z}
 .obtain⟨v,z⟩:=I.cell x c e;exact{v,f x c e v z}
 .obtain⟨m,⟨o,_,_,A,_⟩,_⟩:=I.loc;exact free _ o (λz=>(g _ z).2.1 rfl) A I.free
 .obtain⟨v,o,A,hd⟩:=I.cell x c e;exact free c o (λz=>(g c z).2.2.1 x c e rfl) A (I.iM x c e)
 .obtain⟨e,n,ne,J,d⟩:=I.pin p G;have h:p.1∉ch:=λz=>(g p.1 z).2.2.2 p G rfl;exact{keep p.1 p.2 ne J h e n,free p.1 p.2 h e n,ne,J,d}
theorem Inv.un{t':Nat}(I:Inv X pins σ H s)(u:Un X.fs [] H H' s.heap h')(bc:jb X.prog X.w H' h'):Inv X pins σ H' {s with heap:=h',toks:=t'}:=by
 obtain⟨m,⟨o,k,l,g,r⟩,_⟩:=id I.loc;obtain⟨sl,h⟩:=u.any g I.free (by simp)
 exact I.step (g':=s.gens) (d':=s.drawn) (ch:=[]) (λ_ z=>nomatch z) (λb o _ c _ e n=>u.keep b o e n c (by simp)) (λb o _ c _ e n=>u.slot b o e n c (by simp)) (λb o _ e n=>u.free b o e n (by simp)) (λb o _ e=>u.there b o e (by simp)) u.se u.ry u.sf (λp i=>by
  obtain⟨q,d,f,a,j⟩:=i;rw[g]at a;cases a
  exact{_,d,f,h,j}) bc I.bare
theorem Inv.call{g':Array wcS}{t':Nat}{d':Drawn}{ch:List Addr}(I:Inv X pins σ H s)(u:Un (pY X.stack) ch H H' s.heap h')(bc:jb X.prog X.w H' h')(j:AllBare g')
 (g:∀b∈ch,(b∈X.ex\/X.s₀.heap.objs.size<=b)/\b≠X.env.locals/\(∀x c,X.env.cells.lookup x=some c->c≠b)/\∀p∈X.pn++pins,p.1≠b) :
 Inv X pins σ H' {s with heap:=h',gens:=g',drawn:=d',toks:=t'}:=by
 obtain⟨m,⟨o,t,v,i,r⟩,_⟩:=id I.loc;obtain⟨sl,d⟩:=u.any i I.free λz=>(g _ z).2.1 rfl
 exact I.step (ch:=ch) g (λb o d k hc e n=>u.keep b o e n (λz=>(wao.mp (I.sC b z)).elim d k) hc) (λb o _ _ hc e n=>u.any e n hc) (λb o hc e n=>u.free b o e n hc) (λb o hc e=>u.there b o e hc) u.se u.ry u.sf (λy l=>by
  obtain⟨A,f,h,a,q⟩:=l;rw[i]at a;cases a
  exact{_,f,h,d,q}) bc j
theorem Inv.Br(I:Inv X pins σ H s)(h:∀p∈g,s.heap.get? p.1=some p.2/\H p.1=none/\p.1≠X.env.locals/\p.1∉X.fs/\∀v,p.2.data≠.cell v):Inv X g σ H s:=
 {I.ok,I.os,I.bare,I.base,I.loc,I.cell,I.free,I.iM,λp a=>(waj.mp a).elim (λz=>I.pin p (waG _ z)) (h p),I.bc,I.len}
theorem Inv.vA(I:Inv X pins σ H s)(j:s'.os=s.os)(u:Un (pY X.stack) ch H H' s.heap s'.heap)(bc:jb X.prog X.w H' s'.heap)(l:AllBare s'.gens)
 (g:∀b∈ch,(b∈X.ex\/X.s₀.heap.objs.size<=b)/\b≠X.env.locals/\(∀x c,X.env.cells.lookup x=some c->c≠b)/\∀p∈X.pn++pins,p.1≠b):Inv X pins σ H' s':=by
 obtain⟨h',g',d',t',a⟩:=s';have e:a=s.os:=j;subst e;exact I.call (g':=g') (t':=t') (d':=d') u bc l g
structure Ends where
 nx:St->Hp->Prop
 rt:VK
 bk:St->Hp->Prop:=λ_ _=>False
 ct:St->Hp->Prop:=λ_ _=>False
noncomputable abbrev Ends.Jo(D:Ends)(N:St->Hp->Prop):Ends:=⟨N,D.rt,D.bk,D.ct⟩
noncomputable abbrev Ends.lp(D:Ends)(N:St->Hp->Prop):Ends:=⟨N,D.rt,D.nx,N⟩
noncomputable abbrev TS:=Ends->St->Hp->Prop
theorem Kd(j:X.N[i]?=some x)(p:Mj X.env.scope x)(hd:(x==("__debug__":Str))=false:=by decide)(g:(x==("__classdict__":Str))=false:=by decide):PE X (.Name x pos) (GQ i):=by
 refine{?_};intro b s σ H Q I h;obtain⟨v,e,h⟩:=h;obtain⟨m,hn,hl⟩:=I.loc;obtain⟨u,r,l⟩:=hl i x v j e p;have fin:EP X b σ Q u s:=⟨v,H,I,r,h⟩;rcases l with⟨hk,d⟩ |⟨hk,c,hc,a⟩
 .exact wpAny_Name (wfR I.ok.kind hk hn d fin) hd
 .rcases hk with hk |hk
  .exact wpAny_Name (wg9 I.ok.kind hk hc a fin) hd
  .exact wpAny_Name (wpAny_loadName_free I.ok.kind hk hc a fin g) hd
theorem da{b j pos}:PE X (.Constant (.bool b) j pos) (tC (.bl b)):={λ_ _ _ H _ I h=>Constant_bool {.bl b,H,I,rfl,h}}
theorem iz{j pos}:PE X (.Constant .none j pos) (tC .non):={λ_ _ _ H _ I h=>Constant_none {.non,H,I,rfl,h}}
def Ke:TS:=λ_ _ _=>False
theorem dG:Oq X [] E6:=by
 refine{?_};intro a s σ H b c Q I r h;obtain⟨e,h⟩:=h;subst e;cases r;exact assignInOrder_nil ⟨σ,H,I,h⟩
theorem aU{e:Expr}{g:List Expr}{t:TG}{u:Oi}(j:PG X e t)(l:Oq X g u)
 (hs:(wcX (e::g) X.env).map (·.2)=assign e X.env::(wcX g X.env).map (·.2):=by rfl):Oq X (e::g) (k8 t u):=by
 refine{?_};intro a s σ H n o Q I r h;obtain⟨v,p,c,h⟩:=h;subst c
 cases r with
 |cons r d=>
  rw[hs];refine assignInOrder_cons (bS (j a s σ H _ _ _ I r h) λ_ f ⟨b,i,k,m⟩=>?_);exact l a f b i _ _ Q k d m
structure cU(k:Nat)(A:Around):Prop where
 hd:A.handled=none
 dp:A.depth+3*k+5<recursionLimit
 un:A.units+16*k+200<wbf
theorem cU.mono(r:cU k A)(h:j<=k):cU j A:={r.hd,by have:=r.dp;lia,by have:=r.un;lia}
theorem cU.deeper(r:cU (k+1) A)(env:Env):cU k (A.deeper env):=
 {r.hd,by have:=r.dp;show A.depth+1+3*k+5<_;lia,by have:=r.un;show A.units+3+16*k+200<_;lia}
theorem cU.make(r:cU (k+1) A)(C:Addr)(us:List Value)(g:List (Str×Value)):cU k (A.under (.builtin "type.__call__" {.ref C::us,g})):=
 {r.hd,by have:=r.dp;rw[zC];lia,by have:=r.un;rw[zD];lia}
theorem cU.depth(r:cU k A):A.depth<recursionLimit:=by have:=r.dp;lia
theorem cU.units(r:cU k A):A.units+64<wbf:=by have:=r.un;lia
theorem cU.wO(r:cU k A):A.units<wbf:=by have:=r.un;lia
theorem fM:PA X [] wI:={λ_ _ _ _ H Q I h=>Calls.spliced_nil {[],H,I,.nil,h}}
theorem gD:PO X none GU:=by
 refine{?_};intro a s σ H Q I h;rw[evalPart_none];exact waa {none,H,I,.none,h}
theorem sD:∀{kvs:List (Key×V)} {ws:List (Value×Value)},VV (kvs.map λj=>(kV j.1,j.2)) ws->∃g,Carries (bF P w) ws g/\KV kvs g
 |[],_,r=>by rw[we0]at r;cases r;exact{[],wbc,.nil}
 |p::kvs,_,r=>by
  rw[wab]at r
  cases r with
  |@cons a b as bs h t=>
   obtain⟨g,c,q⟩:=sD (P:=P) (w:=w) t;obtain⟨b1,d⟩:=b;exact{(p.1,d)::g,{vk h.1,rfl,c},.cons ⟨rfl,h.2⟩ q}
theorem eY(g:cU k A):A.units+1<wbf:=waI (wga (by decide:1<=64) _) g.units
theorem pv(i:Nat)(j:X.N[i]?=some x:=by rfl)(l:Mj X.env.scope x:=by first |exact wdg rfl |exact Or.inr (wdg rfl) |exact Or.inr (Or.inr rfl))(hd:(x==("__debug__":Str))=false:=by decide)
 (g:(x==("__classdict__":Str))=false:=by decide):PE X (.Name x pos) (GQ i):=Kd j l hd g
theorem q9:∀{us:List Value},Vals (bs.map V.bl) us->LSm.BoolsAre us bs:=by
 induction bs with
 |nil=>intro us r;rw[we0]at r;cases r;exact .nil
 |cons n ns a=>
  intro us r;rw[wab]at r
  cases r with
  |cons b c=>
   cases b;exact .cons n (a c)
noncomputable abbrev LZ:=(St->XK)->TS
theorem Er(g:cU k A):A.units+60<wbf:=waI (wga (by decide:60<=64) _) g.units
end
section
variable{te:TE}{tl th:TO}
noncomputable abbrev Ends.fn(Q:VK):Ends:={λ_ H'=>Q .non H',Q,λ_ _=>False,λ_ _=>False}
def SP(X:Cx)(pins:List (Addr×Obj))(D:Ends)(f:Flow)(s':Shared):Prop:=
 match f with
 |.next=>∃σ' H',Inv X pins σ' H' s'/\D.nx σ' H'
 |.brk=>∃σ' H',Inv X pins σ' H' s'/\D.bk σ' H'
 |.cont=>∃σ' H',Inv X pins σ' H' s'/\D.ct σ' H'
 |.ret u=>∃v σ' H',Inv X pins σ' H' s'/\RelV v u/\D.rt v H'
abbrev PS(X:Cx)(st:Stmt)(t:TS):Prop:=Bx (∀(pins:List (Addr×Obj)) (s:Shared) (σ:St) (H:Hp) (D:Ends),Inv X pins σ H s->t D σ H->wpAny (model X.prog X.w) X.A (exec st X.env) (SP X pins D) X.xe s)
abbrev uE(X:Cx)(st:List Stmt)(t:TS):Prop:=Bx (∀(pins:List (Addr×Obj)) (s:Shared) (σ:St) (H:Hp) (D:Ends),Inv X pins σ H s->t D σ H->wpAny (model X.prog X.w) X.A (execs st X.env) (SP X pins D) X.xe s)
theorem Cx.Ok.mL{X:Cx}(ok:X.Ok)(E:Value->Shared->Prop):(X.mL E).Ok:=
 ⟨ok.mod,ok.kind,ok.glob,ok.blt,ok.above,ok.inj,ok.has,ok.K0,ok.hd,ok.frames,ok.LV,ok.Oh,ok.bs,ok.E5,ok.zA,ok.Cb,ok.nE,ok.GP⟩
theorem Cx.Ok.fN{X:Cx}{E:Value->Shared->Prop}(ok:(X.mL E).Ok):X.Ok:=
 ⟨ok.mod,ok.kind,ok.glob,ok.blt,ok.above,ok.inj,ok.has,ok.K0,ok.hd,ok.frames,ok.LV,ok.Oh,ok.bs,ok.E5,ok.zA,ok.Cb,ok.nE,ok.GP⟩
def MU:TS:=λD σ H=>D.nx σ H
def MV(te:TE):TS:=λD σ H=>te σ H λ_ H1=>D.nx σ H1
def PR(te:TE):TS:=λD σ H=>te σ H D.rt
def Kf(c:TT)(tb:TS):TS:=λD σ H=>∃W:Nat->St->Hp->Prop,(∃m,W m σ H)/\∀m σ H,W m σ H ->
 c σ H λb H1=>if b=true then ∃N:St->Hp->Prop,(∀σ' H',N σ' H'->∃m',m'<m/\W m' σ' H')/\tb (D.lp N) σ H1 else D.nx σ H1
def MX(wi:TI)(g:TG)(tb:TS):TS:=λD σ H=>wi σ H λJ H1=>∃W:Nat->Nat->St->Hp->Prop,(∃m,W 0 m σ H1)/\∀i m σ H,W i m σ H ->
 (J.stop i H/\D.nx σ H)\/(J.go i H/\∃N:St->Hp->Prop,(∀σ' H',N σ' H'->∃m',m'<m/\W (i+1) m' σ' H')/\∀x H',J.uC i H x H'->g x σ H' λσ2 H2=>tb (D.lp N) σ2 H2)
theorem dJ{K:ZK}{a:Addr}{xs:List V}{g:TG}{C:TS}{D:Ends}{σ:St}{H:Hp}(Pv:Nat->St->Hp->Prop)(h0:Pv 0 σ H)(hl:∀i σ H,i<=xs.length->Pv i σ H->aK K H a xs)
 (hs:∀i x σ H,xs[i]?=some x->Pv i σ H->g x σ H λj t=>C (D.lp (Pv (i+1))) j t) (hd:∀σ H,Pv xs.length σ H->D.nx σ H) :
 ∃W:Nat->Nat->St->Hp->Prop,(∃m,W 0 m σ H)/\∀i m σ H,W i m σ H ->
  ((LW K a).stop i H/\D.nx σ H)\/((LW K a).go i H/\∃N:St->Hp->Prop,(∀l r,N l r->∃I,I<m/\W (i+1) I l r)/\∀x r,(LW K a).uC i H x r->g x σ r λj t=>C (D.lp N) j t):=by
 refine{λi m σ H=>m=xs.length-i/\i<=xs.length/\Pv i σ H,{xs.length,by simp,wal _,h0},?_};rintro i m σ H ⟨rfl,hi,p⟩;have q:=hl i σ H hi p
 by_cases b:i<xs.length
 .refine .inr {{xs,xs[i],q,by simp[b]},Pv (i+1),λl r c=>{xs.length-(i+1),by lia,rfl,b,c},λx r y=>?_};obtain⟨e,y⟩:=y;subst e;exact hs i x σ _ (y xs q) p
 .have e:i=xs.length:=by lia
  subst e;exact .inl {{xs,q,ZS _},hd σ H p}
theorem dh{lo:Int}{n:Nat}{g:TG}{C:TS}{D:Ends}{σ:St}{H:Hp}(Pv:Nat->St->Hp->Prop)(h0:Pv 0 σ H)
 (hs:∀i σ H,i<n->Pv i σ H->g (.int (lo+i)) σ H λj t=>C (D.lp (Pv (i+1))) j t) (hd:∀σ H,Pv n σ H->D.nx σ H) :
 ∃W:Nat->Nat->St->Hp->Prop,(∃m,W 0 m σ H)/\∀i m σ H,W i m σ H ->
  ((Jg lo n).stop i H/\D.nx σ H)\/((Jg lo n).go i H/\∃N:St->Hp->Prop,(∀l r,N l r->∃I,I<m/\W (i+1) I l r)/\∀x r,(Jg lo n).uC i H x r->g x σ r λj t=>C (D.lp N) j t):=by
 refine{λi m σ H=>m=n-i/\i<=n/\Pv i σ H,{n,by simp,wal _,h0},?_};rintro i m σ H ⟨rfl,hi,p⟩
 by_cases a:i<n
 .refine .inr {a,Pv (i+1),λl r b=>{n-(i+1),by lia,rfl,a,b},λx r y=>?_};obtain⟨e,y⟩:=y;subst e y;exact hs i σ _ a p
 .have e:i=n:=by lia
  subst e;exact .inl {ZS _,hd σ H p}
def dM(X:Cx)(f:Value)(r:List V->Hp->VK->Prop):Prop:=
 ∀(pins:List (Addr×Obj)) (s:Shared) (σ:St) (H:Hp) (xs:List V) (us:List Value) (Q:VK),Inv X pins σ H s->Vals xs us->r xs H Q ->
  wpAny (model X.prog X.w) X.A (call f us) (EP X pins σ Q) X.xe s
structure Hg(K:ZK)(C:Addr)(m:Str)(f:Addr):Prop where
 at_:waS K (.ref C) m=some (some (.ref f))
 fn:weQ K (.ref f)=true
 kp:wcn K (.ref f)=true
def PU(K:ZK)(ta tv:TE)(f:Str):TS:=λD σ H=>tv σ H λy H1=>ta σ H1 λx H2=>∃a C dx fs,x=.ref a/\H2 a=some (.ins C dx fs)/\zx K C/\bX K C f/\fs.length<1000 /\
 D.nx σ (upd H2 a (.ins C dx (cx f y fs)))
structure zN(P:wad)(w:World)(K:ZK)(mg:Str->Option Value)(base:Heap)(A:Around)(outer:List Env)(s:Shared)(H:Hp):Prop where
 frames:A.frames=some outer
 mod:Mod K mg base
 bs:∀b o,base.get? b=some o->s.heap.get? b=some o/\H b=none
 E5:base.objs.size<=s.heap.objs.size
 nE:s.heap.FunFrames base outer
 GP:∀b∈pY outer,H b=none
 bc:jb P w H s.heap
 bare:AllBare s.gens
structure aQ(P:wad)(w:World)(K:ZK)(mg:Str->Option Value)(base:Heap)(CX:DV)(k:Nat)(f:Addr)(fd:wb3)(ps:List Str)(sp:Sp):Prop where
 len:∀vs H Q E,sp vs H Q E->vs.length=ps.length
 run:∀(A:Around) (outer:List Env) (s:Shared) (H:Hp) (args:Args) (us:List Value) (vs:List V) (Q:VK) (E:XK),cU k A->zN P w K mg base A outer s H->BindsTo s fd args (ps.zip us)->Vals vs us->sp vs H Q E ->
  codeAny (model P w) A (.call (.ref f) args) (CR CX outer P w H s Q E) s
theorem zN.make{P:wad}{w:World}{K:ZK}{mg:Str->Option Value}{base:Heap}{A:Around}{outer:List Env}{s:Shared}{H:Hp}(e:zN P w K mg base A outer s H)(C:Addr)(us:List Value)(g:List (Str×Value)) :
 zN P w K mg base (A.under (.builtin "type.__call__" {.ref C::us,g})) outer s H:={by first |exact e.frames |(simpa [wgj,Code.envs,wgk,pushEnvs] using e.frames),e.mod,e.bs,e.E5,e.nE,e.GP,e.bc,e.bare}
def Passes(CX:DV)(X:Cx)(E:XK):Prop:=∀(pins:List (Addr×Obj)) (σ:St) (H:Hp) (s:Shared) (e:Value) (s':Shared),Inv X pins σ H s->CX X.stack H s E e s'->X.xe e s'
noncomputable def sE(CX:DV)(P:wad)(w:World)(K:ZK)(mg:Str->Option Value)(base:Heap)(N:List Str)(qual:Str)(scope:wct)(f:Addr)(cd:Value)(A:Around)(outer:List Env)(s:Shared)(H:Hp)(E:XK):Cx where
 prog:=P
 w:=w
 K:=K
 mg:=mg
 base:=base
 A:=A.deeper (envOfC qual scope s.heap.objs.size f cd)
 N:=N
 s₀:=s
 H₀:=H
 env:=envOfC qual scope s.heap.objs.size f cd
 outer:=outer
 stack:=envOfC qual scope s.heap.objs.size f cd::outer
 ex:=[]
 calm:=true
 fn:=λ_=>true
 pn:=[]
 xe:=λe s'=>wpAny (model P w) (A.deeper (envOfC qual scope s.heap.objs.size f cd)) («leaving» (envOfC qual scope s.heap.objs.size f cd) e) (λ_ PV=>CX outer H s E e PV) (λe' PV=>CX outer H s E e' PV) s'
def V7(r:V->Option Int->Option Int->Hp->VK->Prop)(te:TE)(tl th:TO):TE:=λσ H Q=>te σ H λx H1=>tl σ H1 λl H2=>th σ H2 λu H3=>r x l u H3 Q
def Hh(X:Cx)(id:String)(r:V->List V->Hp->VK->Prop):Prop:=
 ∀(pins:List (Addr×Obj)) (s:Shared) (σ:St) (H:Hp) (x:V) (xs:List V) (v:Value) (us:List Value) (Q:VK),Inv X pins σ H s->RelV x v->Vals xs us->r x xs H Q ->
  wpAny (model X.prog X.w) X.A (call (.builtin id) (v::us)) (EP X pins σ Q) X.xe s
def PX(X:Cx)(id:String)(r:V->List V->Hp->VK->Prop):Prop:=
 ∀(pins:List (Addr×Obj)) (s:Shared) (σ:St) (H:Hp) (x:V) (xs:List V) (v:Value) (us:List Value) (Q:VK),Inv X pins σ H s->RelV x v->Vals xs us->r x xs H Q ->
  wpAny (model X.prog X.w) X.A (call (.builtin id) (v::us)) (EP X pins σ Q) X.xe s
def Jp(td ty tv:TE):TS:=λD σ H=>tv σ H λv H1=>td σ H1 λx H2=>ty σ H2 λy H3=>∃a H4,x=.ref a/\kh H3 a y v H4/\D.nx σ H4
theorem lX{X:Cx}:Passes cI X E0:=λ_ _ _ _ _ _ _ h=>h.elim
theorem kj{J:It}{Ok:Hp->Prop}{xs:List V}{g:TG}{I:TS}{D:Ends}{σ:St}{H:Hp}(t:k4 J Ok xs)(Pv:Nat->St->Hp->Prop)(h0:Pv 0 σ H)(U:∀i σ H,i<=xs.length->Pv i σ H->Ok H)
 (hs:∀i x σ H,xs[i]?=some x->Pv i σ H->g x σ H λl C=>I (D.lp (Pv (i+1))) l C) (hd:∀σ H,Pv xs.length σ H->D.nx σ H) :
 ∃W:Nat->Nat->St->Hp->Prop,(∃m,W 0 m σ H)/\∀i m σ H,W i m σ H ->
  (J.stop i H/\D.nx σ H)\/(J.go i H/\∃N:St->Hp->Prop,(∀r j,N r j->∃T,T<m/\W (i+1) T r j)/\∀x j,J.uC i H x j->g x σ j λl C=>I (D.lp N) l C):=by
 refine{λi m σ H=>m=xs.length-i/\i<=xs.length/\Pv i σ H,{xs.length,by simp,wal _,h0},?_};rintro i m σ H ⟨rfl,hi,p⟩;have q:=U i σ H hi p
 by_cases a:i<xs.length
 .refine .inr {t.go i H q a,Pv (i+1),λr j b=>{xs.length-(i+1),by lia,rfl,a,b},λx j y=>?_};obtain⟨e,c⟩:=t.uC i H x j q a y;subst e;exact hs i x σ _ c p
 .have e:i=xs.length:=by lia
  subst e;exact .inl {t.stop H q,hd σ H p}
noncomputable def bA(X:Cx)(scope:wct)(N:List Str)(cl:List (Str×Addr))(L:Addr)(s:Shared)(H:Hp)(ex:List Addr)(pn:List (Addr×Obj)):Cx where
 prog:=X.prog
 w:=X.w
 K:=X.K
 mg:=X.mg
 base:=X.base
 A:=X.A
 N:=N
 s₀:=s
 H₀:=H
 env:=compEnvC scope cl L X.env
 outer:=X.stack
 stack:=X.stack
 ex:=ex
 fn:=λ_=>false
 calm:=X.calm
 pn:=pn
 xe:=λ_ _=>False
theorem sF{K:ZK}{a:Addr}{xs:List V}{g:TG}{C:TS}{D:Ends}{σ:St}{H:Hp}(Pv:Nat->St->Hp->Prop)(h0:Pv 0 σ H)(hl:∀i σ H,i<=xs.length->Pv i σ H->aK K H a xs)
 (hs:∀i x σ H T,xs[i]?=some x->Pv i σ H->H T=none->g (.ref T) σ (upd H T (.tup [.int (i:Nat),x])) λj t=>C (D.lp (Pv (i+1))) j t) (hd:∀σ H,Pv xs.length σ H->D.nx σ H) :
 ∃W:Nat->Nat->St->Hp->Prop,(∃m,W 0 m σ H)/\∀i m σ H,W i m σ H ->
  ((LX K a).stop i H/\D.nx σ H)\/((LX K a).go i H/\∃N:St->Hp->Prop,(∀l r,N l r->∃I,I<m/\W (i+1) I l r)/\∀x r,(LX K a).uC i H x r->g x σ r λj t=>C (D.lp N) j t):=by
 refine{λi m σ H=>m=xs.length-i/\i<=xs.length/\Pv i σ H,{xs.length,by simp,wal _,h0},?_};rintro i m σ H ⟨rfl,hi,p⟩;have q:=hl i σ H hi p
 by_cases b:i<xs.length
 .refine .inr {{xs,xs[i],q,by simp[b]},Pv (i+1),λl r c=>{xs.length-(i+1),(),rfl,b,c},λx r y=>?_};obtain⟨T,d,f,h,k,y⟩:=y;subst h k;exact hs i d σ _ T (y xs q) p f
 .have e:i=xs.length:=();subst e;exact .inl {{xs,q,ZS _},hd σ H p}
abbrev YD(X:Cx)(st:Stmt)(t:TS):Prop:=Bx (∀(pins:List (Addr×Obj)) (s:Shared) (σ:St) (H:Hp) (D:Ends),Inv X pins σ H s->1<=s.toks->t D σ H->wpAny (model X.prog X.w) X.A (exec st X.env) (SP X pins D) X.xe s)
abbrev V8(X:Cx)(st:List Stmt)(t:TS):Prop:=Bx (∀(pins:List (Addr×Obj)) (s:Shared) (σ:St) (H:Hp) (D:Ends),Inv X pins σ H s->1<=s.toks->t D σ H->wpAny (model X.prog X.w) X.A (execs st X.env) (SP X pins D) X.xe s)
def Hi(C:Addr)(E:XK)(t:TA):TS:=λ_ σ H=>t σ H λvs H1=>vs.length=1/\E (.ref C) none H1
def Sy(X:Cx)(pins:List (Addr×Obj))(σ:St)(E:XK)(ev:Value)(s':Shared):Prop:=∃H0 s0,Inv X pins σ H0 s0/\yc X.prog X.w X.stack H0 s0 E ev s'
def Sz(X:Cx)(pins:List (Addr×Obj))(E:St->XK)(ev:Value)(s':Shared):Prop:=∃σ,Sy X pins σ (E σ) ev s'
abbrev SA(X:Cx)(e:Expr)(t:MB):Prop:=Bx (∀(pins:List (Addr×Obj)) (s:Shared) (σ:St) (H:Hp) (Q:VK) (E:XK),Inv X pins σ H s->t E σ H Q->wpAny (model X.prog X.w) X.A (eval e X.env) (EP X pins σ Q) (Sy X pins σ E) s)
abbrev SD(X:Cx)(st:Stmt)(t:LZ):Prop:=Bx (∀(pins:List (Addr×Obj)) (s:Shared) (σ:St) (H:Hp) (D:Ends) (E:St->XK),Inv X pins σ H s->t E D σ H->wpAny (model X.prog X.w) X.A (exec st X.env) (SP X pins D) (Sz X pins E) s)
abbrev MY(X:Cx)(st:List Stmt)(t:LZ):Prop:=Bx (∀(pins:List (Addr×Obj)) (s:Shared) (σ:St) (H:Hp) (D:Ends) (E:St->XK),Inv X pins σ H s->t E D σ H->wpAny (model X.prog X.w) X.A (execs st X.env) (SP X pins D) (Sz X pins E) s)
theorem Kg{X:Cx}:Passes (yc P w) X E0:=λ_ _ _ _ _ _ _ h=>by
 obtain⟨_,_,_,_,_,_,_,_,_,_,a⟩:=h;exact a.elim
end
section
variable{X:Cx}{a b:Expr}{ta tb:TE}{pos:Pos}{tA:TT}
abbrev PC(X:Cx)(op:CmpOp)(a b:Expr)(t:TE):Prop:=Bx (∀(pins:List (Addr×Obj)) (s:Shared) (σ:St) (H:Hp) (Q:VK),Inv X pins σ H s->t σ H Q ->
  wpAny (model X.prog X.w) X.A (eval a X.env) (λv s₁=>wpAny (model X.prog X.w) X.A (eval b X.env) (λu s₂=>wpAny (model X.prog X.w) X.A (waE op v u) (EP X pins σ Q) X.xe s₂) X.xe s₁) X.xe s)
theorem zO{op:CmpOp}{t:TE}(h:PC X op a b t)(g:wcz op b=false:=by first |exact Eh _ ⋯ ⋯ |rfl):PT X (.Compare a [op] [b] pos) (tB t):=by
 refine{?_};intro e s σ H Q I hw;refine wfF (bS (h e s σ H _ I hw) λv m g=>bS g λu n f=>bS f λc o ⟨x,i,j,k,l⟩=>?_) g;obtain⟨d,rfl,q⟩:=l;cases k;exact wb2 ⟨i,j,q⟩
theorem bB{e:Expr}{t:TE}(h:PE X e t)(he:∀whole,isTrue e X.env whole=(do let v <-whole;standAt e.pos;holding [v] (truthy v)):=by intro _;rfl):PT X e (tB t):=by
 refine{?_};intro a s σ H Q I hw;refine isTrue_plain (bS (h a s σ H _ I hw) λv i ⟨x,b,c,f,g⟩=>?_) (he _);obtain⟨d,rfl,q⟩:=g;cases f;exact wb2 ⟨b,c,q⟩
theorem Hj(ha:PT X a tA):PW X (.BoolOp .And [a] pos) tA:=by
 refine{?_};intro d b s σ H Q I h;refine isTrue_and (bS (ha b s σ H Q I h) λc f e=>?_)
 cases c with
 |true=>exact isTrue_and_nil e
 |false=>exact e
theorem dD(ha:PT X a tA):PW X (.BoolOp .Or [a] pos) tA:=by
 refine{?_};intro d b s σ H Q I h;refine isTrue_or (bS (ha b s σ H Q I h) λc f e=>?_)
 cases c with
 |false=>exact isTrue_or_nil e
 |true=>exact e
theorem bH(ha:PT X a tA):PT X (.UnaryOp .Not a pos) (Ph tA):=by
 refine{?_};intro b s σ H Q I h;exact isTrue_not (ha b s σ H (λc d=>Q (!c) d) I h)
theorem sG{op}(h:PE X a t):PE X (.BoolOp op [a] pos) t:={λb s σ H Q I hw=>BoolOp_one (h b s σ H Q I hw)}
theorem zP(ha:PE X a ta):PE X (.UnaryOp .Not a pos) (MF ta):=by
 refine{?_};intro b s σ H Q I h;refine UnaryOp_ (bS (ha b s σ H _ I h) λv i ⟨x,e,f,g,d⟩=>?_);obtain⟨c,rfl,d⟩:=d;cases g;exact not_of (wb2 {.bl (!c),e,f,rfl,d})
theorem yd{c:Expr}(hc:PT X c tA)(ha:PE X a ta)(l:PE X b tb):PE X (.IfExp c a b pos) (V3 tA ta tb):=by
 refine{?_};intro e s σ H Q I h;refine wpAny_IfExp (bS (hc e s σ H _ I h) λd f ⟨g,i,j⟩=>?_)
 cases d with
 |true=>exact ha e f σ g Q i j
 |false=>exact l e f σ g Q i j
theorem aH:uE X [] MU:={λ_ _ σ H _ I h=>wbQ ⟨σ,H,I,h⟩}
theorem Inv.quiet(I:Inv X g σ H s):interactive X.env=false:=by simp[interactive,I.ok.kind]
theorem gK:uE X g Ke:={λ_ _ _ _ _ _ h=>h.elim}
theorem Es{o i:Expr}{l p:TE}{t:K1}(C:PE X o l)(hi:PE X i p)(hs:MS X t)
 (ha:∀v,assign (.Subscript o i pos) X.env v=(do
   let g <-holding [v] (eval o X.env)
   let j <-holding [v,g] (eval i X.env)
   standAt pos
   holding [v,g,j] (setItem g j v)
   release [v,g,j] []):=by intro _;rfl):PG X (.Subscript o i pos) (Pk l p t):=by
 refine{?_};intro a s σ H v u Q I r h;rw[ha];refine ZN (wb0 (bS (C a s σ H _ I h) λg b ⟨x,c,d,e,f⟩=>?_));refine ZN (wb0 (bS (hi a b σ c _ d f) λj k ⟨y,m,n,q,w⟩=>?_));refine ZN (wd4 (ZN (wb0 (bS (hs a k σ m x y v g j u _ n e q r w) λ_ D ⟨z,A,B⟩=>?_))));exact wpAny_release ⟨σ,z,A,B⟩
def Hk(te:TE)(g:TG):TS:=λD σ H=>te σ H λx H1=>g x σ H1 D.nx
theorem pw{j e:Expr}{l:TE}{g:TG}(he:PE X e l)(p:PG X j g)(hs:swapsWithSole [j] e pos.line X.env=pure false:=by rfl)(hw:swappedStores [j] e X.env=pure none:=by rfl)
 (r:(wcX [j] X.env).map (·.2)=[assign j X.env]:=by rfl):PS X (.Assign [j] e pos) (Hk l g):=by
 refine{?_};intro a s σ H D I h;refine wpAny_Assign_stores (bS (he a s σ H _ I h) λv b ⟨x,c,d,f,i⟩=>?_) hs hw;rw[r];exact bS (p a b σ c x v _ d f i) λ_ k q=>q
inductive PY(i:Nat)(te:TE)(ti:Ml)(D:Ends)(σ:St)(H:Hp):Prop
 |mk (x) (_:σ[i]?=some (some x)) (_:te σ H λy H1=>ti x y H1 λz H2=>D.nx (σ.set i (some z)) H2)
theorem iN{c:Expr}{body:List Stmt}{t:TT}{C:TS}(J:PassesOwn (model X.prog X.w) X.A X.env X.xe)(hc:PT X c t)(T:uE X body C):PS X (.While c body [] pos) (Kf t C):=by
 refine{?_};intro a s σ H D I h;obtain⟨W,⟨E,G⟩,g⟩:=h;refine wpAny_While (codeAny_whileLoop (λn L=>∃i u,Inv X a i u L/\W n i u) ?_ E ⟨σ,H,I,G⟩);rintro n M ⟨e,x,O,Q⟩;refine wc9 J (bS (hc a M e x _ O (g n e x Q)) λb R ⟨y,z,k⟩=>?_)
 cases b with
 |true=>
  obtain⟨N,B,k⟩:=k;rw[if_pos rfl];refine wc9 J (bS (T a R e y _ z k) λf S l=>?_)
  cases f with
  |next=>
   obtain⟨d,j,m,o⟩:=l;obtain⟨p,q,r⟩:=B d j o;exact⟨p,q,d,j,m,r⟩
  |cont=>
   obtain⟨d,j,m,o⟩:=l;obtain⟨p,q,r⟩:=B d j o;exact⟨p,q,d,j,m,r⟩
  |brk=>exact l
  |ret v=>exact l
 |false=>
  rw[if_neg wa2];exact wbQ ⟨e,y,z,k⟩
theorem Inv.nL(I:Inv X (g++pl) σ H s):Inv X g σ H s:=I.Br λp a=>I.pin p (war _ (waG _ a))
theorem Kh(ha:PE X a ta)(C:PE X b tb){R:V->V->Hp->Prop}(I:Inv X g σ H s)
 (h:ta σ H λx t=>tb σ t λy j=>R x y j) {Q:Value->Shared->Prop} {f:Value->Value->Sem Value}
 (J:∀v u r x y j,Inv X g σ j r->RelV x v->RelV y u->R x y j->wpAny (model X.prog X.w) X.A (f v u) Q X.xe r) :
 wpAny (model X.prog X.w) X.A (eval a X.env) (λv l=>wpAny (model X.prog X.w) X.A (eval b X.env) (λu p=>wpAny (model X.prog X.w) X.A (f v u) Q X.xe p) X.xe l) X.xe s:=by
 refine bS (ha g s σ H _ I h) λv c ⟨x,t,d,e,i⟩=>?_;refine bS (C g c σ t _ d i) λu r ⟨y,j,k,m,n⟩=>?_;exact J v u r x y j k e m n
theorem aS(g:jc X (binaryOp op) r)(ha:PE X a ta)(j:PE X b tb):PE X (.BinOp a op b pos) (Mq r ta tb):=by
 refine{?_};intro c s σ H Q I h;exact wpAny_BinOp (Kh ha j I h λv u d x y e f i k q=>g c d σ e x y v u Q f i k q)
theorem Jq{r:V->Hp->VK->Prop}(g:PN X (unaryOp op) r)(ha:PE X a ta):PE X (.UnaryOp op a pos) (UT r ta):=by
 refine{?_};intro b s σ H Q I h;exact UnaryOp_ (bS (ha b s σ H _ I h) λv c ⟨x,d,e,f,i⟩=>g b c σ d x v Q e f i)
theorem Hl{f:Value->Value->Sem Value}{g:Int->Int->Bool}
 (rule:∀(i j:Int) (t u:Tok) (s:Shared) (Q:Value->Shared->Prop) (E:Value->Shared->Prop),Q (.bool (g i j)) s->wpAny (model X.prog X.w) X.A (f (.int i t) (.int j u)) Q E s) :
 jc X f (Jh λi j=>.bl (g i j)):=by
 intro a s σ H x y v u Q I b c h;obtain⟨i,j,rfl,rfl,q⟩:=h;obtain⟨t,rfl⟩:=b;obtain⟨d,rfl⟩:=c;exact rule i j t d s _ _ {.bl (g i j),H,I,rfl,q}
theorem bC(I:Inv X g σ H s)(q:Q (.bl k) H)(e:k=j):EP X g σ Q (.bool j) s:=by
 subst e;exact{.bl k,H,I,rfl,q}
theorem nM:jc X (waE .Eq) UU:=by
 intro d s σ H x y v u Q I c a h;obtain⟨hs,q⟩:=h
 cases x with
 |non=>
  cases c
  cases y with
  |non=>cases a;exact PySem.EqNone.eq_none_none (bC I q (by simp))
  |bl j=>cases a;exact PySem.EqNone.eq_none_bool (bC I q (by simp))
  |int j=>obtain⟨b,rfl⟩:=a;exact PySem.EqNone.eq_none_int (bC I q (by simp))
  |str j=>obtain⟨b,rfl⟩:=a;exact PySem.EqNone.eq_none_str (bC I q (by simp))
  |_=>exact absurd (show false=true from hs) wa2
 |bl i=>
  cases c
  cases y with
  |non=>cases a;exact PySem.EqNone.eq_bool_none (bC I q (by simp))
  |bl j=>cases a;exact eq_bool (bC I q E8)
  |str j=>obtain⟨b,rfl⟩:=a;exact PySem.EqMixed.eq_bool_str (bC I q (by simp))
  |_=>exact absurd (show false=true from hs) wa2
 |int i=>
  obtain⟨t,rfl⟩:=c
  cases y with
  |non=>cases a;exact PySem.EqNone.eq_int_none (bC I q (by simp))
  |int j=>obtain⟨b,rfl⟩:=a;exact eq_int (bC I q Bh)
  |str j=>obtain⟨b,rfl⟩:=a;exact PySem.EqMixed.eq_int_str (bC I q (by simp))
  |_=>exact absurd (show false=true from hs) wa2
 |str i=>
  obtain⟨t,rfl⟩:=c
  cases y with
  |non=>cases a;exact PySem.EqNone.eq_str_none (bC I q (by simp))
  |bl j=>cases a;exact PySem.EqMixed.eq_str_bool (bC I q (by simp))
  |int j=>obtain⟨b,rfl⟩:=a;exact PySem.EqMixed.eq_str_int (bC I q (by simp))
  |str j=>obtain⟨b,rfl⟩:=a;exact eq_str (bC I q Bi)
  |_=>exact absurd (show false=true from hs) wa2
 |byt i=>
  obtain⟨t,rfl⟩:=c
  cases y with
  |byt j=>obtain⟨b,rfl⟩:=a;exact PySem.W.eq_bytes (bC I q Bj)
  |_=>exact absurd (show false=true from hs) wa2
 |_=>cases y<;>exact absurd (show false=true from hs) wa2
theorem nN:jc X (waE .NotEq) UW:=by
 intro d s σ H x y v u Q I c a h;obtain⟨hs,q⟩:=h
 cases x with
 |non=>
  cases c
  cases y with
  |non=>cases a;exact PySem.EqNone.ne_none_none (bC I q (by simp))
  |bl j=>cases a;exact PySem.EqNone.ne_none_bool (bC I q (by simp))
  |int j=>obtain⟨b,rfl⟩:=a;exact PySem.EqNone.ne_none_int (bC I q (by simp))
  |str j=>obtain⟨b,rfl⟩:=a;exact PySem.EqNone.ne_none_str (bC I q (by simp))
  |_=>exact absurd (show false=true from hs) wa2
 |bl i=>
  cases c
  cases y with
  |non=>cases a;exact PySem.EqNone.ne_bool_none (bC I q (by simp))
  |bl j=>cases a;exact ne_bool (bC I q (congrArg not E8))
  |str j=>obtain⟨b,rfl⟩:=a;exact PySem.EqMixed.ne_bool_str (bC I q (by simp))
  |_=>exact absurd (show false=true from hs) wa2
 |int i=>
  obtain⟨t,rfl⟩:=c
  cases y with
  |non=>cases a;exact PySem.EqNone.ne_int_none (bC I q (by simp))
  |int j=>obtain⟨b,rfl⟩:=a;exact ne_int (bC I q (congrArg not Bh))
  |str j=>obtain⟨b,rfl⟩:=a;exact PySem.EqMixed.ne_int_str (bC I q (by simp))
  |_=>exact absurd (show false=true from hs) wa2
 |str i=>
  obtain⟨t,rfl⟩:=c
  cases y with
  |non=>cases a;exact PySem.EqNone.ne_str_none (bC I q (by simp))
  |bl j=>cases a;exact PySem.EqMixed.ne_str_bool (bC I q (by simp))
  |int j=>obtain⟨b,rfl⟩:=a;exact PySem.EqMixed.ne_str_int (bC I q (by simp))
  |str j=>obtain⟨b,rfl⟩:=a;exact ne_str (bC I q (congrArg not Bi))
  |_=>exact absurd (show false=true from hs) wa2
 |byt i=>
  obtain⟨t,rfl⟩:=c
  cases y with
  |byt j=>obtain⟨b,rfl⟩:=a;exact PySem.W.ne_bytes (bC I q (congrArg not Bj))
  |_=>exact absurd (show false=true from hs) wa2
 |_=>cases y<;>exact absurd (show false=true from hs) wa2
theorem iO:jc X (waE .Lt) (Jh λi j=>.bl (decide (i<j))):=Hl λ_ _ _ _ _ _ _ q=>lt_int q
theorem vB:jc X (waE .LtE) (Jh λi j=>.bl (decide (i<=j))):=Hl λ_ _ _ _ _ _ _ q=>le_int q
theorem kl:jc X (waE .Gt) (Jh λi j=>.bl (decide (j<i))):=Hl λ_ _ _ _ _ _ _ q=>gt_int q
theorem Et:jc X (waE .GtE) (Jh λi j=>.bl (decide (j<=i))):=Hl λ_ _ _ _ _ _ _ q=>ge_int q
theorem pz:jc X (waE .In) (λx y H Q=>∃i j,x=.str i/\y=.str j/\Q (.bl (!(wf4 j i 0 j.length 1).isEmpty)) H):=by
 intro a s σ H x y v u Q I b c h;obtain⟨i,j,rfl,rfl,q⟩:=h;obtain⟨t,rfl⟩:=b;obtain⟨d,rfl⟩:=c;exact in_str (bC I q rfl)
theorem Ki:jc X (waE .Is) (λx y H Q=>y=.non/\Q (.bl (decide (x=.non))) H):=by
 intro a s σ H x y v u Q I b c h;obtain⟨rfl,q⟩:=h;cases c;refine is_none_gen (bC I q ?_)
 cases x<;>first
  |(cases b;rfl)
  |(obtain⟨t,rfl⟩:=b;rfl)
theorem wQ:jc X (waE .IsNot) (λx y H Q=>y=.non/\Q (.bl (!decide (x=.non))) H):=by
 intro a s σ H x y v u Q I b c h;obtain⟨rfl,q⟩:=h;cases c;refine isnot_none_gen (bC I q ?_)
 cases x<;>first
  |(cases b;rfl)
  |(obtain⟨t,rfl⟩:=b;rfl)
theorem cV(g:jc X (waE op) r)(ha:PE X a ta)(j:PE X b tb)(l:wcz op b=false):PE X (.Compare a [op] [b] pos) (Mq r ta tb):=by
 refine{?_};intro c s σ H Q I h;exact wpAny_Compare1 (Kh ha j I h λv u d x y e f i k q=>g c d σ e x y v u Q f i k q) l
theorem fX(g:jc X (waE op) r)(ha:PE X a ta)(j:PE X b tb)(l:wcz op b=false):PT X (.Compare a [op] [b] pos) (E9 (Mq r ta tb)):=by
 refine{?_};intro d s σ H Q I h
 refine wfF (bS (ha d s σ H _ I h) λv f ⟨x,i,m,n,o⟩=>bS (j d f σ i _ m o) λu p ⟨y,q,t,w,A⟩=>
  bS (g d p σ q x y v u _ t n w A) λc G ⟨z,B,C,D,k,e,E⟩=>?_) l
 subst e;cases D;exact wb2 ⟨B,C,E⟩
theorem b5(g:LY X r)(ha:PE X a ta)(j:PE X b tb)(hs:GV b):PE X (.Subscript a b pos) (Mq r ta tb):=by
 refine{?_};intro c s σ H Q I h;exact Subscript_ (Kh ha j I h λv u d x y e f i k q=>g a b c d σ e x y v u Q f i k q (hs _ _))
end
section
variable{X:Cx}{pins:List (Addr×Obj)}{σ:St}{H:Hp}{s:Shared}{a:Addr}{xs ys:List V}
theorem aK.of{K:ZK}(h:H a=some (.lst xs)):aK K H a xs:=.inl (.inl h)
theorem fJ.of{K:ZK}(h:H a=some (.tup xs)):fJ K H a xs:=.inl (.inl h)
theorem Inv.list(I:Inv X pins σ H s)(h:aK X.K H a xs):∃g:List Value,Vals xs g/\PlainL s.heap a g.toArray/\xs.length<=sizeLine:=by
 rcases h with h |⟨o,g,n,hk,hc,hd,hs,b,r⟩
 .obtain⟨z,g,n,r,e⟩:=h.ok I.bc;exact{g,r,{_,n,e,rfl,rfl,rfl},z}
 .refine{g.toList,r,{o,n,I.gC a o hk,hc,hd,by simpa using hs},?_};have e:=r.length;simp only[wbY]at e
  lia
theorem Inv.tuple(I:Inv X pins σ H s)(h:fJ X.K H a xs):∃g:List Value,Vals xs g/\IsTup s.heap a g.toArray/\xs.length<=sizeLine:=by
 rcases h with h |⟨o,g,n,hk,hc,hs,b,r⟩
 .obtain⟨z,g,r,p⟩:=h.ok I.bc;exact⟨g,r,p,z⟩
 .refine{g.toList,r,{o,I.gC a o hk,hc,n,by simpa using hs},?_};have e:=r.length;simp only[wbY]at e;omega
theorem Inv.sH(I:Inv X pins σ H s)(h:aK X.K H a xs)(h':aK X.K H a ys):xs=ys:=by
 obtain⟨c,r,⟨o,n,e,_,_,d⟩,_⟩:=I.list h;obtain⟨b,i,⟨j,k,f,_,_,g⟩,_⟩:=I.list h';rw[e]at f;cases f;rw[d]at g;injection g with l _
 have:c=b:=by grind
 subst this;exact r.inj i
theorem b9:LY X (Mw X.K):=by
 intro value slice a s σ H x y v u Q I g k h hs;obtain⟨p,C,i,z,rfl,rfl,l,m,q⟩:=h;cases g;obtain⟨t,rfl⟩:=k;obtain⟨c,r,pl,D⟩:=I.list l;obtain⟨j,b,n,E,o,A⟩:=wJ m;obtain⟨w,f,d⟩:=r.get n;have hl:=r.length;have hn:=mM;have fin:EP X a σ Q w s:=⟨z,H,I,d,q⟩
 by_cases h0:0<=i
 .have e:i.toNat=j:=by
   rw[wgQ h0 A]at b;exact ZU b
  exact item_listR pl.isList h0 (by lia) (by rw[e];simpa using f) fin hs
 .have e:(i+(c.toArray.size:Int)).toNat=j:=by
   rw[wgl (by lia) o]at b;rw[wa3,<-hl];exact ZU b
  exact wfo (x:=w) pl.isList.typeIs slot_list_getitem.lookup
   (wpAny_getItem_list_neg (Q:=λr B=>r=w/\EP X a σ Q r B) pl.isList (by lia) (by rw[wa3]<;>lia) (by lia) (by rw[e];simpa using f) ⟨rfl,fin⟩) hs
theorem fO:LY X (Mx X.K):=by
 intro value slice a s σ H x y v u Q I c d h hs;obtain⟨p,o,i,z,rfl,rfl,e,f,q⟩:=h;cases c;obtain⟨t,rfl⟩:=d;obtain⟨g,r,pl,A⟩:=I.tuple e;obtain⟨j,k,l,B,C,D⟩:=wJ f;obtain⟨w,m,b⟩:=r.get l;have hl:=r.length;have hn:=mM;have fin:EP X a σ Q w s:=⟨z,H,I,b,q⟩
 exact wfo (x:=w) pl.typeIs slot_tuple_getitem.lookup
  (getItem_tuple (j:=j) (Q:=λr n=>r=w/\EP X a σ Q r n) pl (by lia) (by lia) (by rw[wa3,<-hl];exact k) (by simpa using m) ⟨rfl,fin⟩) hs
theorem zQ(g:List Value)(n j:Nat)(u:Value):wci (·.setIfInBounds j u) {cls:=.type "list",data:=.seq g.toArray n}={cls:=.type "list",data:=.seq (g.set j u).toArray n}:=by
 simp[wci]
theorem vC:jc X (waE .In) (Ol X.K false):=by
 intro c s σ H x y v u Q I d f h;obtain⟨p,i,rfl,b,e,fs,q⟩:=h;cases f;rcases b with b |b
 .obtain⟨a,r,pl,g⟩:=I.list b;refine SeqAt.in_listAt (zJ x) pl.isList (λw hw=>kd d e r fs w (by grind)) {.bl _,H,I,rfl,?_};rw[show a.toArray.any (zJ x)=a.any (zJ x) by simp,nJ r fs];exact q
 .obtain⟨a,r,pl,g⟩:=I.tuple b;refine SeqAt.in_tupleAt (zJ x) pl (λw hw=>kd d e r fs w (by grind)) {.bl _,H,I,rfl,?_};rw[show a.toArray.any (zJ x)=a.any (zJ x) by simp,nJ r fs];exact q
theorem jd:jc X (waE .NotIn) (Ol X.K true):=by
 intro c s σ H x y v u Q I d f h;obtain⟨p,i,rfl,b,e,fs,q⟩:=h;cases f;rcases b with b |b
 .obtain⟨a,r,pl,g⟩:=I.list b;refine wgn (zJ x) pl.isList (λw hw=>kd d e r fs w (by grind)) {.bl _,H,I,rfl,?_};rw[show a.toArray.any (zJ x)=a.any (zJ x) by simp,nJ r fs];exact q
 .obtain⟨a,r,pl,g⟩:=I.tuple b;refine SeqAt.notIn_tupleAt (zJ x) pl (λw hw=>kd d e r fs w (by grind)) {.bl _,H,I,rfl,?_};rw[show a.toArray.any (zJ x)=a.any (zJ x) by simp,nJ r fs];exact q
theorem Eu(z:kvs.length<=sizeLine)(hd:(a==wcG)=false)(rel:KV kvs vs)(dd:h'.DictOf (bF P w) a vs) :
 bZ P w g h' a (.dK kvs):=⟨z,hd,vs,rel,dd⟩
theorem zR(l:X.A.units<wbf):jc X (waE .Eq) (Pu X.K):=by
 intro m s σ H x y v u Q I C D h;obtain⟨a,b,f,g,rfl,rfl,ha,E,G,J,q⟩:=h;cases C;cases D;obtain⟨d,n,o,_⟩:=I.list ha;obtain⟨c,p,r,_⟩:=I.list E;have L:=n.length;have U:=p.length
 by_cases hl:f.length=g.length
 .refine wha (e:=λj=>k9 (f.getD j .non) (g.getD j .non)) o.isList r.isList (by simp only[wa3];lia) l (λj M N=>?_) ?_
  .have i:j<d.length:=by simpa using M
   have k:j<c.length:=by simpa using N
   have t:f[j]?=some (f.getD j .non):=by rw[ZL];simp[show j<f.length by lia]
   have w:g[j]?=some (g.getD j .non):=by rw[ZL];simp[show j<g.length by lia]
   obtain⟨O,z,R⟩:=n.get t;obtain⟨S,B,T⟩:=p.get w
   have g1:d.toArray[j]=O:=by
    have:d[j]?=some d[j]:=by simp[i]
    rw[this]at z;simpa using ZU z
   have g2:c.toArray[j]=S:=by
    have:c[j]?=some c[j]:=by simp[k]
    rw[this]at B;simpa using ZU B
   rw[g1,g2];exact kc R T (waq.mp G _ (ZT t)) (waq.mp J _ (ZT w))
  .rw[mP hl]at q;refine{.bl _,H,I,rfl,?_};rw[wa3,<-L];exact q
 .refine SeqAt.eq_list_lengthsAt o.isList r.isList (by simp only[wa3,bne_iff_ne];lia) l {.bl false,H,I,rfl,?_};rw[xY hl]at q;exact q
theorem Kj(l:X.A.units<wbf):jc X (waE .NotEq) (Px X.K):=by
 intro m s σ H x y v u Q I D E h;obtain⟨a,b,f,g,rfl,rfl,ha,G,J,L,q⟩:=h;cases D;cases E;obtain⟨d,n,o,_⟩:=I.list ha;obtain⟨c,p,r,_⟩:=I.list G;have M:=n.length;have V:=p.length
 by_cases hl:f.length=g.length
 .refine wgo (e:=λj=>k9 (f.getD j .non) (g.getD j .non)) o.isList r.isList (by simp only[wa3];lia) l (λj N O=>?_) X.prog X.w _ _ ?_
  .have i:j<d.length:=by simpa using N
   have k:j<c.length:=by simpa using O
   have t:f[j]?=some (f.getD j .non):=by rw[ZL];simp[show j<f.length by lia]
   have z:g[j]?=some (g.getD j .non):=by rw[ZL];simp[show j<g.length by lia]
   obtain⟨R,B,S⟩:=n.get t;obtain⟨T,C,U⟩:=p.get z
   have g1:d.toArray[j]=R:=by
    have:d[j]?=some d[j]:=by simp[i]
    rw[this]at B;simpa using ZU B
   have g2:c.toArray[j]=T:=by
    have:c[j]?=some c[j]:=by simp[k]
    rw[this]at C;simpa using ZU C
   rw[g1,g2];exact kc S U (waq.mp J _ (ZT t)) (waq.mp L _ (ZT z))
  .rw[mP hl]at q;refine{.bl _,H,I,rfl,?_};rw[wa3,<-M];exact q
 .refine SeqAt.RcNeAt.lists_lengths o.isList r.isList (by simp only[wa3,bne_iff_ne];lia) l X.prog X.w _ _ {.bl true,H,I,rfl,?_};rw[xY hl]at q;exact q
end
section
variable{X:Cx}{tg:Expr}
theorem fY{E:Value->Shared->Prop}{Q:Value->Shared->Prop}(I:Inv X g σ H s)(j:Gl X x)(l:X.mg x=some u)(h:Q u s)
 (hd:(x==("__debug__":Str))=false:=by decide):wpAny (model X.prog X.w) X.A (eval (.Name x pos) X.env) Q E s:=
 wev I.ok.kind j (Calls.loadGlobal_global (by rw[I.ok.glob];exact I.mod.glob.keeps I.bk) l h) hd
theorem gT{E:Value->Shared->Prop}{Q:Value->Shared->Prop}(I:Inv X g σ H s)(j:Gl X x)(l:X.mg x=none)(p:wav x=some u)(h:Q u s)
 (hn:x≠"__name__":=by decide) (hd:(x==("__debug__":Str))=false:=by decide):wpAny (model X.prog X.w) X.A (eval (.Name x pos) X.env) Q E s:=by
 obtain⟨c,a,b⟩:=I.mod.blt;exact wev I.ok.kind j (Calls.loadGlobal_builtin (by rw[I.ok.glob];exact I.mod.glob.keeps I.bk) l (by rw[I.ok.blt];exact a.keeps I.bk) ((b x hn).trans p) h) hd
theorem rR(g:Gl X x)(j:X.mg x=some u)(r:RelV v u)(hd:(x==("__debug__":Str))=false:=by decide):PE X (.Name x pos) (tC v):=
 {λ_ _ _ H _ I h=>fY I g j ⟨v,H,I,r,h⟩ hd}
theorem dY(g:Gl X x)(j:X.mg x=none)(l:wav x=some u)(r:RelV v u)(hn:x≠"__name__":=by decide)(hd:(x==("__debug__":Str))=false:=by decide):PE X (.Name x pos) (tC v):=
 {λ_ _ _ H _ I h=>gT I g j l ⟨v,H,I,r,h⟩ hn hd}
theorem Inv.pinned(I:Inv X g σ H s)(l:∀b∈j,si X g H b)(r:∀b∈j,∃o,s.heap.get? b=some o/\∀v,o.data≠.cell v):Inv X (g++sj j s.heap) σ H s:=
 I.Br λp f=>(waj.mp f).elim (λz=>I.pin p (war _ z)) λz=>by
  obtain⟨a,e⟩:=Cd z;obtain⟨h,f1,f2,_⟩:=l p.1 a;obtain⟨o,c,d⟩:=r p.1 a;rw[e]at c;cases c;exact⟨e,h,f1,f2,d⟩
theorem Ew(C:PassesOwn (model X.prog X.w) X.A X.env X.xe)(hc:X.calm=true)(hi:PI X tg iter wi)(hg:PG X tg g)(j:uE X body tb)
 (hs:∀x,wbr iter X.env x=pure x:=by intro _;rfl):PS X (.For tg iter body [] pos) (MX wi g tb):=by
 refine{?_};intro a s σ H D I h;refine wpAny_For (bS (hi a s σ H _ I h) λv s1 h1=>bS h1 λPL s2 h2=>?_) hs;obtain⟨it,E,tn,J,H2,e,I2,T,R,f2,W,⟨m0,w0⟩,G⟩:=h2;subst e;have k:∀{y:Hp},(∀b∈E,y b=none)->∀b∈E,si X a y b:=λhn b j=>{hn b j,(f2 b j).2};refine codeAny_forLoop_any (λn s'=>∃i l y,Inv X a l y s'/\tn i s'.heap/\(∀b∈E,y b=none)/\W i n l y) ?_ m0 {0,σ,H2,I2,R,λb j=>(f2 b j).1,w0};rintro n s3 ⟨i,p,Q,I3,L,M,w3⟩;rcases G i n p Q w3 with⟨stop,qn⟩ |⟨go,N,hN,step⟩
 .refine wc9 C (bS (T.done X rfl rfl rfl hc i a s3 p Q X.xe I3 (k M) L stop) λr s4 ⟨S,I4⟩=>?_);subst S;exact wbQ ⟨p,Q,I4,qn⟩
 .refine wc9 C (bS (T.item X rfl rfl rfl hc i a s3 p Q X.xe I3 (k M) L go) λr s4 ⟨u,S,h4⟩=>?_);subst S;refine wc9 C (bS h4 λ_ s5 ⟨x,H5,I5,r5,y5,B,U⟩=>?_);have V:=I5.pinned (k U) (T.obj _ _ B);refine wc9 C (bS (hg _ s5 p H5 x u _ V r5 (step x H5 y5)) λ_ s6 ⟨Y,H6,I6,q6⟩=>?_);refine wc9 C (bS (j _ s6 Y H6 _ I6 q6) λf Z z=>?_)
  have again:∀{c:St} {q:Hp},Inv X (a++sj E s5.heap) c q Z->N c q->∃m,m<n/\∃i l y,Inv X a l y Z/\tn i Z.heap/\(∀b∈E,y b=none)/\W i m l y:=λ{c q} t O=>by
   obtain⟨m',hm,w7⟩:=hN c q O;refine{m',hm,i+1,c,q,t.nL,T.keep _ _ _ B λb j o e=>(t.pin (b,o) (war _ (war _ (j8 j e)))).1,λb j=>?_,w7};obtain⟨o,e,d⟩:=T.obj _ _ B b j;exact(t.pin (b,o) (war _ (war _ (j8 j e)))).2.1
  cases f with
  |next=>obtain⟨c,q,t,O⟩:=z;exact again t O
  |cont=>obtain⟨c,q,t,O⟩:=z;exact again t O
  |brk=>obtain⟨c,q,t,z⟩:=z;exact⟨c,q,t.nL,z⟩
  |ret v=>obtain⟨x7,c,q,t,r7,z⟩:=z;exact⟨x7,c,q,t.nL,r7,z⟩
theorem Inv.lst(I:Inv X j σ H s)(h:H p=some (.lst xs)) :
 ∃(g:List Value) (n:Nat),Vals xs g/\s.heap.get? p=some {cls:=.type "list",data:=.seq g.toArray n}/\xs.length<=sizeLine:=by
 obtain⟨z,g,n,r,e⟩:=I.bc p _ h;exact⟨g,n,r,e,z⟩
inductive MZ(o i v:V)(H:Hp)(Q:Hp->Prop):Prop
 |mk (p xs k j) (_:o=.ref p) (_:i=.int k) (_:H p=some (.lst xs)) (_:Cg xs.length k=some j) (_:Q (upd H p (.lst (xs.set j v))))
def PZ(K:ZK)(T:String)(x:V)(H:Hp):Prop:=match x with
 |.str _=>T="str"
 |.int _=>T="int"
 |.ref p=>(T="list"/\∃xs,aK K H p xs)\/(T="tuple"/\∃o,K.lookup p=some o/\o.cls=.type "tuple"/\o.dict=none) \/
   (T="dict"/\((∃kvs,H p=some (.dK kvs))\/∃kvs,H p=some (.dT kvs)))\/(T="set"/\∃S n,H p=some (.set S n))
 |_=>False
def N0(K:ZK)(T:String)(r:V->List V->Hp->VK->Prop)(to:TE):TE:=λσ H Q=>to σ H λx H1=>PZ K T x H1/\r x [] H1 Q
def SE(K:ZK)(T:String)(r:V->List V->Hp->VK->Prop)(to:TE)(t:TA):TE:=λσ H Q=>to σ H λx H1=>PZ K T x H1/\t σ H1 λxs H2=>r x xs H2 Q
inductive Hm(x:V)(vs:List V)(H:Hp)(Q:VK):Prop
 |mk (l xs y) (_:x=.ref l) (_:vs=[y]) (_:H l=some (.lst xs)) (_:xs.length<sizeLine) (_:Q .non (upd H l (.lst (xs++[y]))))
inductive Q0(x:V)(vs:List V)(H:Hp)(Q:VK):Prop
 |mk (l xs y) (_:x=.ref l) (_:vs=[]) (_:H l=some (.lst xs)) (_:xs[xs.length-1]?=some y) (_:Q y (upd H l (.lst xs.dropLast)))
inductive Kk(x:V)(vs:List V)(H:Hp)(Q:VK):Prop
 |mk (l xs) (_:x=.ref l) (_:vs=[]) (_:H l=some (.lst xs)) (_:Q .non (upd H l (.lst [])))
inductive Q1(x y:V)(H:Hp)(Q:VK):Prop
 |mk (l b xs zs) (_:x=.ref l) (_:y=.ref b) (_:H l=some (.lst xs)) (_:H b=some (.lst zs)) (_:xs.length+zs.length<=sizeLine) (_:∀p,H p=none->Q (.ref p) (upd H p (.lst (xs++zs))))
inductive Q2(x y:V)(H:Hp)(Q:VK):Prop
 |mk (l k xs) (_:x=.ref l) (_:y=.int k) (_:H l=some (.lst xs)) (_:-(2^63)<=k) (_:k<2^63) (_:xs.length*k.toNat<=sizeLine) (_:∀p,H p=none->Q (.ref p) (upd H p (.lst (wag k.toNat xs).flatten)))
def Only(H:Hp):Prop:=∀b,H b=none\/∃o xs,H b=some (.frz o (.lst xs))
theorem Ex{P:wad}{w:World}{K:ZK}{mg I:Str->Option Value}{CX:DV}{k:Nat}{J a:Addr}{fd:wb3}{x:Str}{sp:Sp}{g:Shared}{vs:List Value}{ns:List Int}
 (KX:K.In g.heap) (p:g.heap.Ns wax mg) (j:g.heap.Ns builtinsNs I) (T:∀x:Str,x≠"__name__"->I x=wav x) (t:g.heap.NoLimit) (hg:g.gens=#[])
 (ha:g.heap.get? a=some {cls:=.type "list",data:=.seq vs.toArray}) (hi:IntsAre vs ns) (hl:ns.length<=sizeLine) (hr:cU k callerA)
 (F:∀base:Heap,K.In base->base.Ns wax mg->aQ P w K mg base CX k J fd [x] sp) (l:∀(s:Shared) (u:Value),BindsTo s fd {[u],[]} [(x,u)])
 (U:∀H:Hp,Only H->aK K H a (ns.map V.int)->sp [.ref a] H (λv _=>v=.bl true) λ_ _ _=>False)
 (V9:∀H e s',CX [] H g (λ_ _ _=>False) e s'->False) :
 codeAny (model P w) callerA (.call (.ref J) {[.ref a],[]}) (λr s'=>r=.ok (.ret (.bool true))/\OldK g.heap s'.heap/\s'.os=g.os/\AllBare s'.gens) g:=by
 have G:=vn hi;have f:=hi.length
 have core:∀H:Hp,Only H->aK K H a (ns.map V.int)->jb P w H g.heap->(∀b,H b≠none->b=a)->(H a≠none->K.lookup a=none) ->
  codeAny (model P w) callerA (.call (.ref J) {[.ref a],[]}) (λr s'=>r=.ok (.ret (.bool true))/\OldK g.heap s'.heap/\s'.os=g.os/\AllBare s'.gens) g:=by
  intro H L O bc M Q;have Bt:∀{b:Addr} {o:Obj},g.heap.get? b=some o->H b=none->(wG g.heap H).get? b=some o:=λe n=>E4 e n
  have D:∀{b:Addr} {o:Obj} {i:Array DictEntry} {y:Nat},g.heap.get? b=some o->o.data=.dict i y->H b=none:=λ{b o i y} e d=>by
   cases q:H b with
   |none=>rfl
   |some u=>
    have E:b=a:=M b (by rw[q];simp);subst E;rw[ha]at e;cases e;have R:Data.seq vs.toArray _=Data.dict i y:=d;cases R
  have c:∀{b:Addr} {m:Str->Option Value},g.heap.Ns b m->(wG g.heap H).Ns b m:=λ{b m} ⟨o,i,y,e,d,r⟩=>{o,i,y,Bt e (D e d),d,r}
  have A:K.In (wG g.heap H):=λb o e=>Bt (KX b o e) (by
   cases q:H b with
   |none=>rfl
   |some u=>
    have E:b=a:=M b (by rw[q];simp);subst E
    rw[Q (by rw[q];simp)]at e;cases e)
  have S:Mod K mg (wG g.heap H):={A,c p,{I,c j,T},let ⟨X,Y,Z⟩:=t;{X,c Y,Z}};have e0:zN P w K mg (wG g.heap H) callerA [] g H:={rfl,S,λb o e=>GN e,wdh (Ca _ _),trivial,λb j=>absurd (show b∈([]:List Addr) from j) (by simp),bc,.of_eq hg};refine wbG ((F _ A (c p)).run callerA [] g H {[.ref a],[]} [.ref a] [.ref a] _ _ hr e0 (l g (.ref a)) (.cons rfl .nil) (U H L O)) λr s' h=>?_
  cases r with
  |error e=>exact(V9 H e s' h).elim
  |ok fl=>
   cases fl with
   |next=>exact waz h
   |brk=>exact waz h
   |cont=>exact waz h
   |ret u=>
    obtain⟨v,H',os,bare,un,B,r',q⟩:=h;have q':v=.bl true:=q;subst q';obtain rfl:u=wfQ true:=r';refine{rfl,OldK.of_keep λb o e=>?_,os,bare}
    cases q:H b with
    |none=>exact un.keep b o e q (by intro z;exact absurd (show b∈([]:List Addr) from z) (by simp)) (by simp)
    |some u=>
     rcases L b with z |⟨ob,xs,z⟩
     .rw[q]at z;cases z
     .have z2:=un.ry b ob _ z;obtain⟨N,_⟩:=bc b _ z;obtain⟨e2,_⟩:=B b _ z2;rw[e]at N;cases N;exact e2
 cases hk:K.lookup a with
 |some o=>
  have e:=KX a o hk;rw[ha]at e;cases e;refine core (λ_=>none) (λ_=>.inl rfl) (.inr {_,vs.toArray,_,hk,rfl,rfl,rfl,by rw[wa3,f];exact hl,by simpa using G}) (λb u z=>by have C:(none:Option HO)=some u:=z;cases C) (λb z=>absurd rfl z) λz=>absurd rfl z
 |none=>
  refine core (λb=>if b=a then some (.frz {cls:=.type "list",data:=.seq vs.toArray} (.lst (ns.map V.int))) else none) (λb=>?_) (.inl (.inr {{cls:=.type "list",data:=.seq vs.toArray},if_pos rfl})) (λb u z=>?_) (λb z=>?_) λ_=>hk
  .by_cases j:b=a
   .exact .inr {_,_,if_pos j}
   .exact .inl (if_neg j)
  .by_cases j:b=a
   .have C:=(if_pos j).symm.trans z;cases C;subst j;exact{ha,by rw[ZI];exact hl,vs,_,G,ha}
   .have C:=(if_neg j).symm.trans z;cases C
  .by_cases j:b=a
   .exact j
   .exact absurd (if_neg j) z
def lY(J:It)(l:Addr)(σf:St)(tt:TT)(te:TE)(H:Hp)(Q:Hp->Prop):Prop:=
 ∃W:Nat->Nat->List V->Hp->Prop,(∃m,W 0 m [] (upd H l (.lst [])))/\∀i m ys H2,W i m ys H2->H2 l=some (.lst ys) /\
  ((J.stop i H2/\Q H2)\/(J.go i H2/\ys.length<sizeLine/\∀x H3,J.uC i H2 x H3->tt (some x::σf) H3 λb H4=>
    if b=true then te (some x::σf) H4 λy H5=>H5 l=some (.lst ys)/\∃m',m'<m/\W (i+1) m' (ys++[y]) (upd H5 l (.lst (ys++[y])))
    else ∃m',m'<m/\W (i+1) m' ys H4))
def vD(g:TG)(n:Nat)(J:It)(l:Addr)(σf:St)(tt:TT)(te:TE)(H:Hp)(Q:Hp->Prop):Prop:=
 ∃W:Nat->Nat->List V->Hp->Prop,(∃m,W 0 m [] (upd H l (.lst [])))/\∀i m ys H2,W i m ys H2->H2 l=some (.lst ys) /\
  ((J.stop i H2/\Q H2)\/(J.go i H2/\ys.length<sizeLine/\∀x H3 vs,vs.length=n->J.uC i H2 x H3->g x (vs++σf) H3 λσ' H'=>(∃N1,N1.length=n/\σ'=N1++σf)/\tt σ' H' λb H4=>
    if b=true then te σ' H4 λy H5=>H5 l=some (.lst ys)/\∃m',m'<m/\W (i+1) m' (ys++[y]) (upd H5 l (.lst (ys++[y])))
    else ∃m',m'<m/\W (i+1) m' ys H4))
theorem Bu(h:lY J l g j r H Q):vD (eI 0) 1 J l g j r H Q:=
 let ⟨W,a,t⟩:=h
 {W,a,λi m d e w=>let ⟨p,q⟩:=t i m d e w;{p,q.imp id λ⟨a,b,c⟩=>{a,b,λx f k n y=>by revert k;refine i6 1 _ ?_;exact λ_=>{{[some x],rfl,rfl},c x f y}}}}
def N2(wi:TI)(ix:List Nat)(tt:TT)(te:TE):TE:=λσ H Q=>wi σ H λJ H1=>∀l,H1 l=none->lY J l (pick σ ix) tt te H1 (λH2=>Q (.ref l) H2)
def Kl(wi:TI)(ix:List Nat)(tt:TT)(te:TE)(i:Nat):TS:=λD σ H=>wi σ H λJ H1=>∀l,H1 l=none->lY J l (pick σ ix) tt te H1 (λH2=>D.nx (σ.set i (some (.ref l))) H2)
theorem di{Ok:Hp->Prop}{Q:Hp->Prop}(p:V->Bool)(g:V->V)(T:k4 J Ok xs)(hl:H l=none)(hz:xs.length<=sizeLine)(t:∀j,a7 H j->Ok j)
 (U:∀x r C,x∈xs->a7 H r->(∀j,a7 r j->C (p x) j)->tt (some x::I) r C)
 (he:∀x r C,x∈xs->p x=true->a7 H r->(∀j,a7 r j->C (g x) j)->te (some x::I) r C)
 (hd:∀j,a7 H j->j l=some (.lst ((xs.filter p).map g))->Q j):lY J l I tt te H Q:=by
 refine{λi m n d=>m=xs.length-i/\i<=xs.length/\a7 H d/\d l=some (.lst n)/\n=((xs.take i).filter p).map g,{xs.length,by simp,wal _,a7.upd hl,a6,by simp},?_};rintro i m n d ⟨rfl,hi,c,h,k⟩;refine{h,?_}
 by_cases a:i<xs.length
 .refine .inr {T.go i d (t _ c) a,?_,λx r y=>?_}
  .rw[k,ZI];refine waI (waT _ _) ?_;rw[wa5];omega
  .obtain⟨e,s⟩:=T.uC i d x r (t _ c) a y;subst e;have mem:x∈xs:=ZT s;have u:xs.take (i+1)=xs.take i++[x]:=by rw[waw,s];rfl
   refine U x _ _ mem c λw f=>?_
   cases q:p x with
   |false=>
    rw[if_neg wa2];refine{xs.length-(i+1),(),rfl,a,c.trans f,f _ _ h,?_};rw[u,wbk,k];simp[q]
   |true=>
    rw[if_pos rfl];refine he x _ _ mem q (c.trans f) λz v=>?_;refine{v _ _ (f _ _ h),xs.length-(i+1),(),rfl,a,?_,a6,?_}
    .intro b o e;rw[ae (af e hl)];exact v _ _ (f _ _ (c _ _ e))
    .rw[u,wbk,k];simp[q]
 .have e:i=xs.length:=();subst e;refine .inl {T.stop d (t _ c),hd d c ?_};rw[h,k,wam]
theorem Ey{Ok:Hp->Prop}{Q:Hp->Prop}(R:V->Prop)(r:k4 J Ok xs)(hl:H l=none)(C:xs.length<=sizeLine)(j:∀g,a7 H g->Ok g)
 (he:∀x p I,x∈xs->a7 H p->(∀y g,R y->a7 p g->I y g)->T (some x::t) p I)
 (hd:∀ys g,a7 H g->ys.length=xs.length->(∀y∈ys,R y)->g l=some (.lst ys)->Q g):lY J l t uH T H Q:=by
 refine{λi m ys a=>m=xs.length-i/\i<=xs.length/\a7 H a/\a l=some (.lst ys)/\ys.length=i/\∀y∈ys,R y,{xs.length,by simp,wal _,a7.upd hl,a6,rfl,λy f=>(nomatch f)},?_};rintro i m ys a ⟨rfl,hi,d,h,k,n⟩;refine{h,?_}
 by_cases c:i<xs.length
 .refine .inr {r.go i a (j _ d) c,by lia,λx p y=>?_};obtain⟨e,u⟩:=r.uC i a x p (j _ d) c y;subst e;unfold uH;dsimp only;rw[if_pos rfl];refine he x _ _ (ZT u) d λz v C s=>?_;refine{s _ _ h,xs.length-(i+1),by lia,rfl,c,?_,a6,by simp[k],λy f=>?_}
  .intro b o e;rw[ae (af e hl)];exact s _ _ (d _ _ e)
  .rcases waj.mp f with q |q
   .exact n y q
   .have:y=z:=by simpa using q
    subst this;exact C
 .have e:i=xs.length:=by lia
  subst e;exact .inl {r.stop a (j _ d),hd ys a d k n h}
set_option genInjectivity true in
inductive gL where
 |at (v:V)
 |tup (ds:List gL)
 |lst (ds:List gL)
mutual
def b7(K:ZK)(H:Hp):gL->V->Prop
 |.at x,v=>v=x/\mN x=true
 |.tup ds,v=>∃a xs,v=.ref a/\H a=some (.tup xs)/\aO K H ds xs
 |.lst ds,v=>∃a xs,v=.ref a/\Rd H a (.lst xs)/\aO K H ds xs
def aO(K:ZK)(H:Hp):List gL->List V->Prop
 |[],xs=>xs=[]
 |d::ds,xs=>∃v vs,xs=v::vs/\b7 K H d v/\aO K H ds vs
end
mutual
noncomputable def dep:gL->Nat
 |.at _=>0
 |.tup ds=>je ds+1
 |.lst ds=>je ds+1
noncomputable def je:List gL->Nat
 |[]=>0
 |d::ds=>max (dep d) (je ds)
end
noncomputable def Jr(q:Str×Str):gL:=.tup [.at (.str q.1),.at (.str q.2)]
theorem aO.pA{K:ZK}{H:Hp}:∀(g:List gL) (ys:List V),g.length=ys.length->(∀(i:Nat) (d:gL) (y:V),g[i]?=some d->ys[i]?=some y->b7 K H d y)->aO K H g ys
 |[],[],_,_=>rfl
 |[],_::_,h,_=>by simp at h
 |_::_,[],h,_=>by simp at h
 |d::g,y::ys,h,r=>{y,ys,rfl,r 0 d y rfl rfl,aO.pA g ys (by simpa using h) λi a b c e=>r (i+1) a b c e}
theorem ye{Ok:Hp->Prop}{Q:Hp->Prop}(R:Nat->V->Hp->Prop)(C:∀i y I g ys,R i y I->I l=some (.lst ys)->(∀b o,I b=some o->b≠l->g b=some o)->R i y g)(T:k4 J Ok xs)(hl:H l=none)(hz:xs.length<=sizeLine)(r:∀p,a7 H p->Ok p)
 (he:∀i x t ys Q',xs[i]?=some x->a7 H t->t l=some (.lst ys)->(∀y p,a7 t p->R i y p->Q' y p)->te (some x::U) t Q')
 (hd:∀ys p,a7 H p->p l=some (.lst ys)->ys.length=xs.length->(∀i y,ys[i]?=some y->R i y p)->Q p):lY J l U uH te H Q:=by
 refine{λi m a g=>m=xs.length-i/\i<=xs.length/\a7 H g/\g l=some (.lst a)/\a.length=i/\∀j y,a[j]?=some y->R j y g,{xs.length,by simp,wal _,a7.upd hl,a6,rfl,λj y h=>by simp at h},?_};rintro i m a g ⟨rfl,hi,f,k,c,B⟩;refine{k,?_}
 by_cases d:i<xs.length
 .refine .inr {T.go i g (r _ f) d,by rw[c];lia,λx t y=>?_};obtain⟨e,D⟩:=T.uC i g x t (r _ f) d y;subst e;unfold uH;dsimp only;rw[if_pos rfl];refine he i x _ a _ D f k λy s u v=>{u _ _ k,xs.length-(i+1),by lia,rfl,d,λb o e=>?_,a6,by rw[ZP,c];rfl,λj z n=>?_}
  .rw[ae (af e hl)];exact u _ _ (f _ _ e)
  .have q:=u _ _ k;have kp:∀b o,s b=some o->b≠l->(upd s l (.lst (a++[y]))) b=some o:=λb o e E=>by rw[ae E];exact e
   by_cases w:j<a.length
   .rw[wai w]at n;exact C j z s _ _ (C j z _ _ _ (B j z n) k λb o e _=>u _ _ e) q kp
   .rw[waf (by lia)]at n
    have A:j-a.length=0:=by
     have:=(ZO.mp n).1;simp at this
     lia
    rw[A]at n;cases n;have:j=i:=by lia
    rw[this];exact C i y s _ _ v q kp
 .have e:i=xs.length:=by lia
  subst e;exact .inl {T.stop g (r _ f),hd a g f k c B}
theorem aO.get{K:ZK}{H:Hp}:∀{g:List gL} {xs:List V},aO K H g xs->∀(i:Nat) (x:V),xs[i]?=some x->∃d,g[i]?=some d/\b7 K H d x
 |[],_,h,i,x,e=>by
  rw[show _=[] from h]at e;simp at e
 |d::g,_,h,i,x,e=>by
  obtain⟨v,a,rfl,b,hl⟩:=h
  cases i with
  |zero=>grind
  |succ i=>exact aO.get hl i x e
theorem gM{K:ZK}{H:Hp}{d:gL}{v:V}:∀{g:List gL} {xs:List V},aO K H g xs->b7 K H d v->aO K H (g++[d]) (xs++[v])
 |[],xs,h,r=>by
  have e:xs=[]:=h;subst e;exact{v,[],rfl,r,rfl}
 |c::g,_,h,r=>by
  obtain⟨v0,a,rfl,b,hl⟩:=h;exact{v0,a++[v],rfl,b,gM hl r}
theorem aO.pick{K:ZK}{H:Hp}(p:Nat->Bool):∀(k:Nat) (g:List gL) (xs:List V),aO K H g xs->aO K H (bf p k g) (bf p k xs)
 |_,[],xs,h=>by
  have e:xs=[]:=h;subst e;rfl
 |k,d::g,_,h=>by
  obtain⟨v,a,rfl,c,hl⟩:=h;have b:=aO.pick p (k+1) g a hl;show aO K H (if p k then d::bf p (k+1) g else bf p (k+1) g) (if p k then v::bf p (k+1) a else bf p (k+1) a)
  cases p k with
  |true=>exact{v,_,rfl,c,b}
  |false=>exact b
theorem aO.set{K:ZK}{H:Hp}{d:gL}{v:V}:∀{g:List gL} {xs:List V},aO K H g xs->∀i:Nat,b7 K H d v->aO K H (g.set i d) (xs.set i v)
 |[],xs,h,i,r=>by
  have e:xs=[]:=h;subst e;exact h
 |c::g,_,h,0,r=>by
  obtain⟨v0,a,rfl,b,hl⟩:=h;exact⟨v,a,rfl,r,hl⟩
 |c::g,_,h,i+1,r=>by
  obtain⟨v0,a,rfl,b,hl⟩:=h;exact{v0,a.set i v,rfl,b,aO.set hl i r}
def N3(C1 C2:Addr)(tb:LZ)(i:Nat):TS:=λD σ H=>tb (λσ' cv od H'=>(cv=.ref C1\/cv=.ref C2)/\D.nx (σ'.set i (some .non)) H') D σ H
end
section
variable{P:wad}{w:World}{H H':Hp}{h h':Heap}{a:Addr}{o:HO}
theorem bZ.lt(x:bZ P w H h a o):a<h.objs.size:=by
 cases o with
 |lst c=>obtain⟨_,_,_,_,e⟩:=x;exact ZX e
 |tup c=>obtain⟨_,_,_,p⟩:=x;exact p.lt
 |dK b=>obtain⟨_,_,_,_,o,_,_,e,_⟩:=x;exact ZX e
 |dT b=>obtain⟨_,_,_,_,o,_,_,e,_⟩:=x;exact ZX e
 |set S n=>obtain⟨o,_,_,_,e,_⟩:=x;exact ZX e
 |ins C d fs=>obtain⟨_,_,_,e,_⟩:=x;exact ZX e
 |own y=>obtain⟨_,e⟩:=x;exact ZX e
 |xd fs=>obtain⟨_,⟨_,_,_,e,_⟩,_⟩:=x;exact ZX e
 |rng lo hi=>obtain⟨_,_,_,e⟩:=x;exact ZX e
 |frz ob u=>obtain⟨e,_⟩:=x;exact ZX e
 |tbl ps=>exact ZX (show h.get? a=some _ from x)
 |met f y=>exact ZX (show h.get? a=some _ from x)
 |ext φ=>obtain⟨_,⟨_,e⟩,_⟩:=x;exact ZX e
theorem bZ.uK(x:bZ P w H h a o)(k:∀b u,(b=a\/H b=some (.own a))->h.get? b=some u->h'.get? b=some u)
 (I:∀b,H b=some (.own a)->H' b=some (.own a)) (J:∀b xs,H b=some (.tup xs)->H' b=some (.tup xs)):bZ P w H' h' a o:=by
 induction o with
 |lst xs=>obtain⟨z,j,n,r,e⟩:=x;exact{z,j,n,r,k _ _ (.inl rfl) e}
 |tup xs=>obtain⟨z,j,r,ob,e,c⟩:=x;exact{z,j,r,ob,k _ _ (.inl rfl) e,c}
 |dK l=>obtain⟨z,y,A,r,ob,g,i,e,c⟩:=x;exact{z,y,A,r,ob,g,i,k _ _ (.inl rfl) e,c}
 |dT l=>
  obtain⟨z,y,xs,r,ob,g,i,e,c⟩:=x;exact{z,y,xs,Paired.K9 r λp q z=>{z.1,J _ _ z.2.1,z.2.2},ob,g,i,k _ _ (.inl rfl) e,c}
 |set S n=>obtain⟨ob,g,i,t,e,c⟩:=x;exact{ob,g,i,t,k _ _ (.inl rfl) e,c}
 |ins C E fs=>
  obtain⟨d,z,ne,e,m,⟨s,g,i,B,c⟩,r⟩:=x;exact{I _ d,z,ne,k _ _ (.inl rfl) e,m,{s,g,i,k _ _ (.inr d) B,c},r}
 |own y=>obtain⟨ob,e⟩:=x;exact{ob,k _ _ (.inl rfl) e}
 |xd fs=>obtain⟨m,⟨s,g,i,e,c⟩,r⟩:=x;exact{m,{s,g,i,k _ _ (.inl rfl) e,c},r}
 |rng lo hi=>obtain⟨t,u,v,e⟩:=x;exact{t,u,v,k _ _ (.inl rfl) e}
 |frz ob u D=>obtain⟨e,q⟩:=x;exact{k _ _ (.inl rfl) e,D q}
 |tbl ps=>
  have e:h.get? a=some {cls:=.none,data:=.fields ps}:=x;show h'.get? a=some {cls:=.none,data:=.fields ps};exact k a _ (.inl rfl) e
 |met f y=>
  have e:h.get? a=some (weD (.ref f) (.ref y)):=x;show h'.get? a=some (weD (.ref f) (.ref y));exact k a _ (.inl rfl) e
 |ext φ=>obtain⟨p,⟨o,e⟩,st⟩:=x;exact⟨st _ _ p λo q=>k _ _ (.inl rfl) q,⟨o,k _ _ (.inl rfl) e⟩,st⟩
theorem jb.lt(x:jb P w H h)(e:H a=some o):a<h.objs.size:=(x a o e).lt
theorem jb.fresh(x:jb P w H h)(e:h.objs.size<=a):H a=none:=by
 cases q:H a with
 |none=>rfl
 |some u=>exact absurd (wa7 (x.lt q) e) (waW _)
theorem jb.kept(x:jb P w H h)(k:∀b u,h.get? b=some u->h'.get? b=some u):jb P w H h':=λa o e=>
 (x a o e).uK (λb u _ q=>k b u q) (λ_ q=>q) λ_ _ q=>q
theorem jb.laid(x:jb P w H h)(k:∀b u,h.get? b=some u->h'.get? b=some u)(g:h.objs.size<=a)(new:bZ P w (upd H a o) h' a o):jb P w (upd H a o) h':=λb u e=>by
 have hn:=x.fresh g
 by_cases d:b=a
 .grind [a6]
 .rw[ae d]at e;exact(x b u e).uK (λc v _ q=>k c v q) (λc q=>by rw[ae (af q hn)];exact q) λc f q=>by rw[ae (af q hn)];exact q
theorem Js(ok:jb P w H h)(e:Rd H a u):bZ P w H h a u:=e.ok ok
theorem lZ(ok:jb P w H h)(e:Rd H a (.dK kvs)):kvs.length<=sizeLine/\(a==wcG)=false/\∃vs,KV kvs vs/\h.DictOf (bF P w) a vs:=
 show bZ P w H h a (.dK kvs) from Js ok e
theorem sI(ok:jb P w H h)(e:H a=some (.dK kvs)):kvs.length<=sizeLine/\(a==wcG)=false/\∃vs,KV kvs vs/\h.DictOf (bF P w) a vs:=lZ ok (.inl e)
theorem sJ(ok:jb P w H h)(e:H a=some (.tup (ks.map kV))):(wfg (bF P w)).is h ks a:=by
 obtain⟨_,b,r,o,c,d,n,f⟩:=(show bZ P w H h a (.tup (ks.map kV)) from ok a _ e);exact{o,b.toArray,n,c,d,f,by simpa using vm r}
theorem yf(ok:jb P w H h)(e:Rd H a (.dT kvs)):kvs.length<=sizeLine/\(a==wcG)=false /\
 ∃xs,KT H kvs xs/\h.DictOfH (wfg (bF P w)) a xs:=by
 obtain⟨z,y,xs,r,o,b,c,d,f,g,i,j⟩:=(show bZ P w H h a (.dT kvs) from Js ok e);refine{z,y,xs,r,o,b,c,d,f,g,i,λx k=>?_,j}
 have all:∀{l:List (List Key×V)} {m:List (List Key×Addr×Value)},KT H l m->∀x∈m,(wfg (bF P w)).is h x.1 x.2.1:=by
  intro l m q
  induction q with
  |nil=>grind
  |@cons p q ps n s t u=>
   grind [sJ]
 exact all r x k
theorem N4(ok:jb P w H h)(e:H a=some (.dT kvs)):kvs.length<=sizeLine/\(a==wcG)=false /\
 ∃xs,KT H kvs xs/\h.DictOfH (wfg (bF P w)) a xs:=yf ok (.inl e)
theorem gU{X:Cx}{K:ZK}(g:X.K=K):jc X (waE .In) (Ol K false):=by
 subst g;exact vC
theorem uL{X:Cx}{K:ZK}(g:X.K=K):jc X (waE .NotIn) (Ol K true):=by
 subst g;exact jd
theorem gf{X:Cx}{K:ZK}(g:X.K=K):LY X (Mw K):=by
 subst g;exact b9
inductive SG(K:ZK)(b:Bool)(x y:V)(H:Hp)(Q:VK):Prop
 |mk (ds) (_:je ds<=50) (_:((b7 K H (.lst ds) x/\b7 K H (.lst ds) y)\/(b7 K H (.tup ds) x/\b7 K H (.tup ds) y))) (_:Q (.bl b) H)
end
section
variable{X:Cx}{pins:List (Addr×Obj)}{σ:List (Option V)}{H:Hp}{s:Shared}{h':Heap}
theorem Inv.lt(I:Inv X pins σ H s):X.env.locals<s.heap.objs.size:=let ⟨_,hn,_⟩:=I.loc;hn.lt
theorem Inv.sz(I:Inv X pins σ H s):X.s₀.heap.objs.size<=s.heap.objs.size:=wa0 I.ok.above (we3 I.lt)
theorem Inv.Q3(I:Inv X pins σ H s)(h:s.heap.objs.size<=a):a∉X.fs:=λb=>by
 obtain⟨_,o,c,_⟩:=I.ok.nE.mem b;exact absurd (wa7 (ZX c) (wa0 I.sz h)) (waW _)
theorem Inv.turned{t':Nat}{it:Addr}(I:Inv X pins σ H s)(k:∀b o,b≠it->s.heap.get? b=some o->h'.get? b=some o)(hn:H it=none)(g:it≠X.env.locals)
 (j:it∈X.ex\/X.s₀.heap.objs.size<=it) (l:∀x c,X.env.cells.lookup x=some c->c≠it) (t:∀p∈X.pn++pins,p.1≠it):Inv X pins σ H {s with heap:=h',toks:=t'}:=by
 have a:∀b u,H b=some u->b≠it:=λb u e z=>by rw[z,hn]at e;cases e
 refine I.step (g':=s.gens) (d':=s.drawn) (ch:=[it]) (λb d=>?_) (λb o _ _ hc e _=>k b o (λz=>hc (by simp[z])) e) (λb o _ _ hc e _=>{o.slots,k b o (λz=>hc (by simp[z])) e}) (λ_ _ _ _ n=>n)
  (λb o hc e=>{o,k b o (λz=>hc (by simp[z])) e}) (λ_ _ e=>e) (λ_ _ _ e=>e) (λb ps e=>{#[],by rw[e];simp}) (λm f=>?_) (λb u e=>?_) I.bare
 .have e:b=it:=by simpa using d
  subst e;exact⟨j,g,l,t⟩
 .obtain⟨o,h,i,w,r⟩:=f;exact{o,h,i,k _ o (wb4 g) w,r}
 .refine(I.bc b u e).uK (λc v hc q=>k c v ?_ q) (λ_ q=>q) λ_ _ q=>q;rcases hc with z |z
  .rw[z];exact a b u e
  .exact a c _ z
theorem vE{M:Model}{A:Around}{E:Value->Shared->Prop}{i:Nat}{x:Str}{v:V}{u:Value}{Q:Unit->Shared->Prop}(I:Inv X pins σ H s)(hN:X.N.Nodup)(hi:X.N[i]?=some x)(l:Loc X.env.scope x)(r:RelV v u)
 (h:∀s',Inv X pins (σ.set i (some v)) H s'->(∃a,weR a s.heap s'.heap/\(a=X.env.locals\/X.env.cells.lookup x=some a))->Q .unit s') (hf:X.fn x=true\/X.env.scope.names.lookup x=some .local:=by first |exact .inl rfl |exact .inr rfl |assumption):wpAny M A (storeName X.env x u) Q E s:=by
 obtain⟨m,hn,hl⟩:=id I.loc;have J:(X.env.scope.kind == .class ||(X.env.scope.kind == .module&&X.env.locals != X.env.globals))=false:=by rw[I.ok.kind];rfl
 have hiσ:i<σ.length:=by rw[I.len];exact(ZO.mp hi).1
 have Kc:=I.Kc
 have f:∀{a:Addr} {h':Heap},(∃o,s.heap.get? a=some o/\H a=none)->weR a s.heap h'->jb X.prog X.w H h':=λ{a h'} ha hs b ob e=>by
  obtain⟨_,_,t⟩:=ha;refine(I.bc b ob e).uK (λc T hc q=>(hs.2 c ?_).trans q) (λ_ q=>q) λ_ _ q=>q;rintro rfl;rcases hc with rfl |hc
  .rw[t]at e;cases e
  .rw[t]at hc;cases hc
 rcases l with hk |hk
 .refine wpAny_storeName_local hk hn (λh' Y hs=>?_) J;obtain⟨oL,_,_,Z,_⟩:=id hn;refine h _ {I.ok,I.os,I.bare,{λb o e n C l=>?_,λb o e n C l=>?_,I.base.free,λb o e l=>?_,I.base.se,I.base.ry,I.base.sf},{_,Y,λj y v' g B e3=>?_},λy c e=>?_,I.free,I.iM,λp hp=>?_,f ⟨oL,Z,I.free⟩ hs,by simpa using I.len} {_,hs,.inl rfl}
  .exact(hs.2 b (wa8 (wa7 (ZX e) I.ok.above))).trans (I.base.keep b o e n C l)
  .obtain⟨sl,g⟩:=I.base.slot b o e n C l;exact{sl,(hs.2 b (wa8 (wa7 (ZX e) I.ok.above))).trans g}
  .obtain⟨o',g⟩:=I.base.there b o e l;exact{o',(hs.2 b (wa8 (wa7 (ZX e) I.ok.above))).trans g}
  .by_cases D:j=i
   .subst D;rw[hi]at g;cases g;rw[wcN hiσ]at B;cases B;exact{u,r,.inl {hk,by simp}}
   .rw[wcj (wb4 D)]at B;obtain⟨u',r',q⟩:=hl j y v' g B e3;refine{u',r',?_};rcases q with⟨k,e⟩ |⟨k,c,e,z⟩
    .refine .inl {k,?_};have:y≠x:=λe=>D (xU hN g (e ▸ hi));simp[this,e]
    .exact .inr {k,c,e,z.sameBut hs (Kc y c e)}
  .obtain⟨T,z⟩:=I.cell y c e;exact{T,z.sameBut hs (Kc y c e)}
  .obtain⟨e,n,ne,nf,d⟩:=I.pin p hp;exact{(hs.2 p.1 ne).trans e,n,ne,nf,d}
 .have G:X.fn x=true:=by
   rcases hf with z |z
   .exact z
   .rw[z]at hk;cases hk
  obtain⟨c,hc⟩:=I.ok.has x (.inl hk);obtain⟨T,z⟩:=I.cell x c hc;refine wpAny_storeName_cell I.ok.kind hk hc z (λh' L hs=>?_);obtain⟨oc,O,R⟩:=id z;refine h {s with heap:=h'} {I.ok,I.os,I.bare,{λb o e n C l=>?_,λb o e n C l=>?_,I.base.free,λb o e l=>?_,I.base.se,I.base.ry,I.base.sf},{m,hn.sameBut hs (wb4 (Kc x c hc)),λj y v' g B e3=>?_},λy U e=>?_,I.free,I.iM,λp hp=>?_,f {oc,O,I.iM x c hc} hs,by simpa using I.len} {c,hs,.inr hc}
  .exact(hs.2 b (wa8 (wa7 (ZX e) (I.ok.K0 x c G hc)))).trans (I.base.keep b o e n C l)
  .obtain⟨sl,g⟩:=I.base.slot b o e n C l;exact{sl,(hs.2 b (wa8 (wa7 (ZX e) (I.ok.K0 x c G hc)))).trans g}
  .obtain⟨o',g⟩:=I.base.there b o e l;exact{o',(hs.2 b (wa8 (wa7 (ZX e) (I.ok.K0 x c G hc)))).trans g}
  .by_cases D:j=i
   .subst D;rw[hi]at g;cases g;rw[wcN hiσ]at B;cases B;exact{u,r,.inr {.inl hk,c,hc,L}}
   .rw[wcj (wb4 D)]at B;obtain⟨u',r',q⟩:=hl j y v' g B e3;refine{u',r',?_};rcases q with q |⟨k,U,e,z'⟩
    .exact .inl q
    .refine .inr {k,U,e,z'.sameBut hs ?_};rintro rfl;exact D (xU hN g (I.ok.inj _ _ _ e hc ▸ hi))
  .by_cases S:U=c
   .subst S;exact{_,L}
   .obtain⟨w2,z2⟩:=I.cell y U e;exact{w2,z2.sameBut hs S}
  .obtain⟨e,n,ne,nf,d⟩:=I.pin p hp;refine{(hs.2 p.1 ?_).trans e,n,ne,nf,d};intro q;rw[q,O]at e;have q':oc=p.2:=ZU e;exact d T (by rw[<-q'];exact R)
theorem iP{E:Value->Shared->Prop}{Q:Unit->Shared->Prop}(I:Inv X pins σ H s)(g:X.N.Nodup)(hi:X.N[i]?=some x)(j:Loc X.env.scope x)(r:RelV v u)
 (h:∀s',Inv X pins (σ.set i (some v)) H s'->Q .unit s') (l:X.fn x=true\/X.env.scope.names.lookup x=some .local:=by first |exact .inl rfl |exact .inr rfl |assumption):wpAny M A (storeName X.env x u) Q E s:=
 vE I g hi j r (λs' a _=>h s' a) l
theorem Cr{P:wad}{w:World}{K:ZK}{T:Expr}(a it:Addr):Turn P w K T (LW K a) [it] it (λi h=>h.IsListIter it a i) where
 mem:=by simp
 obj:=λi h st b g=>by
  have e:b=it:=by simpa using g
  subst e;obtain⟨o,e,c,d⟩:=st;exact{o,e,λv z=>by rw[d]at z;cases z}
 keep:=λi h l st k=>st.at λo e=>k it (by simp) o e
 item:=by
  intro X q hw r hc i f s σ H E I m st t;subst q hw r;obtain⟨L,x,n,y⟩:=t;obtain⟨A,B,p,M⟩:=I.list n;obtain⟨u,N,O⟩:=B.get y;obtain⟨C,f1,f2,D,G,J⟩:=m it (by simp);refine wpAny_pyNext_list_item st p.isList (x:=u) (by simpa using N) λl j sb=>?_;have Q:Inv X f σ H {s with heap:=l}:=I.turned (t':=s.toks) (λb o g e=>(sb.2 b g).trans e) C f1 D G J;obtain⟨o,e,c,d⟩:=id j;exact{u,rfl,xV (s:={s with heap:=l}) e c d ⋯ {x,H,Q,O,{rfl,λU R=>by rw[I.sH R n];exact y},j,λb g=>(m b g).1}}
 done:=by
   intro X q hw r hc i f s σ H E I m st t;subst q hw r;obtain⟨L,n,y⟩:=t;obtain⟨A,B,p,M⟩:=I.list n;obtain⟨C,f1,f2,D,G,J⟩:=m it (by simp);have hl:=B.length;exact wpAny_pyNext_list_end (I.ok.hd hc) st p.isList (by simp;lia) λl S=>{rfl,I.turned (t':=s.toks) (λb o g e=>S b o g e) C f1 D G J}
 self:=λ_ _ _ _ _ st h=>wpAny_pyIter_listiter st h
theorem zS{P:wad}{w:World}{K:ZK}{C:Expr}(it:Addr)(lo:Int)(n:Nat):Turn P w K C (Jg lo n) [it] it (λi h=>wfp h it (lo+(i:Nat)*1) ((n:Int)-(i:Nat)) 1) where
 mem:=by simp
 obj:=λi h st b c=>by
  have e:b=it:=by simpa using c
  subst e
  exact{_,st,λv z=>by
   have y:wfq _=wgp v:=z
   cases y}
 keep:=λi h f st k=>k it (by simp) _ st
 item:=by
  intro X j hw l hc i a s σ H E I g st m;subst j hw l;obtain⟨p,f1,f2,q,r,u⟩:=g it (by simp);have A:=Walks.range (prog:=X.prog) (w:=X.w) (I.ok.hd hc) it lo 1 n;refine A.item i s _ _ m st λv f x B d D=>?_;obtain⟨t,rfl⟩:=B;have G:Inv X a σ H {s with heap:=f,toks:=x}:=I.turned (λb o c e=>D b o (by simpa using c) e) p f1 q r u;refine{_,rfl,xV (s:={s with heap:=f,toks:=x}) (n:="range_iterator") d rfl rfl ⋯ {.int (lo+i),H,G,{t,?_},⟨rfl,rfl⟩,d,λb c=>(g b c).1}};rw[Int.mul_one]
 done:=by
   intro X j hw l hc i a s σ H E I g st m;subst j hw l;obtain⟨p,f1,f2,q,r,u⟩:=g it (by simp);exact wfr (I.ok.hd hc) st (by have:n<=i:=m;lia) λf J=>{rfl,I.turned (t':=s.toks) (λb o c e=>J b o c e) p f1 q r u}
 self:=λ_ _ _ _ _ st h=>wfs st h
set_option genInjectivity true in
inductive fH(K:ZK)(H:Hp):V->Value->Prop where
 |non:fH K H .non (.type "NoneType")
 |bl (x:Bool):fH K H (.bl x) (.type "bool")
 |int (i:Int):fH K H (.int i) (.type "int")
 |str (x:Str):fH K H (.str x) (.type "str")
 |flt (x:UInt64):fH K H (.flt x) (.type "float")
 |lst {a:Addr} {xs:List V} (e:H a=some (.lst xs)):fH K H (.ref a) (.type "list")
 |frz {a:Addr} {o:Obj} {xs:List V} (e:H a=some (.frz o (.lst xs))):fH K H (.ref a) (.type "list")
 |tup {a:Addr} {xs:List V} (e:H a=some (.tup xs)):fH K H (.ref a) (.type "tuple")
 |dK {a:Addr} {kvs:List (Key×V)} (e:H a=some (.dK kvs)):fH K H (.ref a) (.type "dict")
 |dT {a:Addr} {kvs:List (List Key×V)} (e:H a=some (.dT kvs)):fH K H (.ref a) (.type "dict")
 |ins {a C dx:Addr} {fs:List (Str×V)} (e:H a=some (.ins C dx fs)) (cl:zx K C) (ha:waS K (.ref C) "__class__"=some (some (.builtin "object.__class__")))
   (hn:wgA K (.builtin "object.__class__") "__get__"=some (some (.builtin "getset_descriptor.__get__"))) (nC:PySem.W.takesIn K (.builtin "object.__class__")=some true)
   (hm:PySem.W.mroIn K C (.type "object")=some true):fH K H (.ref a) (.ref C)
end
section
variable{X:Cx}{e:Expr}{es:List Expr}{te:TE}{t:TJ}{pos:Pos}
theorem bL(he:PE X e te)(hs:wbD e none pos.line X.env=pure false:=by rfl):PS X (.Expr e pos) (MV te):=by
 refine{?_};intro a s σ H D I h;exact wpAny_Expr_any (bS (he a s σ H _ I h) λv f ⟨x,b,c,g,d⟩=>⟨σ,b,c,d⟩) I.quiet hs
theorem aw(he:PE X e te):PS X (.Return (some e) pos) (PR te):=by
 refine{?_};intro a s σ H D I h;exact wpAny_Return_some (bS (he a s σ H _ I h) λv g ⟨x,b,c,d,f⟩=>⟨x,σ,b,c,d,f⟩)
theorem jf(g:X.N.Nodup)(hi:X.N[i]?=some x)(j:Loc X.env.scope x)(l:X.fn x=true\/X.env.scope.names.lookup x=some .local:=by first |exact .inl rfl |exact .inr rfl |assumption):PG X (.Name x pos) (eI i):=by
 refine{?_};intro a s σ H v u Q I r h;exact wpAny_assign_Name (iP I g hi j r (λc b=>{_,H,b,h}) l)
theorem cW(h:PE X e te):PO X (some e) (Mv te):=by
 refine{?_};intro a s σ H Q I hw;rw[evalPart_some];refine bS (h a s σ H _ I hw) λu g ⟨x,b,c,d,f⟩=>?_;obtain⟨i,rfl,q⟩:=f;obtain⟨t,rfl⟩:=d;exact{some i,b,c,.int i t,q}
noncomputable def Q4(z:Str)(t:TJ):TJ:=λacc σ H Q=>(acc++z).length<=sizeLine/\t (acc++z) σ H Q
noncomputable def Q6(te:TE)(t:TJ):TJ:=λacc σ H Q=>te σ H λv H1=>(∃i,v=.int i/\i.natAbs.log2<1920/\(acc++(toString i:String)).length<=sizeLine/\t (acc++(toString i:String)) σ H1 Q)\/(∃z,v=.str z/\z.length<=sizeLine/\(acc++z).length<=sizeLine/\t (acc++z) σ H1 Q)
theorem Hn(h:PJ X (e::g::es) t):PE X (.JoinedStr (e::g::es) pos) (λσ H Q=>t Str.empty σ H λz j=>Q (.str z) j):={λa s σ H Q I q=>
 JoinedStr_many (bS (h a s σ H _ _ I q) λu f ⟨z,b,c,r,d⟩=>{.str z,b,c,r,d})}
theorem forA(hi:PI X j iter l)(r:PG X j g)(I:uE X body J)(T:PassesOwn (model X.prog X.w) X.A X.env X.xe:=by exact wcH)(hc:X.calm=true:=by rfl)(hs:∀x,wbr iter X.env x=pure x:=by intro _;rfl):PS X (.For j iter body [] pos) (MX l g J):=Ew T hc hi r I hs
end
section
variable{t u:TS}
def Km(t u:TS):TS:=λD σ H=>t (D.Jo (u D)) σ H
def Q7(c:TT)(t u:TS):TS:=λD σ H=>c σ H λb H1=>if b=true then t D σ H1 else u D σ H1
theorem Inv.zT{X:Cx}(I:Inv X g σ H s)(j:s.heap.objs.size<=b)(hn:l b=none):si X g l b:=by
 refine{hn,wc3 (wa7 I.lt j),I.Q3 j,.inr (wa0 I.sz j),λx c e z=>?_,λp a z=>?_}
 .obtain⟨v,q⟩:=I.cell x c e;exact absurd (wa7 q.lt (by rw[z];exact j)) (waW _)
 .exact absurd (wa7 (ZX (I.pin p a).1) (by rw[z];exact j)) (waW _)
theorem yg{X:Cx}(I:Inv X j σ H s)(g:eK H a y o):s.TypeIs (.ref a) "dict":=by
 rcases g with⟨c,k,e,_,_⟩ |⟨c,k,b,e,_,_,_⟩
 .obtain⟨_,_,f,_,d⟩:=lZ I.bc e;exact d.typeIs
 .obtain⟨_,_,h,_,d⟩:=yf I.bc e;exact d.typeIs
inductive Q8(t u:TS)(D:Ends)(σ:St)(H:Hp):Prop
 |mk (Z) (_:t (D.Jo Z) σ H) (_:∀σ' H',Z σ' H'->u D σ' H')
theorem vF{X:Cx}(g:Bq X E):Passes (yc X.prog X.w) X E:=λa σ H s k d I h=>by
 obtain⟨e,C,f,i,rfl,c,bare,un,bc,F,j⟩:=h;exact g a σ i d e C f (I.vA c un bc bare λb z=>absurd z (by simp)) (F.low I.sz) j
theorem zU{X:Cx}(I:Inv X g σ H s)(e:H d=some (.frz o (.dK kvs)))(j:o.data=.dict p ep) :
 ∃vs,KV kvs vs/\s.heap.DictAt (bF X.prog X.w) d vs ep:=by
 obtain⟨f,_⟩:=I.bc d _ e;obtain⟨_,_,vs,rel,h,a,i,b,k,c,l⟩:=lZ I.bc (.inr ⟨o,e⟩);refine{vs,rel,h,a,b,k,?_,l};rw[f]at b;cases b;rw[c]at j;cases j;exact c
end
section
variable{X:Cx}{pins:List (Addr×Obj)}{σ:St}{H:Hp}{s:Shared}{E:Value->Shared->Prop}
theorem Inv.mL(I:Inv X pins σ H s)(E:Value->Shared->Prop):Inv (X.mL E) pins σ H s:={I.ok.mL E,I.os,I.bare,I.base,I.loc,I.cell,I.free,I.iM,I.pin,I.bc,I.len}
theorem Inv.fN(I:Inv (X.mL E) pins σ H s):Inv X pins σ H s:=⟨I.ok.fN,I.os,I.bare,I.base,I.loc,I.cell,I.free,I.iM,I.pin,I.bc,I.len⟩
theorem SP.fN(h:SP (X.mL E) pins D f s'):SP X pins D f s':=by
 cases f with
 |next=>obtain⟨a,b,I,q⟩:=h;exact⟨a,b,I.fN,q⟩
 |brk=>obtain⟨a,b,I,q⟩:=h;exact⟨a,b,I.fN,q⟩
 |cont=>obtain⟨a,b,I,q⟩:=h;exact⟨a,b,I.fN,q⟩
 |ret u=>obtain⟨v,a,b,I,r,q⟩:=h;exact⟨v,a,b,I.fN,r,q⟩
theorem uE.Jf{st:List Stmt}{t:TS}(h:uE X.Jf st t):uE X st t:={λpins s σ H D I hw=>
 waF (h pins s σ H D (I.mL _) hw) (λ_ _ q=>q.fN) λ_ _ z=>waz z}
theorem Inv.Ho(I:Inv X pins σ H s):zN X.prog X.w X.K X.mg X.base X.A X.stack s H:=
 {I.ok.frames,I.ok.mod,I.bs,wa0 I.ok.E5 I.sz,I.stack,I.rQ,I.bc,I.bare}
theorem Inv.fresh(I:Inv X pins σ H s):H s.heap.objs.size=none:=I.bc.fresh (ZS _)
theorem Inv.big(I:Inv X pins σ H s):wcG<s.heap.objs.size:=by
 have h:wax<s.heap.objs.size:=(I.mod.glob.keeps I.bk).lt;exact Nat.lt_trans ⋯ h
end
section
variable{X:Cx}{a b:Expr}{pos:Pos}{tA Ov:TT}{rest:List Expr}
theorem Kn(ha:PT X a tA)(j:PW X (.BoolOp .And (b::rest) pos) Ov):PW X (.BoolOp .And (a::b::rest) pos) (Pg tA Ov):=by
 refine{?_};intro i d s σ H Q I h;refine isTrue_and (bS (ha d s σ H _ I h) λc k ⟨e,f,g⟩=>?_)
 cases c with
 |true=>exact j i d k σ e Q f g
 |false=>exact⟨e,f,g⟩
theorem cL(ha:PT X a tA)(j:PW X (.BoolOp .Or (b::rest) pos) Ov):PW X (.BoolOp .Or (a::b::rest) pos) (UQ tA Ov):=by
 refine{?_};intro i d s σ H Q I h;refine isTrue_or (bS (ha d s σ H _ I h) λc k ⟨e,f,g⟩=>?_)
 cases c with
 |true=>exact⟨e,f,g⟩
 |false=>exact j i d k σ e Q f g
theorem Ez{i:Nat}{x:Str}{e:Expr}{j:TE}{g:Pos}(l:X.N.Nodup)(hi:X.N[i]?=some x)(p:Loc X.env.scope x)(he:PE X e j)(hs:wbD e (some (.Name x g)) pos.line X.env=pure false:=by rfl)(r:X.fn x=true\/X.env.scope.names.lookup x=some .local:=by first |exact .inl rfl |exact .inr rfl |assumption) :
 PS X (.Assign [.Name x g] e pos) (Hk j (eI i)):=by
 refine{?_};intro a s σ H D I h;refine wdz (bS (he a s σ H _ I h) λv m ⟨y,b,c,d,f⟩=>?_) hs;exact iP c l hi p d (λn k=>{_,b,k,f}) r
theorem sL{i:Nat}{x:Str}{e:Expr}{p:TE}{op:Operator}{t:Ml}{g:Pos}(C:X.N.Nodup)(hi:X.N[i]?=some x)(j:Loc X.env.scope x)(he:PE X e p)(J:Ot X op t)(T:X.fn x=true\/X.env.scope.names.lookup x=some .local:=by first |exact .inl rfl |exact .inr rfl |assumption) :
 PS X (.AugAssign (.Name x g) op e pos) (PY i p t):=by
 refine{?_};intro a s σ H D I h;obtain⟨v,o,h⟩:=h;obtain⟨m,hn,hl⟩:=I.loc;have n:Mj X.env.scope x:=by rcases j with k |k;exact .inl k;exact .inr (.inl k)
 obtain⟨u,r,l⟩:=hl i x v hi o n;refine wpAny_AugAssign_Name ?_
 have go:wpAny (model X.prog X.w) X.A (eval e X.env) (λw d=>wpAny (model X.prog X.w) X.A (inplaceOp op u w) (λr f=>wpAny (model X.prog X.w) X.A (storeName X.env x r) (λ_=>SP X a D .next) X.xe f) X.xe d) X.xe s:=by
  refine bS (he a s σ H _ I h) λw q ⟨y,B,E,G,L⟩=>?_;refine bS (J a q σ B v y u w _ E r G L) λz V ⟨Y,M,O,Q,R⟩=>?_;exact iP O C hi j Q (λZ S=>{_,M,S,R}) T
 rcases l with⟨hk,U⟩ |⟨hk,c,hc,b⟩
 .exact wfR I.ok.kind hk hn U go
 .rcases hk with hk |hk
  .exact wg9 I.ok.kind hk hc b go
  .rcases j with k |k
   .have:X.env.scope.names.lookup x=some .free:=hk;rw[k]at this;cases this
   .have:X.env.scope.names.lookup x=some .free:=hk;rw[k]at this;cases this
theorem EA(I:Inv X g σ H s)(r:RelV x v)(ty:PZ X.K T x H) :
 s.TypeIs v T/\∀a,v=.ref a->∃ob,s.heap.get? a=some ob/\ob.dict=none:=by
 cases x with
 |str z=>
  obtain⟨t,rfl⟩:=r;cases(show T="str" from ty);exact{typeIs_str s z t,λ_ e=>nomatch e}
 |int i=>
  obtain⟨t,rfl⟩:=r;cases(show T="int" from ty);exact{typeIs_int s i t,λ_ e=>nomatch e}
 |ref p=>
  cases r;rcases ty with⟨rfl,j,f⟩ |⟨rfl,o,hk,hc,hd⟩ |⟨rfl,hk⟩ |⟨rfl,S,n,hk⟩
  .obtain⟨h,_,pl,_⟩:=I.list f;refine{pl.isList.typeIs,λa e=>?_};cases e;obtain⟨o,n,e,c,hd,_⟩:=pl;exact⟨o,e,hd⟩
  .refine{{o,I.gC p o hk,hc},λa e=>?_};cases e;exact{o,I.gC _ o hk,hd}
  .have z:∃o,s.heap.get? p=some o/\o.ExactDict:=by
    rcases hk with⟨b,hk⟩ |⟨b,hk⟩
    .obtain⟨_,_,_,_,o,_,_,e,ex,_⟩:=I.bc p _ hk;exact⟨o,e,ex⟩
    .obtain⟨_,_,_,_,o,_,_,e,ex,_⟩:=I.bc p _ hk;exact⟨o,e,ex⟩
   obtain⟨o,e,ex⟩:=z;refine{⟨o,e,ex.1⟩,λa d=>?_};cases d;exact⟨o,e,ex.2.1⟩
  .obtain⟨o,_,_,_,e,ex,_⟩:=I.bc p _ hk;refine{⟨o,e,ex.1⟩,λa d=>?_};cases d;exact⟨o,e,ex.2.1⟩
 |_=>exact waz ty
theorem AP.fN{E:Value->Shared->Prop}{Q:List V->Hp->Prop}(h:AP (X.mL E) g σ Q us s'):AP X g σ Q us s':=by
 obtain⟨a,b,I,r,q⟩:=h;exact⟨a,b,I.fN,r,q⟩
end
section
variable{X:Cx}{st:Stmt}{rest:List Stmt}{t u:TS}
theorem a5(g:PS X st t)(j:uE X rest u):uE X (st::rest) (Km t u):=by
 refine{?_};intro a s σ H D I h;refine wcr (bS (g a s σ H (D.Jo (u D)) I h) λf c q=>?_)
 cases f with
 |next=>
  obtain⟨b,d,e,q⟩:=q;exact j a c b d D e q
 |ret v=>exact q
 |brk=>exact q
 |cont=>exact q
theorem a9(g:PS X st t):uE X [st] t:=by
 refine{?_};intro a s σ H D I h;refine wcr (bS (g a s σ H D I h) λf b q=>?_)
 cases f with
 |next=>exact wbQ q
 |ret v=>exact q
 |brk=>exact q
 |cont=>exact q
theorem Hq(g:PS X st t)(j:uE X rest u):uE X (st::rest) (Q8 t u):=by
 refine{?_};intro a s σ H D I h;obtain⟨Z,d,e⟩:=h;refine wcr (bS (g a s σ H (D.Jo Z) I d) λf i q=>?_)
 cases f with
 |next=>
  obtain⟨b,c,k,q⟩:=q;exact j a i b c D k (e b c q)
 |ret v=>exact q
 |brk=>exact q
 |cont=>exact q
end
section
variable{fs ex:List Addr}{H:Hp}{h h':Heap}{a:Addr}{o:HO}
theorem Un.kept(k:∀b u,h.get? b=some u->h'.get? b=some u):Un fs ex H H h h':=
 {λb ob q _ _ _=>k b ob q,λb ob q _ _ _=>{ob.slots,k b ob q},λ_ _ _ n _=>n,λb ob q _=>{ob,k b ob q},λ_ _ q=>q,λ_ _ _ q=>q,λ_ ps q=>{#[],by rw[q];simp}}
theorem Un.refl:Un fs ex H H h h:=Un.kept λ_ _ q=>q
theorem Un.laid(k:∀b u,h.get? b=some u->h'.get? b=some u)(g:h.objs.size<=a)(hn:H a=none):Un fs ex H (upd H a o) h h' where
 keep:=λb u q _ _ _=>k b u q
 slot:=λb u q _ _ _=>{u.slots,k b u q}
 free:=λb u q n _=>by rw[ae (wa8 (wa7 (ZX q) g))];exact n
 there:=λb u q _=>{u,k b u q}
 se:=λb c q=>by rw[ae (af q hn)];exact q
 ry:=λb u c q=>by rw[ae (af q hn)];exact q
 sf:=λb ps q=>{#[],by rw[ae (af q hn),q];simp}
end
section
variable{X:Cx}{pins:List (Addr×Obj)}{σ:List (Option V)}{H:Hp}{s:Shared}{h':Heap}
theorem Inv.tok(I:Inv X pins σ H s)(t:Nat):Inv X pins σ H {s with toks:=t}:=I.un (h':=s.heap) (t':=t) Un.refl I.bc
theorem Inv.kept(I:Inv X pins σ H s)(k:∀b u,s.heap.get? b=some u->h'.get? b=some u):Inv X pins σ H {s with heap:=h',toks:=t'}:=I.un (Un.kept k) (I.bc.kept k)
theorem Inv.laid(I:Inv X pins σ H s)(k:∀b u,s.heap.get? b=some u->h'.get? b=some u)(g:s.heap.objs.size<=a)(new:bZ X.prog X.w (upd H a o) h' a o) :
 Inv X pins σ (upd H a o) {s with heap:=h',toks:=t'}:=I.un (Un.laid k g (I.bc.fresh g)) (I.bc.laid k g new)
theorem aq{i j pos}:PE X (.Constant (.int i) j pos) (tC (.int i)):={λ_ _ _ H _ I h=>wpAny_Constant_int {.int i,H,I.tok _,{_,rfl},h}}
theorem eE{x j pos}:PE X (.Constant (.str x) j pos) (tC (.str x)):={λ_ _ _ H _ I h=>wgq {.str x,H,I.tok _,{_,rfl},h}}
theorem EB:Ot X .Add (UR λi j=>i+j):=by
 intro a s σ H x y v u Q I b c h;obtain⟨i,j,d,e,q⟩:=h;subst d;subst e;obtain⟨t,rfl⟩:=b;obtain⟨f,rfl⟩:=c;exact iadd_int {.int _,H,I.tok _,{_,rfl},q}
theorem EC:LY X Pn:=by
 intro value slice a s σ H x y v u Q I b d h hs;obtain⟨z,i,c,rfl,rfl,l,e,q⟩:=h;obtain⟨t,rfl⟩:=b;obtain⟨m,rfl⟩:=d;obtain⟨j,f,n,o,g,k⟩:=wJ e;have hl:z.cps.toList.length=z.length:=by simp[wcY]
 rw[hl]at f g k;have hn:=mM
 exact tail_any (typeIs_str s z t) slot_str_getitem.lookup (getItem_str (c:=c) (by
  grind) (by grind) {.str {#[c]},H,I.tok _,{_,rfl},q}) hs
theorem Ko:PJ X [] Pw:={λb s σ H a Q I h=>joinParts_nil {a,H,I.tok _,{_,rfl},h.2} h.1}
end
section
variable{X:Cx}{tg:Expr}
theorem aM{l:Expr}{g:TE}(hl:PE X l g):PI X tg l (Mm X.K g):=by
 refine{?_};intro c s σ H R I h;refine bS (hl c s σ H _ I h) λv d ⟨x,i,f,j,k⟩=>?_;obtain⟨a,e,⟨t,m⟩,q⟩:=k;subst e;cases j;obtain⟨n,u,p,w⟩:=f.list m;refine wch p.isList ?_;refine{d.heap.objs.size,[d.heap.objs.size],_,_,i,rfl,f.kept (t':=d.toks) λb o e=>ZQ _ e,Cr a _,{_,wa9 _ rfl,rfl,rfl},λb r=>?_,q};have e:b=d.heap.objs.size:=by simpa using r
 subst e;exact f.zT (ZS _) (f.bc.fresh (ZS _))
theorem yh{g:List (Addr×Obj)}{σ:St}{H:Hp}{s:Shared}{R:It->Hp->Prop}{E:Value->Shared->Prop}{lo hi:Int}{t u v:Tok}{tk:Nat}(I:Inv X g σ H s)(j:-(2^62)<=lo)(l:lo<2^62)(p:-(2^62)<=hi)(r:hi<2^62)
 (q:R (Jg lo (hi-lo).toNat) H):wpAny (model X.prog X.w) X.A (pyIter (.ref s.heap.objs.size)) (MT X g σ tg R) E {s with heap:=s.heap.push {cls:=.type "range",data:=.fields #[.int lo t,.int hi u,.int 1 v]},toks:=tk}:=by
 refine wpAny_pyIter_range (whr ..) (small_one j l p r) ?_;have a:Inv X g σ H {s with heap:=s.heap.push {cls:=.type "range",data:=.fields #[.int lo t,.int hi u,.int 1 v]},toks:=tk}:=I.kept λb o e=>ZQ _ e
 refine{(s.heap.push {cls:=.type "range",data:=.fields #[.int lo t,.int hi u,.int 1 v]}).objs.size,[(s.heap.push {cls:=.type "range",data:=.fields #[.int lo t,.int hi u,.int 1 v]}).objs.size],_,_,H,rfl,
  a.kept (t':=tk) λb o e=>ZQ _ e,zS _ lo (hi-lo).toNat,?_,λb c=>?_,q}
 .have d:lo+((0:Nat):Int)*1=lo:=by simp
  have f:(((hi-lo).toNat:Nat):Int)-((0:Nat):Int)=wcw lo hi 1:=by rw[rangeSize_one];split<;>lia
  show wfp _ _ (lo+((0:Nat):Int)*1) ((((hi-lo).toNat:Nat):Int)-((0:Nat):Int)) 1;rw[d,f];exact wa9 _ rfl
 .have e:b=(s.heap.push {cls:=.type "range",data:=.fields #[.int lo t,.int hi u,.int 1 v]}).objs.size:=by simpa using c
  subst e;exact a.zT (ZS _) (a.bc.fresh (ZS _))
theorem dj(g:Gl X "range")(l:X.mg "range"=none)(ha:PA X [a] C)(hs:starEach [a] X.env=[(false,eval a X.env)]:=by rfl):PI X tg (.Call (.Name "range" p) [a] [] pos) (Mo C):=by
 refine{?_};intro b s σ H R I h;refine Call_ (gT I g l boot_range (wbE (bS (ha pos b s σ H _ I h) λm n ⟨o,u,d,f,c⟩=>?_) hs rfl));obtain⟨j,e,c,i,q⟩:=c;subst e
 cases f with
 |cons r k=>
  cases k;obtain⟨t,rfl⟩:=r;exact call_range_1 (yh d (by lia) (by lia) c i (by simpa using q))
theorem pB(l:Gl X "range")(C:X.mg "range"=none)(ha:PA X [a,b] J)(hs:starEach [a,b] X.env=[(false,eval a X.env),(false,eval b X.env)]:=by rfl)(g:starEach [b] X.env=[(false,eval b X.env)]:=by rfl) :
 PI X tg (.Call (.Name "range" p) [a,b] [] pos) (Mp J):=by
 refine{?_};intro c s σ H R I h;refine Call_ (gT I l C boot_range (wbE (bS (ha pos c s σ H _ I h) λw x ⟨y,z,k,m,d⟩=>?_) (by rw[hs,g]) (by rw[g];rfl)));obtain⟨i,j,e,⟨d,n,o,u⟩,q⟩:=d;subst e
 cases m with
 |cons r f=>
  cases f with
  |cons v f=>
   cases f;obtain⟨t,rfl⟩:=r;obtain⟨A,rfl⟩:=v;exact call_range_2 (yh k d n o u q)
theorem Ow{f:Value->Value->Sem Value}{C:Int->Int->Prop}{g:Int->Int->Int}
 (rule:∀(i j:Int) (t u:Tok) (s:Shared) (Q:Value->Shared->Prop) (E:Value->Shared->Prop),C i j->Q (.int (g i j) s.toks) {s with toks:=s.toks+1}->wpAny (model X.prog X.w) X.A (f (.int i t) (.int j u)) Q E s) :
 jc X f (rI C λi j=>.int (g i j)):=by
 intro a s σ H x y v u Q I b c h;obtain⟨i,j,rfl,rfl,hc,q⟩:=h;obtain⟨t,rfl⟩:=b;obtain⟨d,rfl⟩:=c;exact rule i j t d s _ _ hc {.int (g i j),H,I.tok _,{_,rfl},q}
theorem N5{f:Value->Value->Sem Value}{g:Int->Int->Int}
 (rule:∀(i j:Int) (t u:Tok) (s:Shared) (Q:Value->Shared->Prop) (E:Value->Shared->Prop),Q (.int (g i j) s.toks) {s with toks:=s.toks+1}->wpAny (model X.prog X.w) X.A (f (.int i t) (.int j u)) Q E s) :
 jc X f (Jh λi j=>.int (g i j)):=by
 intro a s σ H x y v u Q I b c h;obtain⟨i,j,rfl,rfl,q⟩:=h;obtain⟨t,rfl⟩:=b;obtain⟨d,rfl⟩:=c;exact rule i j t d s _ _ {.int (g i j),H,I.tok _,{_,rfl},q}
theorem gq:jc X (binaryOp .Add) (Jh λi j=>.int (i+j)):=N5 λ_ _ _ _ _ _ _ q=>add_int q
theorem mU:jc X (binaryOp .Sub) (Jh λi j=>.int (i-j)):=N5 λ_ _ _ _ _ _ _ q=>sub_int q
theorem gV:jc X (binaryOp .Mult) (rI GR λi j=>.int (i*j)):=Ow λ_ _ _ _ _ _ _ hc q=>mul_int q hc.ok
theorem nO:jc X (binaryOp .FloorDiv) (rI Pm λi j=>.int (i/j)):=Ow λi j _ _ _ _ _ hc q=>by
 have a:(0:Int)<j:=hc.1;have b:j<1073741824:=hc.2;exact floordiv_int () (by rw[Int.fdiv_eq_ediv_of_nonneg i ()];exact q) (.inl (wft ()))
theorem eF:jc X (binaryOp .Mod) (rI (λ_ j=>0<j) λi j=>.int (i%j)):=Ow λi j _ _ _ _ _ hc q=>by
 have a:(0:Int)<j:=hc;exact mod_int' (by lia) (by rw[Int.fmod_eq_emod_of_nonneg i (by lia)];exact q)
theorem Va{f:Value->Sem Value}{g:Int->Int}
 (rule:∀(i:Int) (t:Tok) (s:Shared) (Q:Value->Shared->Prop) (E:Value->Shared->Prop),Q (.int (g i) s.toks) {s with toks:=s.toks+1}->wpAny (model X.prog X.w) X.A (f (.int i t)) Q E s) :
 PN X f (rU λi=>.int (g i)):=by
 intro a s σ H x v Q I b h;obtain⟨i,rfl,q⟩:=h;obtain⟨t,rfl⟩:=b;exact rule i t s _ _ {.int (g i),H,I.tok _,{_,rfl},q}
theorem ED:PN X (unaryOp .USub) (rU λi=>.int (-i)):=Va λ_ _ _ _ _ q=>neg_int q
theorem jg:jc X (binaryOp .Add) (λx y H Q=>∃i j,x=.str i/\y=.str j/\i.length+j.length<=sizeLine/\Q (.str (i++j)) H):=by
 intro a s σ H x y v u Q I b c h;obtain⟨i,j,rfl,rfl,d,q⟩:=h;obtain⟨t,rfl⟩:=b;obtain⟨e,rfl⟩:=c;exact add_str (λe f=>{.str (i++j),H,I.tok _,{_,rfl},q}) d
theorem yi:jc X (inplaceOp .Add) (λx y H Q=>∃i j,x=.str i/\y=.str j/\i.length+j.length<=sizeLine/\Q (.str (i++j)) H):=by
 intro a s σ H x y v u Q I b c h;obtain⟨i,j,rfl,rfl,d,q⟩:=h;obtain⟨t,rfl⟩:=b;obtain⟨e,rfl⟩:=c;exact iadd_str (λe f=>{.str (i++j),H,I.tok _,{_,rfl},q}) d
theorem Ct(hc:X.calm=true):dM X (.builtin "max") (λxs H Q=>∃i j,xs=[.int i,.int j]/\Q (.int (if j>i then j else i)) H):=by
 intro b s σ H xs c Q I r h;obtain⟨i,j,rfl,q⟩:=h;obtain⟨u,d,rfl,⟨t,rfl⟩,⟨e,rfl⟩⟩:=vals2 r;refine max_two_ints (I.ok.hd hc) λf g k=>{_,H,I.kept k,?_,q}
 by_cases a:j>i
 .rw[if_pos a,if_pos a];exact{_,rfl}
 .rw[if_neg a,if_neg a];exact{_,rfl}
theorem pC(hc:X.calm=true):dM X (.builtin "min") (λxs H Q=>∃i j,xs=[.int i,.int j]/\Q (.int (if j<i then j else i)) H):=by
 intro b s σ H xs c Q I r h;obtain⟨i,j,rfl,q⟩:=h;obtain⟨u,d,rfl,⟨t,rfl⟩,⟨e,rfl⟩⟩:=vals2 r;refine min_two_ints (I.ok.hd hc) λf g k=>{_,H,I.kept k,?_,q}
 by_cases a:j<i
 .rw[if_pos a,if_pos a];exact{_,rfl}
 .rw[if_neg a,if_neg a];exact{_,rfl}
theorem Cu{CX:DV}{P:wad}{w:World}{K:ZK}{mg:Str->Option Value}{base:Heap}{N ps:List Str}{g:Str}{scope:wct}{f:Addr}{cd:Value}{A:Around}{outer:List Env}{s s1:Shared}{H:Hp}{E:XK}{us:List Value}{vs:List V}
 (S:rM N ps scope) (hd:A.handled=none) (j:zN P w K mg base A outer s H) (hl:vs.length=ps.length) (r:Vals vs us)
 (x:InCallC s s.heap.objs.size (bindL (envOfC g scope s.heap.objs.size f cd).kindOf (ps.zip us) λ_=>none) (cellsFrom (s.heap.objs.size+1) scope.names []) (bindC (envOfC g scope s.heap.objs.size f cd).kindOf (ps.zip us) λ_=>none) s1) :
 Inv (sE CX P w K mg base N g scope f cd A outer s H E) [] (start N vs) H s1:=by
 have D:ps.length<=N.length:=by have:=congrArg wcO S.pre;rw[wa5]at this;lia
 obtain⟨B,I,rfl,hk⟩:=x.done;have l:∀b:Addr,b∉(sE CX P w K mg base N g scope f cd A outer s H E).ex:=λb z=>absurd (show b∈([]:List Addr) from z) (by simp)
 refine{{j.mod,S.kind,rfl,rfl,ZS _,λy z c B d=>?_,λy m=>?_,λy c _ h=>?_,λ_=>hd,Around.frames_deeper j.frames,.inr ⟨rfl,rfl⟩,λb z=>absurd z (l b),j.bs,j.E5,λb _ _=>l b,λb z=>absurd z (l b),j.nE,j.GP},
  rfl,j.bare,Un.kept hk,{_,x.toInCall.ns,λi y v B d J=>?_},λy c h=>{_,x.cell y c h},j.bc.fresh (ZS _),λy c h=>?_,λp o=>absurd (show p∈([]:List (Addr×Obj)) from o) (by simp),j.bc.kept hk,?_}
 .exact name_of_addr x.apart (wbZ B) (wbZ d)
 .have m:scope.names.lookup y=some .cell\/scope.names.lookup y=some .free:=m;rcases m with m |m
  .exact xW m
  .exact absurd rfl (S.K2 _ (wbZ m))
 .exact we3 (x.above y c (wbZ h))
 .have hi:i<vs.length:=by
   unfold start at d
   by_cases hi:i<vs.length
   .exact hi
   .rw[waf (by simpa using hi)]at d;rw[List.getElem?_replicate]at d;split at d<;>cases d
  have ha:vs[i]?=some v:=by
   unfold start at d;rw[wai (by simpa using hi),ZM]at d
   cases e:vs[i]? with
   |none=>rw[e]at d;cases d
   |some a=>rw[e]at d;cases d;rfl
  obtain⟨u,C,G⟩:=r.get ha
  have o:ps[i]?=some y:=by
   rw[<-S.pre,wdi (by lia)];exact B
  have t:ps.Nodup:=by rw[<-S.pre];exact S.nd.sublist (waB _ _)
  refine{u,G,?_};rcases S.par y (ZT o) with k |k
  .exact .inl {k,vi t o C k}
  .obtain⟨c,e⟩:=xW (n:=s.heap.objs.size+1) k;refine .inr {.inl k,c,e,?_};have q:=x.cell y c e;rw[vj t o C (by show scope.names.lookup y≠_;rw[k];decide)]at q;exact q
 .exact j.bc.fresh (we3 (x.above y c (wbZ h)))
 .unfold start;show _=N.length;rw[ZP,ZI,wca]
  lia
theorem Jt{CX:DV}{P:wad}{w:World}{K:ZK}{mg:Str->Option Value}{base:Heap}{k:Nat}{f:Addr}{name g:Str}{l:Arguments}{body:List Stmt}{scope:wct}{dV kV C pm j ct oc:Value}{an od:Option Addr}
 {T:Array (Option Value)} {N ps:List Str} {sp:Sp} (lk:K.lookup f=some {oc,od,.func (wbP name g l body scope dV kV C pm an j ct),T}) (U:wdt K j g=true) (S:rM N ps scope)
 (len:∀vs H Q E,sp vs H Q E->vs.length=ps.length)
 (p:∀(A:Around) (outer:List Env) (s:Shared) (H:Hp) (vs:List V) (Q:VK) (E:XK),cU k (A.deeper (envOfC g scope s.heap.objs.size f j))->sp vs H Q E ->
   ∃t,uE (sE CX P w K mg base N g scope f j A outer s H E) body t/\t (Ends.fn Q) (start N vs) H) :
 aQ P w K mg base CX (k+1) f (wbP name g l body scope dV kV C pm an j ct) ps sp:=by
 refine{len,λA outer s H args M vs Q E m h O r i=>?_};have hl:=len _ _ _ _ i;have G:K.In s.heap:=h.mod.Je.keeps λb o e=>(h.bs b o e).1;have z:s.heap.NoLimit:=h.mod.nolimit.keeps λb o e=>(h.bs b o e).1
 have c:∀y∈ps.zip M,scope.names.lookup y.1=some .local\/(scope.names.lookup y.1=some .cell/\((cellsFrom (s.heap.objs.size+1) scope.names []).lookup y.1).isSome=true):=λ⟨n,v⟩ R=>by
  rcases S.par n (wfc R).1 with q |q
  .exact .inl q
  .exact .inr {q,wfm _ _ _ (.inl q)}
 refine codeAny_call_function m.depth (G _ _ lk) rfl S.co S.gen rfl (PySem.W.codeRec_of G U) (O _ _ _ _ ?_);refine wpAny_newFunctionEnv_cells S.kind c λenv X L x=>?_;subst X;refine{z.keeps x.toInCall.keep,codeAny_func ?_};obtain⟨t,Y,Z⟩:=p A outer s H vs Q E (m.deeper _) i;have I:Inv (sE CX P w K mg base N g scope f j A outer s H E) [] (start N vs) H L:=Cu S m.hd h hl r x;refine waF (Y [] L (start N vs) H _ I Z) (λfl B hs=>?_) λe B hs=>hs
 have fin:∀{a:St} {d:Hp} {v:V} {u:Value},Inv (sE CX P w K mg base N g scope f j A outer s H E) [] a d B->RelV v u->Q v d->CE outer P w H s Q u B:=
  λ{a d v u} J D q=>⟨v,d,J.os,J.bare,J.base,J.bc,D,q⟩
 cases fl with
 |ret u=>
  obtain⟨v,a,d,J,D,q⟩:=hs;exact fin J D q
 |next=>
  obtain⟨a,d,J,q⟩:=hs;exact fin (v:=V.non) (u:=wbb) J rfl q
 |brk=>
  obtain⟨_,_,_,q⟩:=hs;exact waz q
 |cont=>
  obtain⟨_,_,_,q⟩:=hs;exact waz q
theorem nP:dM X (.builtin "len") (λxs H Q=>∃p ys,xs=[.ref p]/\(aK X.K H p ys\/fJ X.K H p ys)/\Q (.int ys.length) H):=by
 intro e s σ H xs i Q I r h;obtain⟨p,ys,rfl,a,q⟩:=h;obtain⟨u,rfl,f⟩:=vals1 r;cases f;have hn:=mM;rcases a with a |a
 .obtain⟨c,d,pl,g⟩:=I.list a;have b:=d.length;exact wed pl.isList (by grind) {.int ys.length,H,I.tok _,{s.toks+1,by grind},q}
 .obtain⟨c,d,pl,g⟩:=I.tuple a;have b:=d.length;exact len_tuple pl (by grind) {.int ys.length,H,I.tok _,{s.toks+1,by grind},q}
theorem wR:dM X (.builtin "len") (λxs H Q=>∃z,xs=[.str z]/\z.length<=sizeLine/\Q (.int z.length) H):=by
 intro a s σ H xs b Q I r h;obtain⟨z,rfl,c,q⟩:=h;obtain⟨u,rfl,t,rfl⟩:=vals1 r;have hn:=mM;exact len_str (by lia) {.int z.length,H,I.tok _,{_,rfl},q}
theorem ck:dM X (.type "list") (λxs H Q=>∃p ys,xs=[.ref p]/\(aK X.K H p ys\/fJ X.K H p ys)/\∀l,H l=none->Q (.ref l) (upd H l (.lst ys))):=by
 intro g s σ H xs x Q I r h;obtain⟨p,ys,rfl,i,q⟩:=h;obtain⟨u,rfl,v⟩:=vals1 r;cases v
 have fin:∀(a:List Value),Vals ys a->ys.length<=sizeLine->∀(c:Heap) (d:Nat),(∀b t,s.heap.get? b=some t->c.get? b=some t) ->
  c.get? s.heap.objs.size=some {cls:=.type "list",dict:=none,data:=.seq a.toArray d,slots:=#[]}->EP X g σ Q (.ref s.heap.objs.size) {s with heap:=c}:=λa f j c d kp e=>
  {.ref s.heap.objs.size,_,I.laid (t':=s.toks) kp (ZS _) (show bZ X.prog X.w _ c _ (.lst ys) from ⟨j,a,d,f,e⟩),rfl,q _ (I.bc.fresh (ZS _))}
 rcases i with i |i
 .obtain⟨a,f,pl,j⟩:=I.list i;have k:=f.length;obtain⟨o,m,hc,n,hd⟩:=pl.isList;exact call_list_seq p (.inl rfl) m hc hd (λc d kp e=>fin a f j c d kp e) (by grind)
 .obtain⟨a,f,pl,j⟩:=I.tuple i;have k:=f.length;obtain⟨o,m,hc,n,hd⟩:=pl;exact call_list_seq p (.inr rfl) m hc hd (λc d kp e=>fin a f j c d kp e) (by grind)
theorem a7.refl(H:Hp):a7 H H:=λ_ _ h=>h
theorem pD:Hh X "dict.values" (λx xs H Q=>∃d kvs,x=.ref d/\xs=[]/\H d=some (.dK kvs)/\∀v,H v=none->Q (.ref v) (upd H v (iH v d))):=by
 intro a s σ H x xs v j Q I f g h;obtain⟨d,kvs,rfl,rfl,hd,q⟩:=h;cases f;have:=g.zero;subst this;obtain⟨l,lo,i,rel,c⟩:=sI I.bc hd;refine call_meetsIn wcs c.typeIs PySem.F.entry_dict_values (PySem.F.args_dict_values_1 _) (meets_dict_values (bF X.prog X.w) d lo) {⟨i,c⟩,?_};refine{.ref s.heap.objs.size,_,I.laid (t':=s.toks) (o:=iH s.heap.objs.size d) (λb o e=>ZQ _ e) (ZS _) {{_,wa9 _ rfl,rfl,rfl},{_,wa9 _ rfl},λm n ⟨o,e,r⟩ k=>{o,k o e,r}},rfl,q _ (I.bc.fresh (ZS _))}
theorem Bv:Hh X "str.join" (λx xs H Q=>∃z p ts,x=.str z/\xs=[.ref p]/\aK X.K H p (wcM V.str ts)/\(ts.map (·.length)).sum+ts.length*z.length<=16777216/\Q (.str (wcZ z ts)) H):=by
 intro a s σ H x xs v l Q I b c h;obtain⟨z,p,ts,rfl,rfl,d,e,q⟩:=h;obtain⟨t,rfl⟩:=b;obtain⟨u,rfl,f⟩:=c.one;cases f;obtain⟨g,i,pl,_⟩:=I.list d;exact join_list pl.isList (by simpa using zG i) e λj k=>{.str _,H,I.tok k,⟨j,rfl⟩,q}
theorem yj:dM X (.builtin "len") (λxs H Q=>∃p n,xs=[.ref p]/\H p=some (GY X.prog X.w p n)/\Q (.int n) H):=by
 intro b s σ H xs g Q I r h;obtain⟨p,n,rfl,c,q⟩:=h;obtain⟨u,rfl,d⟩:=vals1 r;cases d;obtain⟨⟨S,o,i,j,k,e,hex,hd,_,_,f,a,hn⟩,_⟩:=(show bZ X.prog X.w H s.heap p (GY X.prog X.w p n) from I.bc p _ c);refine call_len_set e hex hd a (by grind [wdj]) {.int n,H,I.tok _,{s.toks+1,?_},q};rw[hn]
theorem comp_map{Ok:Hp->Prop}{Q:Hp->Prop}(g:V->V)(I:k4 J Ok xs)(hl:H l=none)(T:xs.length<=sizeLine)(t:∀j,a7 H j->Ok j)
 (he:∀x p r,x∈xs->a7 H p->(∀j,a7 p j->r (g x) j)->U (some x::C) p r)
 (hd:∀j,a7 H j->j l=some (.lst (xs.map g))->Q j):lY J l C uH U H Q:=
 di (λ_=>true) g I hl T t (λx p r _ _ q=>q p (a7.refl _)) (λx p r a _ s q=>he x p r a s q) (λj s h=>hd j s (by rw[h,waD.mpr (λ_ _=>rfl)]))
theorem yk:dM X (.type "range") (λxs H Q=>∃j:Int,xs=[.int j]/\∀p,H p=none->Q (.ref p) (upd H p (.rng 0 j))):=by
 intro a s σ H xs c Q I r h;obtain⟨j,rfl,q⟩:=h;obtain⟨u,rfl,t,rfl⟩:=vals1 r;refine call_range_1 {.ref s.heap.objs.size,_,I.laid (λb ob q=>ZQ _ q) (ZS _) (show bZ X.prog X.w _ _ _ (.rng 0 j) from {_,_,_,wa9 _ rfl}),rfl,q _ (I.bc.fresh (ZS _))}
theorem mV:dM X (.type "dict") (λxs H Q=>∃d kvs,xs=[.ref d]/\Rd H d (.dK kvs)/\∀l,H l=none->Q (.ref l) (upd H l (.dK kvs))):=by
 intro a s σ H xs m Q I r h;obtain⟨d,kvs,rfl,hd,q⟩:=h;obtain⟨u,rfl,f⟩:=vals1 r;cases f;obtain⟨c,lo,g,rel,i⟩:=lZ I.bc hd;refine kt_call_dict (knd:=bF X.prog X.w) lo i (by rw[<-rel.length];exact c) λn j hs=>?_;have k:=(sA (P:=X.prog) (w:=X.w) (H:=H) s.heap I.big);refine{.ref s.heap.objs.size,upd H s.heap.objs.size (.dK kvs),I.laid (t':=s.toks) (λb o e=>?_) (ZS _) ⟨c,k.2.1,g,rel,j⟩,rfl,q _ (I.bc.fresh (ZS _))};exact hs.extBut b o (wa8 (ZX e)) (ZQ _ e)
theorem Hr:Ot X .Add (λx y H Q=>∃i j,x=.str i/\y=.str j/\i.length+j.length<=sizeLine/\Q (.str (i++j)) H):=λa s σ H x y v u Q I b c h=>yi a s σ H x y v u Q I b c h
theorem sM:jc X (binaryOp .FloorDiv) (rI MC λi j=>.int (i/j)):=Ow λi j _ _ _ _ _ hc q=>by
 have a:(0:Int)<j:=hc.1;exact floordiv_int (by lia) (by grind) (.inl (PyProof.noPylong_of_log2 hc.2))
theorem Bw{σ:St}:∀{ps:List (Int×Int)} {H Q},(∀g j,a7 H g->j.length=ps.length->(∀(i:Nat) p,ps[i]?=some p->∃q,j[i]?=some (.ref q)/\g q=some (.tup [.int p.1,.int p.2]))->Q j g)->sr ps σ H Q
 |[],H,_,k=>k H [] (a7.refl _) rfl λ_ _ h=>nomatch h
 |_::_,_,_,k=>{(by show 2<=sizeLine;decide),λq f=>Bw λg j s e a=>k g (.ref q::j) ((a7.upd f).trans s) (congrArg (· + 1) e) λ
  |0,_,h=>{q,rfl,by cases h;exact s _ _ a6}
  |i+1,p,h=>a i p h}
theorem pE{α:Type}(p:Nat->Bool):∀(k:Nat) (xs:List α),(bf p k xs).Sublist xs
 |_,[]=>weE _
 |k,x::xs=>by
  show (if p k then x::bf p (k+1) xs else bf p (k+1) xs).Sublist (x::xs)
  cases p k with
  |true=>exact(pE p (k+1) xs).cons₂ x
  |false=>exact(pE p (k+1) xs).cons x
theorem dk{α:Type}{p:Nat->Bool}{k:Nat}{xs:List α}{x:α}(h:x∈bf p k xs):x∈xs:=(pE p k xs).subset h
end
section
variable{X:Cx}{x:Str}{pos:Pos}{e:Expr}{te:MB}{i:Nat}{pos':Pos}
theorem fj(hc:X.calm=true)(h:Oq X g t)
 (hn:(wcX g X.env).length=n:=by rfl) (j:(wcX g X.env).findIdx? (·.1)=none:=by rfl):PG X (.Tuple g k pos) (E7 X.K n t):=by
 refine{?_};intro c s σ H v u Q I r hw;obtain⟨a,f,i,l,hl,hw⟩:=hw;subst i;cases r;obtain⟨m,d,p,y⟩:=I.tuple l;refine assign_Tuple_tuple (I.ok.hd hc) p (by simp[hn,<-hl,d.length]) j λq w=>?_;have x:Inv X c σ H {s with heap:=q}:=I.kept (t':=s.toks) λb o e=>w b o (wa8 (ZX e)) e;exact h c _ σ H f _ Q x (by simpa using d) hw
theorem eL:PE X (.Dict [] [] pos) K3:={λb s σ H Q I h=>
 wpAny_Dict_empty {.ref s.heap.objs.size,_,I.laid (a:=s.heap.objs.size) (o:=.dK []) (t':=s.toks) (λ_ _ q=>ZQ _ q) (ZS _) (sA s.heap I.big),rfl,h _ (I.bc.fresh (ZS _))}}
noncomputable def Q9(te:MB)(i:Nat):LZ:=λE D σ H=>te (E σ) σ H λv H1=>D.nx (σ.set i (some v)) H1
inductive N6(x y:V)(H:Hp)(Q:VK):Prop
 |mk (l b xs zs) (_:x=.ref l) (_:y=.ref b) (_:Rd H l (.lst xs)) (_:Rd H b (.lst zs)) (_:xs.length+zs.length<=sizeLine) (_:∀p,H p=none->Q (.ref p) (upd H p (.lst (xs++zs))))
end
section
variable{X:Cx}{pins:List (Addr×Obj)}{σ:St}{H:Hp}{s:Shared}{l:Addr}{xs ys:List V}
theorem Inv.Kp(I:Inv X pins σ H s)(j:Vals ys g)(p:ys.length<=sizeLine) :
 Inv X pins σ (upd H s.heap.objs.size (.lst ys)) {s with heap:=s.heap.push {cls:=.type "list",data:=.seq g.toArray},toks:=t'}:=
 I.laid (λ_ _ q=>ZQ _ q) (ZS _) {p,g,0,j,wa9 _ rfl}
theorem Inv.Cv(I:Inv X pins σ H s)(j:H l=some (.lst xs)):xs.length<=sizeLine/\∃(g:List Value) (n:Nat),Vals xs g/\xs.length=g.length/\s.heap.get? l=some {cls:=.type "list",data:=.seq g.toArray n}:=by
 obtain⟨z,g,n,r,e⟩:=I.bc l _ j;exact⟨z,g,n,r,r.length,e⟩
theorem EE:jc X (binaryOp .Add) Q1:=by
 intro d s σ H x y v u Q I f g h;obtain⟨l,b,t,w,rfl,rfl,i,j,A,q⟩:=h;cases f;cases g;obtain⟨z,c,n,r,hl,e⟩:=I.Cv i;obtain⟨B,a,C,k,m,o⟩:=I.Cv j;refine wgW e o ?_ (by rw[wa3,wa3];omega);have p:c.toArray++a.toArray=(c++a).toArray:=by simp
 rw[p];exact{.ref _,_,I.Kp (t':=s.toks) (r.append k) (by rw[ZP];omega),rfl,q _ I.fresh}
theorem Kq:jc X (binaryOp .Mult) Q2:=by
 intro p s σ H x y v u Q I A B h;obtain⟨l,k,L,rfl,rfl,C,D,E,w,q⟩:=h;cases A;obtain⟨t,rfl⟩:=B;obtain⟨z,b,n,r,hl,e⟩:=I.Cv C;have d:b.toArray.size*k.toNat<=sizeLine:=by rw[wa3,<-hl];exact w
 have f:¬b.toArray.size*k.toNat>(2^63-1)/8:=by
  have:(sizeLine:Nat)<=(2^63-1)/8:=⋯
  lia
 have g:¬(!Builtin.List.listFitsIndex k)=true:=by
  rw[fitsIndex_both D E];exact wa2
 have c:¬wdd (b.toArray.size*k.toNat)=true:=by
  rw[Eb d];exact wa2
 have i:wh6 (λj o=>j++o) #[] (wag (if b.toArray.isEmpty=true then 0 else k.toNat) b.toArray)=(wag k.toNat b).flatten.toArray:=by
  have G:∀m:Nat,wh6 (λj o=>j++o) #[] (wag m b.toArray)=(wag m b).flatten.toArray:=λm=>by
   grind [foldl_rep]
  rw[G]
  cases b with
  |nil=>simp
  |cons a M=>grind
 refine wpAny_binaryOp_repeat_ref (T:="list") (U:="int") ⋯ {_,e,rfl} (λJ=>typeIs_int J k t) noFill_list_mul F.fills_int_mul F.slot_int_rmul repeat_list F.slot_int_index.lookup
  (wd0 F.slot_int_rmul (typeIs_int s k t) F.entry_int_rmul (F.args_int_rmul_2 _ _) (int___rmul___int_list k t l b.toArray n)
    {e,rfl,{_,e,rfl},wd0 F.slot_list_mul {_,e,rfl} F.entry_list_mul (F.args_list_mul_2 _ _) (AutoListH.list___mul___list_int_3 l b.toArray n k t g f c) {e,?_}})
 rw[i];exact{.ref _,_,I.Kp (t':=s.toks) (r.rep k.toNat) (by rw[GW,Nat.mul_comm];exact w),rfl,q _ I.fresh}
end
section
variable{m:Str}
theorem ym{X:Cx}{g:List (Addr×Obj)}{σ:St}{H:Hp}{s:Shared}{l:List Addr}{x y:V}{u v:Value}{j:Heap}(tk:Nat)(I:Inv X g σ H s)(p:∀b∈l,si X g H b)(kp:∀b o,b∉l->s.heap.get? b=some o->j.get? b=some o)
 (t:j.get? s.heap.objs.size=some {cls:=.type "tuple",data:=.seq #[u,v]}) (C:RelV y u) (J:RelV x v) (hl:∀b∈l,b<s.heap.objs.size) :
 H s.heap.objs.size=none/\Inv X g σ (upd H s.heap.objs.size (.tup [y,x])) {s with heap:=j,gens:=s.gens,drawn:=s.drawn,toks:=tk}/\∀b∈l,upd H s.heap.objs.size (.tup [y,x]) b=none:=by
 have d:=I.bc.fresh (ZS s.heap.objs.size);have e:∀b o,H b=some o->b∉l:=λb o q z=>by rw[(p b z).1]at q;cases q
 have f:jb X.prog X.w (upd H s.heap.objs.size (.tup [y,x])) j:=by
  intro b o q
  by_cases a:b=s.heap.objs.size
  .subst a;rw[a6]at q;cases q;exact{by show 2<=sizeLine;decide,[u,v],.cons C (.cons J .nil),{_,t,rfl,_,rfl}}
  .rw[ae a]at q;refine(I.bc b o q).uK (λc v hc r=>?_) (λc r=>by rw[ae (af r d)];exact r) λc i r=>by rw[ae (af r d)];exact r
   rcases hc with z |z
   .rw[z]at r ⊢;exact kp b v (e b o q) r
   .exact kp c v (e c _ z) r
 refine{d,?_,λb a=>by rw[ae (wa8 (hl b a))];exact(p b a).1}
 refine I.step (ch:=l) (λb a=>?_) (λb o _ _ hc q _=>kp b o hc q) (λb o _ _ hc q _=>{o.slots,kp b o hc q}) (λb o _ q n=>by rw[ae (wa8 (ZX q))];exact n) (λb o hc q=>{o,kp b o hc q})
  (λb i r=>by rw[ae (af r d)];exact r) (λb o u r=>by rw[ae (af r d)];exact r) (λb ps r=>{#[],by rw[ae (af r d),r];simp})
  (λm ⟨o,k,A,h,r⟩=>{o,k,A,kp _ o (λz=>(p _ z).2.1 rfl) h,r}) f I.bare
 obtain⟨_,f1,_,B,D,E⟩:=p b a;exact⟨B,f1,D,E⟩
theorem uM{X:Cx}{K:ZK}(g:X.K=K):dM X (.builtin "len") (λxs H Q=>∃p ys,xs=[.ref p]/\(aK K H p ys\/fJ K H p ys)/\Q (.int ys.length) H):=by
 subst g;exact nP
theorem Kr{α:Type}{M:Model}{A:Around}{m:Sem α}{Q:α->Shared->Prop}{E:Value->Shared->Prop}{s:Shared}(h:wpAny M A m Q (λ_ _=>False) s):wpAny M A m Q E s:=waF h (λ_ _ x=>x) λ_ _ z=>z.elim
end
section
variable{P:wad}{w:World}{K:ZK}{mg:Str->Option Value}{base:Heap}{N:List Str}{qual:Str}{f:Addr}{A:Around}{outer:List Env}{s:Shared}{H:Hp}{E:XK}
theorem jb.past{lo:Nat}{H:Hp}{fs:List Addr}{h h':Heap}(x:jb P w H h)(p:Cq lo H fs h h')(g:∀b∈fs,H b=none):jb P w H h':=λa o e=>
 (x a o e).uK (λb u c q=>p.keep b u q (.inr (by grind)) λd=>by
   grind) (λ_ q=>q) λ_ _ q=>q
theorem sN(r:KV g j)(C:sq g=true):∀{l:List (Key×V)} {I:List (Key×Value)},KV l I->sq l=true->whb A s j I (hitsD g l)
 |_,_,.nil,_=>.nil
 |_,_,@Paired.cons _ _ _ p q ps d h t,c=>by
  obtain⟨k,v⟩:=p;obtain⟨f,u⟩:=q;obtain⟨i,m⟩:=h;obtain rfl:k=f:=i;have f1:d9 v=true:=waq.mp c (k,v) (ZZ ..);have f2:sq ps=true:=waq.mpr λz n=>waq.mp c z (ZW _ n);have o:=sN r C t f2;have a:=r.val k;unfold hitsD;rw[wes];show whb A s j ((k,u)::d) ((match cR g k with |some y=>k9 v y |none=>false)&&_)
  cases e:cR g k with
  |none=>
   rw[e]at a
   cases b:valueAt j k with
   |none=>exact .miss b
   |some y=>rw[b]at a;exact waz a
  |some y=>
   rw[e]at a
   cases b:valueAt j k with
   |none=>rw[b]at a;exact waz a
   |some w=>
    rw[b]at a;exact .hit b (kc m a f1 (Cp C e)) o
theorem aO.both:∀(g:List gL) (xs ys:List V),aO K H g xs->aO K H g ys->xs.length=ys.length/\∀(j:Nat) (x y:V),xs[j]?=some x->ys[j]?=some y->∃d,dep d<=je g/\b7 K H d x/\b7 K H d y
 |[],xs,ys,b,c=>by
  have m:xs=[]:=b;have n:ys=[]:=c;subst m n;exact{rfl,λj x y h=>by simp at h}
 |d::g,xs,ys,b,c=>by
  obtain⟨v,a,rfl,o,f⟩:=(show ∃v a,xs=v::a/\b7 K H d v/\aO K H g a from b);obtain⟨w,ws,rfl,hw,i⟩:=(show ∃v a,ys=v::a/\b7 K H d v/\aO K H g a from c);obtain⟨hl,p⟩:=aO.both g a ws f i;refine{by rw[wan,wan,hl],λj x y k l=>?_}
  cases j with
  |zero=>
   cases k;cases l;exact{d,Nat.le_max_left _ _,o,hw}
  |succ j=>
   obtain⟨e,b,c,q⟩:=p j x y k l;exact{e,wa0 b (Nat.le_max_right _ _),c,q}
end
section
variable{X:Cx}{pins:List (Addr×Obj)}{σ:St}{H:Hp}{s:Shared}{a:Addr}{y:V}{u:Value}{o:Option V}{A:Around}{E:Value->Shared->Prop}
theorem Qa{Q:Value->Shared->Prop}(p:A.units+1<wbf)(I:Inv X pins σ H s)(g:eK H a y o)(j:RelV y u)(h:∀s',Inv X pins σ H s'->Q (.bool o.isSome) s') :
 wpAny (model X.prog X.w) A (waE .In u (.ref a)) Q E s:=by
 rcases g with⟨c,k,e,d,l⟩ |⟨c,k,b,e,d,i,l⟩
 .subst d;obtain⟨z,hd,m,rel,f⟩:=lZ I.bc e;refine wpAny_in_of (vk j) hd f.mapOf ?_;rw[<-(rel.val k).iK,<-l];exact h _ (I.tok _)
 .subst d;cases(show u=ZY b from j);obtain⟨z,hd,n,rel,f⟩:=yf I.bc e;refine wpAny_in_heap (wdk p) (sJ I.bc i) hd f ?_;have q:=(rel.val k).iK;rw[weA]at q;rw[<-q,<-l];exact h _ (I.tok _)
theorem Hs{Q:Value->Shared->Prop}(p:A.units+1<wbf)(I:Inv X pins σ H s)(g:eK H a y o)(j:RelV y u)(h:∀s',Inv X pins σ H s'->Q (.bool (!o.isSome)) s') :
 wpAny (model X.prog X.w) A (waE .NotIn u (.ref a)) Q E s:=by
 rcases g with⟨c,k,e,d,l⟩ |⟨c,k,b,e,d,i,l⟩
 .subst d;obtain⟨z,hd,m,rel,f⟩:=lZ I.bc e;refine wpAny_notIn_of (vk j) hd f.mapOf ?_;rw[<-(rel.val k).iK,<-l];exact h _ (I.tok _)
 .subst d;cases(show u=ZY b from j);obtain⟨z,hd,n,rel,f⟩:=yf I.bc e;refine wpAny_notIn_heap (wdk p) (sJ I.bc i) hd f ?_;have q:=(rel.val k).iK;rw[weA]at q;rw[<-q,<-l];exact h _ (I.tok _)
theorem Inv.zV{l g:Hp}{j s1:Shared}{h':Heap}(C:Inv X pins σ l j)(r:s1.os=j.os)(bare:AllBare s1.gens)(un:Un (pY X.stack) [] l g j.heap s1.heap)(bc:jb X.prog X.w g s1.heap)
 (p:Cq j.heap.objs.size g (pY X.stack) s1.heap h') (t:∀b∈pY X.stack,g b=none):Un (pY X.stack) [] l g j.heap h'/\jb X.prog X.w g h'/\∀tk,Inv X pins σ g {s1 with heap:=h',toks:=tk}:=by
 have e:Un (pY X.stack) [] l g j.heap h':=by
  refine{λb o d n a f=>p.keep b o (un.keep b o d n a f) (.inl (ZX d)) a,λb o d n a f=>?_,un.free,λb o d f=>?_,un.se,un.ry,un.sf}
  .obtain⟨sl,h⟩:=un.slot b o d n a f;obtain⟨i,k⟩:=p.slot b _ h a;exact⟨i,k⟩
  .obtain⟨m,h⟩:=un.there b o d f
   by_cases q:b∈pY X.stack
   .obtain⟨sl,k⟩:=p.slot b m h q;exact{_,k}
   .exact{m,p.keep b m h (.inl (ZX d)) q}
 have c:=bc.past p t;exact{e,c,λtk=>C.vA (s':={s1 with heap:=h',toks:=tk}) r e c bare λb z=>absurd z (by simp)}
theorem Ks(g:X.A.units<wbf):jc X (waE .Eq) Pz:=by
 intro c s σ H x y v u Q I f i h;obtain⟨a,b,r,t,rfl,rfl,ha,j,k,l,q⟩:=h;cases f;cases i;obtain⟨_,m,w,d,n⟩:=lZ I.bc ha;obtain⟨_,o,z,e,p⟩:=lZ I.bc j;refine PySem.W.keq_eq m o n p g (λ_=>sN e l d k) {.bl _,H,I,rfl,?_};rw[<-d.length,<-e.length];exact q
end
section
variable{κ:Type}[DecidableEq κ]
theorem EF{kvs:List (κ×V)}{k:κ}(h:cR kvs k=none):¬k∈kvs.map (·.1):=by
 intro m;obtain⟨p,a,e⟩:=ZR.mp m;have q:(kvs.any λb=>decide (b.1=k))=true:=wbL.mpr {p,a,decide_eq_true e};rw[ke,h]at q;exact absurd q (by simp)
theorem wU{kvs:List (κ×V)}{k:κ}{v:V}(h:cR kvs k=some v):k∈kvs.map (·.1):=by
 have q:(kvs.any λa=>decide (a.1=k))=true:=by
  rw[ke,h]
  all_goals rfl
 obtain⟨p,b,e⟩:=wbL.mp q;exact ZR.mpr {p,b,of_decide_eq_true e}
end
section
variable{X:Cx}{es:List Expr}{t:TA}{pos:Pos}
theorem cM{g}(h:PA X es t):PE X (.Tuple es g pos) (MG t):=by
 refine{?_};intro a s σ H Q I i;refine wpAny_Tuple_spliced (bS (h pos a s σ H _ I i) λj c ⟨k,d,f,r,z,q⟩=>{by rw[<-r.length];exact z,?_});have l:d c.heap.objs.size=none:=f.bc.fresh (ZS _);refine{.ref c.heap.objs.size,upd d c.heap.objs.size (.tup k),f.laid (t':=c.toks) (λb u e=>ZQ _ e) (ZS _) ?_,rfl,q _ l};exact{z,j,r,{_,wa9 _ rfl,rfl,_,rfl}}
theorem cC(h:PA X es t):PE X (.List es pos) (MH t):=by
 refine{?_};intro a s σ H Q I g;refine wpAny_List_spliced (bS (h pos a s σ H _ I g) λi c ⟨j,d,f,r,z,q⟩=>{by rw[<-r.length];exact z,?_});have k:d c.heap.objs.size=none:=f.bc.fresh (ZS _);refine{.ref c.heap.objs.size,upd d c.heap.objs.size (.lst j),f.laid (t':=c.toks) (λb u e=>ZQ _ e) (ZS _) ?_,rfl,q _ k};exact{z,i,0,r,wa9 _ rfl}
theorem mW(h:k∉mv.map (·.1)):cR (bY mv) (wac k:Key)=none:=by
 cases q:cR (bY mv) (wac k:Key) with
 |none=>rfl
 |some v=>
  have:=wU q;unfold bY at this;rw[ZV]at this;obtain⟨m,a,e⟩:=ZR.mp this;have b:m.1=k:=wcL e;exact absurd (ZR.mpr ⟨m,a,b⟩) h
theorem vG(f:Str->V)(h:k∉ks):cR (pj f ks) (wac k:Key)=none:=by
 cases q:cR (pj f ks) (wac k:Key) with
 |none=>rfl
 |some v=>
  have:=wU q;unfold pj at this;rw[ZV]at this;obtain⟨m,a,e⟩:=ZR.mp this;have b:m=k:=wcL e;subst b;exact absurd a h
end
section
variable{P:wad}{w:World}{K:ZK}{mg:Str->Option Value}{base:Heap}
theorem xX.ok{x g:Str}{st:Stmt}{f:Addr}{fd:wb3}{N ps:List Str}{k:Nat}{sp:Sp}(F:xX K x g st f fd)(S:rM N ps (aD st))(len:∀vs H Q E,sp vs H Q E->vs.length=ps.length)
 (l:∀(j:Value) (A:Around) (outer:List Env) (s:Shared) (H:Hp) (vs:List V) (Q:VK) (E:XK),cU k (A.deeper (envOfC g (aD st) s.heap.objs.size f j))->sp vs H Q E ->
   ∃t,uE (sE cI P w K mg base N g (aD st) f j A outer s H E).Jf (bU st) t/\t (Ends.fn Q) (start N vs) H):aQ P w K mg base cI (k+1) f fd ps sp:=by
 obtain⟨i,m,kV,c,pm,n,j,ct,d,rfl,lk,a⟩:=F.ex;refine Jt lk a S len λA outer s H vs Q E e b=>?_;obtain⟨t,h,q⟩:=l j A outer s H vs Q E e b;exact⟨t,h.Jf,q⟩
theorem gN(d:Addr)(o:Obj)(kvs:List (Key×V)):k4 (He d o kvs) (λH=>H d=some (.frz o (.dK kvs))) (kvs.map λg=>kV g.1) where
 go:=λi H ok h=>{ok,by rwa[ZI]at h}
 uC:=λi H x a ok h q=>by
  obtain⟨rfl,g,e,rfl⟩:=q;refine{rfl,?_};rw[ZM,e];rfl
 stop:=λH ok=>{ok,by rw[ZI];exact ZS _}
end
section
variable{X:Cx}{tg:Expr}
theorem zW{P:wad}{w:World}{K:ZK}{U:Expr}{it:Addr}{n:Nat}{Pv:Nat->Value->Prop}{St:Nat->Heap->Prop}{val:Nat->V}
 (T:∀A:Around,A.handled=none->Walks P w A it [it] [it] n Pv St)
 (g:∀i h,St i h->∃(o:Obj) (nm:String) (vs:Array Value),h.get? it=some o/\o.cls=.type nm/\o.data=.fields vs/\Jj nm)
 (j:∀i h h',St i h->(∀o,h.get? it=some o->h'.get? it=some o)->St i h')
 (l:∀(A:Around) (i:Nat) (s:Shared) (Q:Value->Shared->Prop) (E:Value->Shared->Prop),St i s.heap->Q (.ref it) s->wpAny (model P w) A (pyIter (.ref it)) Q E s)
 (p:∀i u,Pv i u->RelV (val i) u):Turn P w K U (Oj n val) [it] it (λi h=>St i h/\i<=n) where
 mem:=by simp
 obj:=λi h st b f=>by
  have e:b=it:=by simpa using f
  subst e;obtain⟨o,nm,vs,e,c,d,_⟩:=g i h st.1;exact{o,e,λv z=>by rw[d]at z;cases z}
 keep:=λi h h' st k=>{j i h h' st.1 λo e=>k it (by simp) o e,st.2}
 item:=by
  intro X t hw x hc i a s σ H E I q st r;subst t hw x;obtain⟨y,f1,f2,B,C,D⟩:=q it (by simp);refine(T X.A (I.ok.hd hc)).item i s _ _ r st.1 λv h' G L m J=>?_;have M:Inv X a σ H {s with heap:=h',toks:=G}:=I.turned (λb o f e=>J b o (by simpa using f) e) y f1 B C D;obtain⟨o,nm,vs,e,c,d,hn⟩:=g _ _ m;exact{_,rfl,xV (s:={s with heap:=h',toks:=G}) e c d hn {val i,H,M,p i v L,⟨rfl,rfl⟩,⟨m,r⟩,λb f=>(q b f).1}}
 done:=by
   intro X t hw x hc i a s σ H E I q st r;subst t hw x;obtain⟨y,f1,f2,B,C,D⟩:=q it (by simp)
   have e:i=n:=by
    have N:=st.2;have O:n<=i:=r
    lia
   subst e;exact(T X.A (I.ok.hd hc)).done s _ _ st.1 λh' G J=>{rfl,I.turned (λb o f e=>J b o (by simpa using f) e) y f1 B C D}
 self:=λA i s Q E st h=>l A i s Q E st.1 h
theorem wV{l:Expr}{C:TE}(hl:PE X l C):PI X tg l (Pt C):=by
 refine{?_};intro f s σ H R I h;refine bS (hl f s σ H _ I h) λv a ⟨x,B,n,D,G⟩=>?_;obtain⟨z,e,q⟩:=G;subst e;obtain⟨t,rfl⟩:=D
 have fin:∀(j:String) (o:Obj),(∀m:Around,m.handled=none->Walks X.prog X.w m a.heap.objs.size [a.heap.objs.size] [a.heap.objs.size] z.cps.size (SignAt z) (λi h=>h.IsStrIter a.heap.objs.size j z t i)) ->
  (∀(A:Around) (i:Nat) (s:Shared) (Q:Value->Shared->Prop) (E:Value->Shared->Prop),s.heap.IsStrIter a.heap.objs.size j z t i->Q (.ref a.heap.objs.size) s->wpAny (model X.prog X.w) A (pyIter (.ref a.heap.objs.size)) Q E s) ->
  Jj j->(a.heap.push o).IsStrIter a.heap.objs.size j z t 0->MT X f σ tg R (.ref a.heap.objs.size) {a with heap:=a.heap.push o}:=by
  intro j o J g p r
  refine{a.heap.objs.size,[a.heap.objs.size],_,_,B,rfl,n.kept (t':=a.toks) λb o e=>ZQ _ e,
   zW (val:=Bm z) J (λi h st=>?_) (λi h O st k=>?_) g (λi u L=>?_),{r,wal _},λb M=>?_,q}
  .obtain⟨o,e,c,d⟩:=st;exact{o,j,_,e,c,d,p}
  .obtain⟨o,e,c,d⟩:=st;exact{o,k o e,c,d}
  .obtain⟨c,N,hc,e⟩:=L;refine{N,?_};rw[e,wcR,hc];rfl
  .have e:b=a.heap.objs.size:=by simpa using M
   subst e;exact n.zT (ZS _) (n.bc.fresh (ZS _))
 cases ha:z.cps.all (· < 128)
 .exact wpAny_pyIter_wide ha (fin "str_iterator" _ (λm y=>Walks.strWide y _ z t) (λA i s Q E st h=>wpAny_pyIter_striter_wide st h) ⋯ {_,wa9 _ rfl,rfl,rfl})
 .exact wpAny_pyIter_ascii ha (fin "str_ascii_iterator" _ (λm y=>Walks.strAscii y _ z t) (λA i s Q E st h=>wpAny_pyIter_striter_ascii st h) ⋯ {_,wa9 _ rfl,rfl,rfl})
theorem nQ(hc:X.calm=true):dM X (.builtin "any") (λxs H Q=>∃p bs,xs=[.ref p]/\aK X.K H p (wcM V.bl bs)/\Q (.bl (bs.any id)) H):=by
 intro d s σ H xs o Q I r h;obtain⟨p,bs,rfl,j,q⟩:=h;obtain⟨u,rfl,k⟩:=vals1 r;cases k;obtain⟨a,l,pl,t⟩:=I.list j;have f:=q9 l;have hl:=pl.isList;have m:=I.ok.hd hc;have c:p<s.heap.objs.size:=by obtain⟨_,e,_⟩:=hl;exact ZX e
 refine call_any_walk (wch hl ?_)
 refine{s.heap.objs.size,[s.heap.objs.size,p],[s.heap.objs.size],a.toArray.size,_,_,λi=>(bs[i]?).getD false,rfl,weL (A:=X.A.in1) m _ p (wa8 c) a.toArray,
  {{_,wa9 _ rfl,rfl,rfl},hl.push _},λi v w x y n g=>?_,λz B hk=>?_}
 .obtain⟨b,e,rfl⟩:=f.get i v (by simpa using n);simp only[e,wgX]at g;exact wb2 g
 .have e:((wak a.toArray.size).any λi=>(bs[i]?).getD false)=bs.any id:=by
   rw[wa3,f.length];exact LSm.range_any bs
  rw[e];exact{.bl _,H,I.kept (LSm.kept_iter hk),rfl,q}
theorem sO(hc:X.calm=true):dM X (.builtin "all") (λxs H Q=>∃p bs,xs=[.ref p]/\aK X.K H p (wcM V.bl bs)/\Q (.bl (bs.all id)) H):=by
 intro d s σ H xs o Q I r h;obtain⟨p,bs,rfl,j,q⟩:=h;obtain⟨u,rfl,k⟩:=vals1 r;cases k;obtain⟨a,l,pl,t⟩:=I.list j;have f:=q9 l;have hl:=pl.isList;have m:=I.ok.hd hc;have c:p<s.heap.objs.size:=by obtain⟨_,e,_⟩:=hl;exact ZX e
 refine call_all_walk (wch hl ?_)
 refine{s.heap.objs.size,[s.heap.objs.size,p],[s.heap.objs.size],a.toArray.size,_,_,λi=>(bs[i]?).getD true,rfl,weL (A:=X.A.in1) m _ p (wa8 c) a.toArray,
  {{_,wa9 _ rfl,rfl,rfl},hl.push _},λi v w x y n g=>?_,λz B hk=>?_}
 .obtain⟨b,e,rfl⟩:=f.get i v (by simpa using n);simp only[e,wgX]at g;exact wb2 g
 .have e:((wak a.toArray.size).all λi=>(bs[i]?).getD true)=bs.all id:=by
   rw[wa3,f.length];exact LSm.range_all bs
  rw[e];exact{.bl _,H,I.kept (LSm.kept_iter hk),rfl,q}
theorem wW(hc:X.calm=true):dM X (.builtin "sorted") (λxs H Q=>∃d kvs ks,xs=[.ref d]/\H d=some (.dK kvs)/\kvs.map (·.1)=wcM (wac:Str->Key) ks/\ks.length<64 /\
 ∀l ss,H l=none->ss.Perm ks->sortedS ss=true->Q (.ref l) (upd H l (.lst (ss.map V.str)))):=by
 intro i s σ H xs T Q I r h;obtain⟨d,kvs,ks,rfl,hd,hk,t,q⟩:=h;obtain⟨u,rfl,M⟩:=vals1 r;cases M;obtain⟨C,lo,v,rel,N⟩:=sI I.bc hd;obtain⟨ep,x⟩:=N.dictAt;have O:=I.ok.hd hc;have k:kvs.length=ks.length:=by have:=congrArg wcO hk;simpa using this
 have hn:v.length<=sizeLine:=by rw[<-rel.length];exact C
 refine Calls.call_function_entry kind_sorted plain_sorted entry_sorted (args_sorted1 _) ?_;unfold weh.«sorted»;refine ZN (m:=checkCount "sorted" 1 1 _) (waa ?_);refine ZN (PySem.W.kdu_collect (A:=X.A.in1) (wgY (knd:=bF X.prog X.w) (kvs:=v) (ep:=ep) lo) O x hn λg D a y c=>?_);have hl:a.toList.length=v.length:=by rw[wbY];exact c.1
 refine ZN (wpAny_newList ?_ (by rw[hl];exact hn));have z:StrsAre a.toList ks:=En (P:=X.prog) (w:=X.w) hk rel hl λj u e=>c.2 j u (by rw[<-wc7];exact e);have f:(g.push (seqObj "list" a.toList.toArray 0)).get? g.objs.size=some (seqObj "list" a.toList.toArray 0):=wa9 _ rfl;have n:a.toList.length<64:=by rw[hl,<-rel.length,k];exact t
 refine ZN (wb0 (wpAny_call_entry slot_list_sort {_,f,rfl} entry_list_sort (list_sort_treeK strKind_oneLt f z.keysOf (λE G rest e=>keyKind_strs (by rw[<-e];exact z)) n λB a1 a2=>{_,rfl,?_}) (args_list_sort _)));obtain⟨p,b1,J,R⟩:=sorted_out_str z a1 a2;have L:Inv X i σ H {s with heap:=g,toks:=D}:=I.kept y;obtain⟨e,S⟩:=sortedHeap_at (out:=(arrOf B).map (·.2)) f;refine waa {_,rfl,{.ref g.objs.size,upd H g.objs.size (.lst (p.map V.str)),L.laid (t':=D) (λb o q=>?_) (ZS _) {?_,_,e,vo b1,?_},rfl,q _ p (L.bc.fresh (ZS _)) J R}}
 .have lt:b<g.objs.size:=ZX q;rw[sortedHeap_old (wa8 lt) (by rw[size_push'];exact wdA lt)];exact ZQ _ q
 .rw[ZI,J.length_eq,<-k];exact C
 .rw[wd1];exact S
theorem mX(hc:X.calm=true):dM X (.type "list") (λxs H Q=>∃d kvs,xs=[.ref d]/\H d=some (.dK kvs)/\∀l,H l=none->Q (.ref l) (upd H l (.lst (kvs.map λg=>kV g.1)))):=by
 intro k s σ H xs y Q I r h;obtain⟨d,kvs,rfl,hd,q⟩:=h;obtain⟨u,rfl,n⟩:=vals1 r;cases n;obtain⟨m,lo,f,rel,o⟩:=sI I.bc hd;obtain⟨ep,i⟩:=o.dictAt;have p:=I.ok.hd hc;have hn:f.length<=sizeLine:=by rw[<-rel.length];exact m
 refine wgZ (wgY (knd:=bF X.prog X.w) (kvs:=f) (ep:=ep) lo) p i hn λt v b c kp x a=>?_;have hl:b.toList.length=f.length:=by rw[wbY];exact a.1
 refine{.ref s.heap.objs.size,_,I.laid (t':=v) kp (ZS _) (show bZ X.prog X.w _ t _ (.lst (kvs.map λg=>kV g.1)) from {?_,b.toList,c,vt (P:=X.prog) (w:=X.w) rel hl λj u e=>a.2 j u (by rw[<-wc7];exact e),?_}),rfl,q _ (I.bc.fresh (ZS _))}
 .rw[ZI];exact m
 .rw[wd1];exact x
theorem sP(hc:X.calm=true):dM X (.type "list") (λxs H Q=>∃v d kvs,xs=[.ref v]/\H v=some (iH v d)/\H d=some (.dK kvs)/\∀l,H l=none->Q (.ref l) (upd H l (.lst (kvs.map (·.2))))):=by
 intro k s σ H xs D Q I r h;obtain⟨v,d,kvs,rfl,n,hd,q⟩:=h;obtain⟨u,rfl,o⟩:=vals1 r;cases o;obtain⟨m,lo,b,rel,p⟩:=sI I.bc hd;obtain⟨ep,i⟩:=p.dictAt;obtain⟨g,_⟩:=(show bZ X.prog X.w H s.heap v (iH v d) from I.bc v _ n);have x:=I.ok.hd hc;have hn:b.length<=sizeLine:=by rw[<-rel.length];exact m
 refine wgZ (wgr (knd:=bF X.prog X.w) (kvs:=b) (ep:=ep)) x ⟨g,i⟩ hn λy z a c kp A f=>?_;have hl:a.toList.length=b.length:=by rw[wbY];exact f.1
 have e:a.toList=b.map (·.2):=PySem.W.kdl_vals_eq a.toList hl λj u e=>f.2 j u (by rw[<-wc7];exact e)
 have B:∀{kvs:List (Key×V)} {b:List (Key×Value)},KV kvs b->Vals (kvs.map (·.2)) (b.map (·.2)):=λ{kvs b} r=>by
  induction r with
  |nil=>exact .nil
  |cons r t C=>exact .cons r.2 C
 refine{.ref s.heap.objs.size,_,I.laid (t':=z) kp (ZS _) (show bZ X.prog X.w _ y _ (.lst (kvs.map (·.2))) from {?_,a.toList,c,by rw[e];exact B rel,?_}),rfl,q _ (I.bc.fresh (ZS _))}
 .rw[ZI];exact m
 .rw[wd1];exact A
theorem Cw{P:wad}{w:World}{K:ZK}{g:List Expr}{k:Nat}{pos:Pos}(a e it:Addr)(j:e≠it):Turn P w K (.Tuple g k pos) (LX K a) [e,it] e (λi h=>(∃old,IsEnum h e it (i:Nat) old)/\h.IsListIter it a i) where
 mem:=by simp
 obj:=λi h st b f=>by
  obtain⟨⟨old,c⟩,o,t,hc,hd⟩:=st;rcases wao.mp f with rfl |f
  .exact{_,c,λv z=>by
    have Q:wfq _=wgp v:=z
    cases Q}
  .have R:b=it:=by simpa using f
   subst R;exact{o,t,λv z=>by rw[hd]at z;cases z}
 keep:=λi h O st k=>{st.1.imp λold c=>k e (by simp) _ c,st.2.at λo q=>k it (by simp) o q}
 item:=by
  intro X A hw B hc i l s σ H E I C st D;subst A hw B;obtain⟨S,x,r,G⟩:=D;obtain⟨J,L,p,T⟩:=I.list r;obtain⟨u,U,V⟩:=L.get G;obtain⟨⟨old,c⟩,hit⟩:=st;refine wpAny_pyNext_enum_item c hit p.isList (x:=u) (by simpa using U) j λO t m Y Z hk=>?_;refine{_,rfl,wew t λVb M d=>?_};obtain⟨_,N,_⟩:=id hit;have n:e<s.heap.objs.size:=ZX c;obtain⟨fr,I1,hn⟩:=ym (y:=.int (i:Nat)) (s.toks+1) I C (λb o h q=>(d.2 b (Ch h).1).trans (hk b o (Ch h).1 (Ch h).2 q)) ((d.2 _ (wc3 n)).trans Y) {_,rfl} V (MA n (ZX N));exact{.ref s.heap.objs.size,_,I1,rfl,{s.heap.objs.size,x,fr,rfl,rfl,λys hy=>by rw[I.sH hy r];exact G},{{u,by simpa using M},m.at λo q=>(d.2 it (wb4 j)).trans q},hn}
 done:=by
   intro X A hw B hc i l s σ H E I C st D;subst A hw B;obtain⟨S,r,G⟩:=D;obtain⟨J,L,p,T⟩:=I.list r;have hl:=L.length;obtain⟨⟨old,c⟩,hit⟩:=st;obtain⟨g0,g1,g2,g3,g4,g5⟩:=C it (by simp);exact wpAny_pyNext_enum_end (I.ok.hd hc) c hit p.isList (wfu (by simp;lia)) λO eb=>{rfl,I.turned (t':=s.toks) (λb o f e=>eb b o f e) g0 g1 g3 g4 g5}
 self:=λ_ _ _ _ _ st h=>let ⟨⟨_,c⟩,_⟩:=st;wdB c h
theorem nR{g:List Expr}{k:Nat}{j:Pos}{l:Expr}{r:TA}{p pos:Pos}(t:Gl X "enumerate")(C:X.mg "enumerate"=none)(ha:PA X [l] r)(hs:starEach [l] X.env=[(false,eval l X.env)]:=by rfl) :
 PI X (.Tuple g k j) (.Call (.Name "enumerate" p) [l] [] pos) (MJ X.K r):=by
 refine{?_};intro c s σ H R I h;refine Call_ (gT I t C jF (wbE (bS (ha pos c s σ H _ I h) λD d ⟨E,m,i,o,v⟩=>?_) hs rfl));obtain⟨a,G,e,w,q⟩:=v;subst e;obtain⟨u,rfl,x⟩:=vals1 o;cases x;obtain⟨y,J,pl,L⟩:=i.list w;refine call_enumerate_list pl.isList λz n hit A kp=>wdB n ?_;have B:Inv X c σ m {d with heap:=z}:=i.kept (t':=d.toks) kp;refine{d.heap.objs.size+1,[d.heap.objs.size+1,d.heap.objs.size],_,_,m,rfl,B,Cw a _ _ (wc3 (wbx _)),{{_,n},hit},λb M=>?_,q}
 have f:d.heap.objs.size<=b:=by
  grind
 exact i.zT f (i.bc.fresh f)
theorem zX(hc:X.calm=true):dM X (.type "list") (λxs H Q=>∃(p:Addr) (n:Nat),xs=[.ref p]/\H p=some (.rng 0 (n:Int))/\n<=sizeLine/\∀l,H l=none->Q (.ref l) (upd H l (.lst ((wak n).map λi=>V.int (i:Nat))))):=by
 intro m s σ H xs b Q I r h;obtain⟨p,n,rfl,x,hn,q⟩:=h;obtain⟨u,rfl,y⟩:=vals1 r;cases y;obtain⟨t,u,v,e⟩:=I.bc p _ x;have f:n<=2^24:=by rw[wbF]at hn;lia
 refine call_list_range (I.ok.hd hc) (n:=n) (show IsRange s.heap p 0 (n:Int) 1 t u v from e) (small_one (by lia) (by lia) (by lia) (by lia)) (by rw[rangeSize_one];split<;>lia) f λg z d c kp A a=>?_
 have B:∀(b:List Value) (k:Nat),(∀(j:Nat) (u:Value),b[j]?=some u->∃t,u=.int ((k+j:Nat):Int) t)->Vals ((wfv k b.length).map λi=>V.int (i:Nat)) b:=by
  intro b
  induction b with
  |nil=>intro k _;exact .nil
  |cons u b C=>
   intro k h;obtain⟨t,e⟩:=h 0 u rfl;rw[wan,wh0,wab];refine .cons ⟨t,e⟩ (C (k+1) λj u g=>?_);obtain⟨t,e⟩:=h (j+1) u (by simpa using g);exact{t,by rw[e];congr 1;lia}
 have hl:d.toList.length=n:=by rw[wbY];exact a.1
 have o:=B d.toList 0 λj u e=>by
  obtain⟨t,D⟩:=a.2 j u (by rw[<-wc7];exact e);exact{t,by rw[D];congr 1;lia}
 rw[hl,<-List.range_eq_range']at o;refine{.ref s.heap.objs.size,_,I.laid (t':=z) kp (ZS _) (show bZ X.prog X.w _ g _ (.lst ((wak n).map λi=>V.int (i:Nat))) from {?_,d.toList,c,o,?_}),rfl,q _ (I.bc.fresh (ZS _))}
 .rw[ZI,wau];exact hn
 .rw[wd1];exact A
theorem iQ(hc:X.calm=true):dM X (.builtin "sum") (λxs H Q=>∃p ns,xs=[.ref p]/\aK X.K H p (wcM V.int ns)/\Q (.int ns.sum) H):=by
 intro b s σ H xs j Q I r h;obtain⟨p,ns,rfl,d,q⟩:=h;obtain⟨u,rfl,f⟩:=vals1 r;cases f;obtain⟨a,g,pl,k⟩:=I.list d;obtain⟨c,e,rfl⟩:=j9 g
 have hl:s.heap.IsList p (intItems c.toArray):=by
  have:intItems c.toArray=a.toArray:=by rw[e];unfold intItems;simp
  rw[this];exact pl.isList
 refine sum_intListG (I.ok.hd hc) hl λl m i hk=>?_;refine{.int _,H,I.kept hk,{i,?_},q};rw[preSum_eq,wb9 (by simp)]
theorem Cy{P:wad}{w:World}{K:ZK}{T:Expr}(d it:Addr)(o:Obj)(kvs:List (Key×V))(U:Array DictEntry)(ep:Nat)(J:o.data=.dict U ep):Turn P w K T (He d o kvs) [it] it (λi h=>h.IsKeyIter it d i kvs.length ep) where
 mem:=by simp
 obj:=λi h st b j=>by
  have e:b=it:=by grind
  subst e;obtain⟨o,e,c,D⟩:=st;exact{o,e,λv z=>by grind}
 keep:=λi h m st k=>st.at λo e=>k it (by simp) o e
 item:=by
  intro X p hw q hc i a s σ H E I n st r;subst p hw q;obtain⟨u,hi⟩:=r;obtain⟨L,rel,f⟩:=zU I u J;have G:kvs[i]?=some kvs[i]:=by simp[hi]
  obtain⟨⟨k,v⟩,M,N,_⟩:=Ef rel G;obtain⟨x,f1,f2,A,B,C⟩:=n it (by simp);rw[rel.length]at st;refine wpAny_pyNext_dict_item st f M λkey m l g sb=>?_;have O:Inv X a σ H {s with heap:=m}:=I.turned (t':=s.toks) (λb o j e=>(sb.2 b j).trans e) x f1 A B C;obtain⟨S,e,c,D⟩:=id g;rw[<-rel.length]at g;refine{key,rfl,xV (s:={s with heap:=m}) e c D ⋯ {kV kvs[i].1,H,O,?_,{rfl,_,G,rfl},g,λb j=>(n b j).1}};have Q:kvs[i].1=k:=N;rw[Q];rcases bW l with⟨i,t,rfl,rfl⟩ |⟨y,t,rfl,rfl⟩
  .exact⟨t,rfl⟩
  .exact⟨t,rfl⟩
 done:=by
   intro X p hw q hc i a s σ H E I n st r;subst p hw q;obtain⟨u,hi⟩:=r;obtain⟨L,rel,f⟩:=zU I u J;obtain⟨x,f1,f2,A,B,C⟩:=n it (by simp);rw[rel.length]at st hi;exact wpAny_pyNext_dict_end (I.ok.hd hc) st f (by simp;omega) λm R=>{rfl,I.turned (t':=s.toks) (λb o j e=>R b o j e) x f1 A B C}
 self:=λ_ _ _ _ _ st h=>wpAny_pyIter_keyiter st h
theorem EG:Ot X .Mult V2:=by
 intro a s σ H x y v u Q I b c h;obtain⟨i,j,d,e,hc,q⟩:=h;subst d;subst e;obtain⟨t,rfl⟩:=b;obtain⟨f,rfl⟩:=c;exact imul_int {.int _,H,I.tok _,{_,rfl},q} hc.ok
theorem vH(hc:X.calm=true):dM X (.builtin "max") (λxs H Q=>∃p ns,xs=[.ref p]/\aK X.K H p (wcM V.int ns)/\ns≠[]/\∀M,M∈ns->(∀a∈ns,a<=M)->Q (.int M) H):=by
 intro g s σ H xs w Q I r h;obtain⟨p,ns,rfl,i,c,q⟩:=h;obtain⟨u,rfl,k⟩:=vals1 r;cases k;obtain⟨d,l,pl,x⟩:=I.list i;obtain⟨b,e,rfl⟩:=j9 l
 have hl:s.heap.IsList p (intItems b.toArray):=by
  have:intItems b.toArray=d.toArray:=by grind [intItems]
  rw[this];exact pl.isList
 have f:0<b.toArray.size:=by
  rw[wa3];exact Nat.pos_of_ne_zero λz=>c (by grind)
 refine max_intList (I.ok.hd hc) hl f λv y A m hk=>?_;obtain⟨t,rfl⟩:=wgR m;obtain⟨B,n⟩:=argBest_gt (numAt b.toArray) (b.toArray.size-1);refine{.int _,H,I.kept hk,⟨t,rfl⟩,q _ ?_ λa ha=>?_}
 .rw[numAt_eq];exact getD_mem (by grind)
 .obtain⟨j,o,rfl⟩:=mem_getD ha;rw[ZI]at o;have:=n j (by grind);rw[numAt_eq]at this;exact this
def iA(K:ZK)(J:It)(l:Addr)(σf:St)(tt:TT)(te:TE)(H:Hp)(Q:Hp->Prop):Prop:=
 ∃W:Nat->Nat->List V->Hp->Prop,(∃m,W 0 m [] (upd H l (.lst [])))/\∀i m ys H2,W i m ys H2->H2 l=some (.lst ys) /\
  ((J.stop i H2/\Q H2)\/(J.go i H2/\ys.length<sizeLine/\∀x H3,J.uC i H2 x H3->∃p a b,x=.ref p/\fJ K H3 p [a,b]/\tt (some a::some b::σf) H3 λok H4=>
    if ok=true then te (some a::some b::σf) H4 λy H5=>H5 l=some (.lst ys)/\∃m',m'<m/\W (i+1) m' (ys++[y]) (upd H5 l (.lst (ys++[y])))
    else ∃m',m'<m/\W (i+1) m' ys H4))
def Kt(K:ZK)(wi:TI)(ix:List Nat)(tt:TT)(te:TE):TE:=λσ H Q=>wi σ H λJ H1=>∀l,H1 l=none->iA K J l (pick σ ix) tt te H1 (λH2=>Q (.ref l) H2)
theorem mY{K:ZK}{J:It}{Ok:Hp->Prop}{j:List Addr}{prs:List (V×V)}{l:Addr}{C:St}{tt:TT}{te:TE}{H:Hp}{Q:Hp->Prop}(p:V×V->Bool)(g:V×V->V)(U:k4 J Ok (j.map V.ref))(hT:bu H j (prs.map jG))(hl:H l=none)(hz:j.length<=sizeLine)(I:∀r,a7 H r->Ok r)
 (ht:∀q t T,q∈prs->a7 H t->(∀r,a7 t r->T (p q) r)->tt (some q.1::some q.2::C) t T)
 (he:∀q t T,q∈prs->p q=true->a7 H t->(∀r,a7 t r->T (g q) r)->te (some q.1::some q.2::C) t T)
 (hd:∀r,a7 H r->r l=some (.lst ((prs.filter p).map g))->Q r):iA K J l C tt te H Q:=by
 have f:j.length=prs.length:=by rw[hT.1,ZI]
 refine{λi m s d=>m=j.length-i/\i<=j.length/\a7 H d/\d l=some (.lst s)/\s=((prs.take i).filter p).map g,{j.length,by simp,wal _,a7.upd hl,a6,by simp},?_};rintro i m s d ⟨rfl,hi,c,k,n⟩;refine{k,?_}
 by_cases a:i<j.length
 .refine .inr {U.go i d (I _ c) (by rw[ZI];exact a),?_,λx t y=>?_}
  .rw[n,ZI];refine waI (waT _ _) ?_;rw[wa5];omega
  .obtain⟨e,v⟩:=U.uC i d x t (I _ c) (by rw[ZI];exact a) y;subst e;have w:prs[i]?=some prs[i]:=ZJ ();have z:j[i]?=some j[i]:=ZJ a;rw[ZM,z]at v;obtain rfl:V.ref j[i]=x:=ZU v;have mem:prs[i]∈prs:=wah _;have A:prs.take (i+1)=prs.take i++[prs[i]]:=by rw[waw,w];rfl
   refine{j[i],prs[i].1,prs[i].2,rfl,fJ.of (c _ _ (hT.2 i j[i] _ z (by rw[ZM,w];rfl))),ht prs[i] _ _ mem c λD h=>?_}
   cases u:p prs[i] with
   |false=>
    rw[if_neg wa2];refine{j.length-(i+1),(),rfl,a,c.trans h,h _ _ k,?_};rw[A,wbk,n];simp[u]
   |true=>
    rw[if_pos rfl];refine he prs[i] _ _ mem u (c.trans h) λE B=>{B _ _ (h _ _ k),j.length-(i+1),(),rfl,a,λb o e=>?_,a6,?_}
    .rw[ae (af e hl)];exact B _ _ (h _ _ (c _ _ e))
    .rw[A,wbk,n];simp[u]
 .have e:i=j.length:=();subst e;refine .inl {?_,hd d c ?_}
  .have:=U.stop d (I _ c);rwa[ZI]at this
  .rw[k,n,f,wam]
theorem yn{P:wad}{w:World}{K:ZK}{C:Expr}(it:Addr)(lo c:Int)(n:Nat):Turn P w K C (GZ lo c n) [it] it (λi h=>wfp h it (lo+(i:Nat)*c) ((n:Int)-(i:Nat)) c) where
 mem:=by simp
 obj:=λi h st b d=>by
  have e:b=it:=by simpa using d
  subst e
  exact{_,st,λv z=>by
   have A:wfq _=wgp v:=z
   cases A}
 keep:=λi h g st k=>k it (by simp) _ st
 item:=by
  intro X l hw m hc i a s σ H E I j st p;subst l hw m;obtain⟨q,f1,f2,r,u,x⟩:=j it (by simp);have B:=Walks.range (prog:=X.prog) (w:=X.w) (I.ok.hd hc) it lo c n;refine B.item i s _ _ p st λv g y D f G=>?_;obtain⟨t,rfl⟩:=D;have J:Inv X a σ H {s with heap:=g,toks:=y}:=I.turned (λb o d e=>G b o (by simpa using d) e) q f1 r u x;exact{_,rfl,xV (s:={s with heap:=g,toks:=y}) (n:="range_iterator") f rfl rfl ⋯ {.int (lo+(i:Nat)*c),H,J,⟨t,rfl⟩,⟨rfl,rfl⟩,f,λb d=>(j b d).1}}
 done:=by
   intro X l hw m hc i a s σ H E I j st p;subst l hw m;obtain⟨q,f1,f2,r,u,x⟩:=j it (by simp);exact wfr (I.ok.hd hc) st (by have:n<=i:=p;lia) λg L=>{rfl,I.turned (t':=s.toks) (λb o d e=>L b o d e) q f1 r u x}
 self:=λ_ _ _ _ _ st h=>wfs st h
def Ht(K:ZK)(wi:TI)(ix:List Nat)(tt:TT)(te:TE)(i:Nat):TS:=λD σ H=>wi σ H λJ H1=>∀l,H1 l=none->iA K J l (pick σ ix) tt te H1 (λH2=>D.nx (σ.set i (some (.ref l))) H2)
theorem wX:jc X (binaryOp .Add) N6:=by
 intro d s σ H x y v u Q I g i h;obtain⟨l,b,t,w,rfl,rfl,j,k,A,q⟩:=h;cases g;cases i;obtain⟨z,c,n,r,e⟩:=j.ok I.bc;obtain⟨B,a,C,f,m⟩:=k.ok I.bc;have hl:=r.length;have o:=f.length;refine wgW e m ?_ (by grind);have p:c.toArray++a.toArray=(c++a).toArray:=by simp
 rw[p];exact{.ref _,_,I.Kp (t':=s.toks) (r.append f) (by grind),rfl,q _ I.fresh}
def sQ(K:ZK)(J:It)(l:Addr)(σf:St)(tt:TT)(te:TE)(H:Hp)(Q:Hp->Prop):Prop:=
 ∃W:Nat->Nat->List V->Hp->Prop,(∃m,W 0 m [] (upd H l (.lst [])))/\∀i m ys H2,W i m ys H2->H2 l=some (.lst ys) /\
  ((J.stop i H2/\Q H2)\/(J.go i H2/\ys.length<sizeLine/\∀x H3,J.uC i H2 x H3->∃p a b c,x=.ref p/\fJ K H3 p [a,b,c]/\tt (some a::some b::some c::σf) H3 λok H4=>
    if ok=true then te (some a::some b::some c::σf) H4 λy H5=>H5 l=some (.lst ys)/\∃m',m'<m/\W (i+1) m' (ys++[y]) (upd H5 l (.lst (ys++[y])))
    else ∃m',m'<m/\W (i+1) m' ys H4))
def Ku(K:ZK)(wi:TI)(ix:List Nat)(tt:TT)(te:TE):TE:=λσ H Q=>wi σ H λJ H1=>∀l,H1 l=none->sQ K J l (pick σ ix) tt te H1 (λH2=>Q (.ref l) H2)
end
section
variable{X:Cx}{pins:List (Addr×Obj)}{σ:St}{H:Hp}{s:Shared}{e:Addr}
theorem Cx.Ok.marked(ok:X.Ok):(X.marked e).Ok:=
 {ok.mod,ok.kind,ok.glob,ok.blt,ok.above,ok.inj,ok.has,ok.K0,λz=>Bool.noConfusion z,ok.frames,ok.LV,ok.Oh,ok.bs,ok.E5,ok.zA,ok.Cb,ok.nE,ok.GP}
theorem Inv.marked(I:Inv X pins σ H s):Inv (X.marked e) pins σ H s:=⟨I.ok.marked,I.os,I.bare,I.base,I.loc,I.cell,I.free,I.iM,I.pin,I.bc,I.len⟩
theorem Inv.unmarked(ok:X.Ok)(I:Inv (X.marked e) pins σ H s):Inv X pins σ H s:=⟨ok,I.os,I.bare,I.base,I.loc,I.cell,I.free,I.iM,I.pin,I.bc,I.len⟩
theorem yo{K:ZK}{J:It}(h:iA K J l g j r H Q):vD (E7 K 2 (k8 (eI 0) (k8 (eI 1) E6))) 2 J l g j r H Q:=
 let ⟨W,a,t⟩:=h
 {W,a,λi m ys f w=>let ⟨p,q⟩:=t i m ys f w;{p,q.imp id λ⟨a,b,c⟩=>{a,b,λx k n u y=>by revert n;refine i6 2 _ ?_;exact λ_ _=>let ⟨p,v,d,e,o,s⟩:=c x k y;{p,[v,d],e,o,rfl,v,[d],rfl,d,[],rfl,rfl,{[some v,some d],rfl,rfl},s}}}}
theorem EH{K:ZK}{J:It}(h:sQ K J l g j r H Q):vD (E7 K 3 (k8 (eI 0) (k8 (eI 1) (k8 (eI 2) E6)))) 3 J l g j r H Q:=
 let ⟨W,a,t⟩:=h
 {W,a,λi m ys k w=>let ⟨p,q⟩:=t i m ys k w;{p,q.imp id λ⟨a,b,c⟩=>{a,b,λx n o z y=>by revert o;refine i6 3 _ ?_;exact λ_ _ _=>let ⟨p,v,f,d,e,u,s⟩:=c x n y;{p,[v,f,d],e,u,rfl,v,[f,d],rfl,f,[d],rfl,d,[],rfl,rfl,{[some v,some f,some d],rfl,rfl},s}}}}
end
section
variable{f C:Addr}
structure Mk(K:ZK)(C f:Addr):Prop where
 makes:whc K C=true
 init:waS K (.ref C) "__init__"=some (some (.ref f))
 fn:weQ K (.ref f)=true
 kp:wcn K (.ref C)=true
abbrev GC(X:Cx)(ifs:List Expr)(t:TT):Prop:=Bx (∀(pins:List (Addr×Obj)) (s:Shared) (σ:St) (H:Hp) (Q:Bool->Hp->Prop),Inv X pins σ H s->t σ H Q ->
  wpAny (model X.prog X.w) X.A (forIn ifs true λc r=>if r=true then do let ok <-isTrue c X.env (eval c X.env);pure (wcE ok) else pure (wcE r)) (TP X pins σ Q) X.xe s)
theorem bb{X:Cx}:GC X [] uH:={λ_ _ _ H _ I h=>wpAny_tests_nil ⟨H,I,h⟩}
theorem fZ{X:Cx}(h:PT X c t):GC X [c] t:={λa s σ H Q I hw=>wpAny_tests_one (h a s σ H Q I hw)}
end
section
variable{X:Cx}{pins:List (Addr×Obj)}{σ:St}{H:Hp}{s₂:Shared}{scope:wct}{x:Str}{xs ys:List Str}{ix:List Nat}{cl:List (Str×Addr)}{fp:List Addr}{L:Addr}
theorem Hu(B:bP X scope x ys ix)(I:Inv X pins σ H s₂)(j:∀b∈fp,si X pins H b)(l:∀b∈fp,b<s₂.heap.objs.size)(r:s₂.heap.objs.size<=L)
 (g:∀y c,cl.lookup y=some c->X.env.cells.lookup y=some c) (p:∀y∈scope.names,y.2=.free->∃c,cl.lookup y.1=some c):(bA X scope N cl L s₂ H fp (X.pn++pins)).Ok where
 mod:=I.ok.mod
 kind:=B.kind
 glob:=I.ok.glob
 blt:=I.ok.blt
 above:=r
 inj:=λa b c i m=>I.ok.inj a b c (g a c i) (g b c m)
 has:=λa ha=>by
  obtain⟨k,f,hk⟩:=wM (env:=X.env) B.Ek (x:=a) ha;exact p (a,k) f hk
 K0:=λ_ _ h=>nomatch h
 hd:=I.ok.hd
 frames:=I.ok.frames
 LV:=.inl rfl
 Oh:=λb d=>{wa8 (wa7 (l b d) r),λy c h=>(j b d).2.2.2.2.1 y c (g y c h)}
 bs:=I.bs
 E5:=wa0 I.ok.E5 I.sz
 zA:=λb o e d=>by
  rcases(j b d).2.2.2.1 with z |z
  .exact I.ok.zA b o e z
  .exact absurd (wa7 (wa7 (ZX e) I.ok.E5) z) (waW _)
 Cb:=λb d f=>by
  rcases wao.mp (I.sC b f) with z |z
  .exact(j b d).2.1 z
  .exact(j b d).2.2.1 z
 nE:=I.stack
 GP:=I.rQ
theorem EI{m₁:Str->Option Value}(B:bP X scope x ys ix)(I:Inv X pins σ H s₂)(hf:∀b∈fp,si X pins H b)(J:∀b∈fp,b<s₂.heap.objs.size)(T:s₂.heap.objs.size<=L)
 (g:∀y c,cl.lookup y=some c->X.env.cells.lookup y=some c) (C:∀y∈scope.names,y.2=.free->∃c,cl.lookup y.1=some c)
 (kp:∀b o,s₂.heap.get? b=some o->t.get? b=some o) (U:t.Ns L m₁) (hl:l=s₂.heap.objs.size) (Qb:l≠L) (ho:t.get? l=some {cls:=.type "list",data:=.seq ([]:List Value).toArray n₀}) :
 Inv (bA X scope (xs++ys) cl L s₂ H fp (X.pn++pins)) [] (wag xs.length none++pick σ ix) (upd H l (.lst [])) {s₂ with heap:=t,toks:=tk}:=by
 subst hl;have Q:=I.bc.fresh (ZS s₂.heap.objs.size);refine{Hu B I hf J T g C,rfl,I.bare,Un.laid kp (ZS _) Q,{m₁,U,λi y v D E Z=>?_},λy c e=>?_,?_,λy c e=>?_,λp O=>?_,I.bc.laid kp (ZS _) {wal _,[],n₀,.nil,ho},?_}
 .obtain⟨j,rfl⟩:∃j,i=xs.length+j:=by
   by_cases z:i<xs.length
   .rw[wai (by simpa using z)]at E;simp[z]at E
   .exact{i-xs.length,by lia}
  have G:ys[j]?=some y:=by
   have D:(xs++ys)[xs.length+j]?=some y:=D;rwa[waf (Nat.le_add_right _ _),wbW]at D
  obtain⟨i,hi,R,hk,a⟩:=B.slots j y G
  have f:(σ[i]?).join=some v:=by
   have:(pick σ ix)[j]?=some (some v):=by rwa[waf (by simp),wca,wbW]at E
   unfold pick at this;rw[ZM,hi]at this;exact ZU this
  have s:σ[i]?=some (some v):=by
   cases q:σ[i]? with
   |none=>rw[q]at f;cases f
   |some z=>rw[q]at f;rw[show z=some v from f]
  obtain⟨m,hn,M⟩:=I.loc;have N:Mj X.env.scope y:=.inr (hk.imp id id);obtain⟨u,r,l⟩:=M i y v R s N;refine{u,r,.inr {sv a,?_}};rcases l with⟨k,_⟩ |⟨_,c,hc,h⟩
  .have A:X.env.scope.names.lookup y=some .local:=k;rcases hk with z |z
   .rw[z]at A;cases A
   .rw[z]at A;cases A
  .obtain⟨S,w⟩:=C (y,.free) (wbZ a) rfl;have:=g y S w;rw[hc]at this;cases this;obtain⟨o,q,d⟩:=h;exact{c,w,o,kp c o q,d}
 .obtain⟨v,o,q,d⟩:=I.cell y c (g y c e);exact{v,o,kp c o q,d}
 .show upd H s₂.heap.objs.size (.lst []) L=none;rw[ae (wb4 Qb)];exact I.bc.fresh T
 .obtain⟨v,o,q,d⟩:=I.cell y c (g y c e);rw[ae (wa8 (ZX q))];exact I.iM y c (g y c e)
 .rw[waL]at O;obtain⟨q,n,ne,V,d⟩:=I.pin p O;have lt:=ZX q;refine{kp _ _ q,by rw[ae (wa8 lt)];exact n,wa8 (wa7 lt T),λY=>?_,d};rcases wao.mp (I.sC p.1 Y) with z |z
  .exact ne z
  .exact V z
 .simp[pick,B.len,bA]
theorem By(B:bP X scope x ys ix)(cl L s H ex pn):PG (bA X scope ([x]++ys) cl L s H ex pn) (.Name x g) (eI 0):=
 have a:(relabel scope X.env).names.lookup x=some .local:=wbR B.var
 jf B.nd rfl (.inl a) (.inr a)
end
section
variable{X:Cx}{e:Expr}{es:List Expr}{te:TE}{t:TA}
theorem a8(ha:PE X e te)(g:PA X es t)(hs:starEach (e::es) X.env=(false,eval e X.env)::starEach es X.env:=by rfl):PA X (e::es) (q0 te t):=by
 refine{?_};intro pos a s σ H Q I h;rw[hs];show wpAny _ _ (spliced ((false,eval e X.env)::backTo pos (starEach es X.env))) _ _ s;refine Calls.spliced_cons (bS (ha a s σ H _ I h) λu b ⟨x,c,d,f,i⟩=>?_);exact bS (g pos a b σ c _ d i) λo p ⟨j,k,l,m,n⟩=>{x::j,k,l,.cons f m,n}
theorem aF(ha:PE X e te)(hs:starEach [e] X.env=(false,eval e X.env)::starEach [] X.env:=by rfl):PA X [e] (q0 te wI):=a8 ha fM hs
end
section
variable{s:Shared}{f:Str}{A:Around}{E:Value->Shared->Prop}
theorem Hv{Q:Value->Shared->Prop}(j:wcd e f env (eval e env)=eval e env)
 (h:wpAny (model prog w) A (eval e env) (λo g=>wpAny (model prog w) A (getAttr o f true) Q E g) E s):wpAny (model prog w) A (eval (.Attribute e f pos) env) Q E s:=
 Attribute_any_ h (by rw[arm_eval_Attribute,j])
theorem nT{X:Cx}:∀{g:List Expr} {is:List Int},rP g=some is->PA X g (Jl is)
 |[],is,h=>by
  obtain rfl:[]=is:=ZU h;exact fM
 |e::g,is,h=>by
  unfold rP at h;split at h
  .rename_i heq;exact nomatch heq
  .rename_i i j p a heq;cases heq
   cases q:rP g with
   |none=>rw[q]at h;cases h
   |some b=>
    rw[q]at h;obtain rfl:=ZU h;exact a8 aq (nT q)
  .cases h
theorem Hw{X:Cx}{ps:List (Int×Int)}(h:PA X g (sr ps)):PA X (.Tuple [.Constant (.int i) l p,.Constant (.int j) r t] C pt::g) (sr ((i,j)::ps)):=a8 (cM (a8 aq (a8 aq fM))) h
end
section
variable{X:Cx}{o i:Expr}{td ty:TE}
theorem Kv(j:X.A.units+1<wbf)(hi:PE X i ty)(l:PE X o td):PC X .In i o (Pq ty td):=by
 refine{?_};intro b s σ H Q I h;refine bS (hi b s σ H _ I h) λv c ⟨y,d,e,f,k⟩=>bS (l b c σ d _ e k) λu w ⟨x,m,n,p,a,q,ex,g,r⟩=>?_;subst ex;obtain rfl:u=ZY a:=p;exact Qa j n g f λz t=>{.bl q.isSome,m,t,rfl,r}
theorem vI(j:X.A.units+1<wbf)(hi:PE X i ty)(l:PE X o td):PC X .NotIn i o (Hd ty td):=by
 refine{?_};intro b s σ H Q I h;refine bS (hi b s σ H _ I h) λv c ⟨y,d,e,f,k⟩=>bS (l b c σ d _ e k) λu w ⟨x,m,n,p,a,q,ex,g,r⟩=>?_;subst ex;obtain rfl:u=ZY a:=p;exact Hs j n g f λz t=>{.bl (!q.isSome),m,t,rfl,r}
end
section
variable{X:Cx}{e:Expr}{es:List Expr}{te:TE}{t:TJ}{pos:Pos}
theorem zY(h:PJ X es t):PJ X (.Constant (.str z) j pos::es) (Q4 z t):={λa s σ H b Q I q=>
 joinParts_cons (wgq {q.1,h a _ σ H _ Q (I.tok _) q.2})}
theorem EJ(he:PE X e te)(h:PJ X es t):PJ X (.FormattedValue e (-1) none pos::es) (Q6 te t):={λa s σ H j Q I q=>by
 refine joinParts_cons (FormattedValue_plain (bS (he a s σ H _ I q) λv n ⟨y,d,f,g,k⟩=>?_));rcases k with⟨i,rfl,hl,b,c⟩ |⟨z,rfl,hl,b,c⟩
 .obtain⟨l,rfl⟩:=g;exact formatField_int_small hl {b,h a _ σ d _ Q (f.tok _) c}
 .obtain⟨l,rfl⟩:=g
  exact formatField_str (λo m=>{b,h a _ σ d _ Q (f.tok _) c}) hl}
end
section
variable{X:Cx}{x:Str}{p pos:Pos}{e:Expr}{es:List Expr}{t:TA}{id:String}{r:List V->Hp->VK->Prop}
def Ox(r:List V->Hp->VK->Prop)(t:TA):TE:=λσ H Q=>t σ H λvs H1=>r vs H1 Q
theorem aI(hc:dM X (.builtin id) r)(j:Gl X x)(l:X.mg x=none)(C:wav x=some (.builtin id))(ha:PA X (e::es) t)(hn:x≠"__name__":=by decide)(g:(x==("__debug__":Str))=false:=by decide)
 (he:starEach (e::es) X.env=(false,eval e X.env)::starEach es X.env:=by rfl) (hpl:(backTo pos (starEach es X.env)).any (·.1)=false:=by rfl):PE X (.Call (.Name x p) (e::es) [] pos) (Ox r t):=by
 refine{?_};intro a s σ H Q I h;refine wb6 (gT I j l C ?_ hn g);exact we4 (bS (ha pos a s σ H _ I h) λb c ⟨d,f,i,k,m⟩=>hc a c σ f d b Q i k m) he hpl
end
section
variable{X:Cx}{e:Expr}{te:TE}{lo hi:Option Expr}{tl th:TO}{pos p2:Pos}
def Qc(X:Cx)(r:V->Option Int->Option Int->Hp->VK->Prop):Prop:=
 ∀(pins:List (Addr×Obj)) (s:Shared) (σ:St) (H:Hp) (x:V) (v vl vu:Value) (lo hi:Option Int) (sl:Addr) (Q:VK),Inv X pins σ H s->RelV x v->s.heap.IsSliceOf sl vl vu .none->IsPart vl lo->IsPart vu hi->r x lo hi H Q ->
  ∃T id,weK (.type T) "__getitem__"=pure (some (.builtin id))/\s.TypeIs v T/\wpAny (model X.prog X.w) X.A (getItem v (.ref sl)) (EP X pins σ Q) X.xe s
theorem df{r:V->Option Int->Option Int->Hp->VK->Prop}(j:Qc X r)(he:PE X e te)(hl:PO X lo tl)(p:PO X hi th):PE X (.Subscript e (.Slice lo hi none p2) pos) (V7 r te tl th):=by
 refine{?_};intro a s σ H Q I h;refine Subscript_ (bS (he a s σ H _ I h) λv i ⟨x,k,m,n,o⟩=>?_);refine wpAny_Slice (bS (hl a i σ k _ m o) λd t ⟨l,y,z,pl,B⟩=>bS (p a t σ y _ z B) λf c ⟨u,g,C,D,E⟩=>?_);rw[evalPart_none];refine waa ?_;have G:Inv X a σ g {c with heap:=c.heap.push {cls:=.type "slice",data:=.fields #[d,f,.none]}}:=C.kept (t':=c.toks) λb ob q=>ZQ _ q;obtain⟨T,id,J,L,M⟩:=j a {c with heap:=c.heap.push {cls:=.type "slice",data:=.fields #[d,f,.none]}} σ g x v d f l u c.heap.objs.size Q G n (Heap.IsSliceOf.new ..) pl D E;show wpAny (model X.prog X.w) X.A (wg4 e (.Slice lo hi none p2) v (.ref c.heap.objs.size)) (EP X a σ Q) X.xe {c with heap:=c.heap.push {cls:=.type "slice",data:=.fields #[d,f,.none]}};exact tail_any (ops:=[.ref c.heap.objs.size,v]) L J M (by with_unfolding_all rfl)
end
section
variable{X:Cx}{o e:Expr}{es:List Expr}{to:TE}{t:TA}{name:Str}{apos i5:Pos}{T id:String}{r:V->List V->Hp->VK->Prop}
theorem zZ(p:wfS T)(slot:Slot T name id)(l:typeOf (.builtin id)=pure (.type "method_descriptor"))(C:Hh X id r)(J:PE X o to)
 (g:wcd o name X.env (eval o X.env)=eval o X.env:=by rfl) (j:(apos.endLine==i5.line)=true:=by rfl):PE X (.Call (.Attribute o name apos) [] [] i5) (N0 X.K T r to):=by
 refine{?_};intro a s σ H Q I h;refine wpAny_Call_method0_late g j (bS (J a s σ H _ I h) λv d ⟨x,e,b,c,ty,f⟩=>?_);obtain⟨i,k⟩:=EA b c ty;exact{T,id,p,slot,l,i,k,wfw rfl (PySem.evalArgs_none (C a d σ e x [] v [] Q b c .nil f))}
theorem i9(J:wfS T)(slot:Slot T name id)(C:typeOf (.builtin id)=pure (.type "method_descriptor"))(U:Hh X id r)(ho:PE X o to)(ha:PA X (e::es) t)
 (j:wcd o name X.env (eval o X.env)=eval o X.env:=by rfl)
 (p:((backTo i5 (starEach (e::es) X.env)).all (λx=>!x.1)&&(backToKw i5 (wcm [] X.env)).all (λx=>x.1.isSome)
   && decide ((e::es).length+([]:List weP).length+(if ([]:List weP).isEmpty then 0 else 1)<30))=true:=by rfl)
 (l:(apos.endLine==i5.line)=true:=by rfl) (hs:starEach (e::es) X.env=(false,eval e X.env)::starEach es X.env:=by rfl) (g:(backTo i5 (starEach es X.env)).any (·.1)=false:=by rfl) :
 PE X (.Call (.Attribute o name apos) (e::es) [] i5) (SE X.K T r to t):=by
 refine{?_};intro a s σ H Q I h;refine wpAny_Call_method_late j p l rfl (bS (ho a s σ H _ I h) λv f ⟨x,i,b,c,ty,k⟩=>?_);obtain⟨m,n⟩:=EA b c ty;refine{T,id,J,slot,C,m,n,?_};have d:=ha i5 a f σ i _ b k;rw[hs]at d ⊢;refine wfw (by show (false ||(backTo i5 (starEach es X.env)).any (·.1))=false;rw[g]<;>rfl) (Calls.evalArgs_plain ?_);exact bS d λq u ⟨w,y,z,A,B⟩=>U a u σ y x w v q Q z c A B
theorem sR:Qc X (λx lo hi H Q=>∃z,x=.str z/\z.length<=sizeLine/\Q (.str (wby z lo hi)) H):=by
 intro a s σ H x v n p lo hi sl Q I m hs pl f h;obtain⟨z,rfl,b,q⟩:=h;obtain⟨t,rfl⟩:=m;refine{"str",_,slot_str_getitem.lookup,typeIs_str s z t,?_};have fin:∀d k,EP X a σ Q (.str (wby z lo hi) d) {s with toks:=k}:=λd k=>{.str _,H,I.tok k,⟨d,rfl⟩,q};obtain⟨o,c,hc,hd⟩:=hs
 cases pl with
 |none=>cases f with
  |none=>exact wcx (l:=none) (u:=none) (st:=none) ⟨o,c,hc,hd⟩ rfl (we5 {wa0 (we6 z _ _) b,fin})
  |int j e=>exact wcx (l:=none) (u:=some (j,e)) (st:=none) ⟨o,c,hc,hd⟩ rfl (we5 {wa0 (we6 z _ _) b,fin})
 |int i g=>cases f with
  |none=>exact wcx (l:=some (i,g)) (u:=none) (st:=none) ⟨o,c,hc,hd⟩ rfl (we5 {wa0 (we6 z _ _) b,fin})
  |int j e=>exact wcx (l:=some (i,g)) (u:=some (j,e)) (st:=none) ⟨o,c,hc,hd⟩ rfl (we5 {wa0 (we6 z _ _) b,fin})
end
section
variable{prog:wad}{w:World}{A:Around}{R:wdF->Shared->Prop}{s:Shared}
theorem Cz(I:Nat->Shared->Prop)
 (J:∀n s,I n s->wpAny (model prog w) A (pyNext it) (λr g=>match r with
   |none=>R (.ok .next) g
   |some v=>wpAny (model prog w) A (wdZ target it v) (λ_ j=>wpAny (model prog w) A (assign target env v) (λ_ p=>
     wpAny (model prog w) A (forIn T true λc r=>if r=true then do let ok <-isTrue c env (eval c env);pure (wcE ok) else pure (wcE r)) (λok l=>
      if ok=true then wpAny (model prog w) A (eval U env) (λx t=>
       wpAny (model prog w) A (call (.builtin "list.append") [acc,x]) (λ_ C=>∃m,m<n/\I m C) (notedBy (model prog w) A env λe s'=>R (.error e) s') t) (notedBy (model prog w) A env λe s'=>R (.error e) s') l
      else ∃m,m<n/\I m l) (notedBy (model prog w) A env λe s'=>R (.error e) s') p) (notedBy (model prog w) A env λe s'=>R (.error e) s') j) (notedBy (model prog w) A env λe s'=>R (.error e) s') g) (notedBy (model prog w) A env λe s'=>R (.error e) s') s)
 (n:Nat) (h:I n s) :
 codeAny (model prog w) A (.compLoop (.ListComp U [⟨target,iter,T,0⟩] scope pos) 0 it acc env) R s:=by
 refine codeAny_loop rfl I (λn s q=>?_) n h;show wpAny _ A ((compTurn (.ListComp U [⟨target,iter,T,0⟩] scope pos) 0 it acc env).onRaise (λx=>do noteFrame x env;theTreesLotGoes x)) _ _ s;refine wpAny_noted ?_;rw[compTurn_list];refine ZN (wd4 (ZN (waF (J n s q) (λr g b=>?_) λ_ _ a=>a)))
 cases r with
 |none=>exact waa b
 |some v=>
  refine ZN (waF b (λ_ j f=>?_) λ_ _ a=>a);refine ZN (waF f (λ_ p i=>ZN (waF i (λok l d=>?_) λ_ _ a=>a)) λ_ _ a=>a)
  cases ok with
  |false=>exact waa ⟨rfl,d⟩
  |true=>
   exact ZN (ZN (waF d (λx t k=>ZN (waF k (λ_ C o=>waa (waa ⟨rfl,o⟩)) λ_ _ a=>a)) λ_ _ a=>a))
theorem wY{X:Cx}{K:ZK}{o:Expr}{t:TE}{name:Str}{apos g:Pos}{T id:String}{r:V->List V->Hp->VK->Prop}(C:X.K=K)(I:wfS T)(slot:Slot T name id)(p:typeOf (.builtin id)=pure (.type "method_descriptor"))(J:Hh X id r)(U:PE X o t)
 (j:wcd o name X.env (eval o X.env)=eval o X.env:=by rfl) (l:(apos.endLine==g.line)=true:=by rfl):PE X (.Call (.Attribute o name apos) [] [] g) (N0 K T r t):=by
 subst C;exact zZ I slot p J U j l
end
section
variable{X:Cx}{scope:wct}{x:Str}{ys:List Str}{ix:List Nat}
theorem EK{X:Cx}{K:ZK}{o e:Expr}{l:List Expr}{to:TE}{t:TA}{name:Str}{apos g:Pos}{T id:String}{r:V->List V->Hp->VK->Prop}(hK:X.K=K)(pa:wfS T)(slot:Slot T name id)(U:typeOf (.builtin id)=pure (.type "method_descriptor"))(hm:Hh X id r)(ho:PE X o to)(ha:PA X (e::l) t)
 (p:wcd o name X.env (eval o X.env)=eval o X.env:=by rfl)
 (J:((backTo g (starEach (e::l) X.env)).all (λx=>!x.1)&&(backToKw g (wcm [] X.env)).all (λx=>x.1.isSome)
   && decide ((e::l).length+([]:List weP).length+(if ([]:List weP).isEmpty then 0 else 1)<30))=true:=by rfl)
 (I:(apos.endLine==g.line)=true:=by rfl) (hs:starEach (e::l) X.env=(false,eval e X.env)::starEach l X.env:=by rfl) (j:(backTo g (starEach l X.env)).any (·.1)=false:=by rfl) :
 PE X (.Call (.Attribute o name apos) (e::l) [] g) (SE K T r to t):=by
 subst hK;exact i9 pa slot U hm ho ha p J I hs j
theorem uN{K:ZK}(g:X.K=K):dM X (.type "list") (λxs H Q=>∃p ys,xs=[.ref p]/\(aK K H p ys\/fJ K H p ys)/\∀l,H l=none->Q (.ref l) (upd H l (.lst ys))):=by
 subst g;exact ck
end
section
variable{prog:wad}{w:World}{A:Around}{E:Value->Shared->Prop}{s:Shared}{K:ZK}{x dx C:Addr}{mA:Str->Option Value}{name:Str}{v:Value}
theorem get_map{Q:Value->Shared->Prop}(X:K.In s.heap)(I:zB s.heap x dx C mA)(j:wdL K C name=true)(l:wey K C=true)
 (ha:waS K (.ref C) name=some none) (p:mA name=some v) (g:wgV v=true) (h:Q v {s with toks:=s.toks+1}) :
 wpAny (model prog w) A (getAttr (.ref x) name expr) Q E s:=by
 obtain⟨a,J,hl⟩:=I.look;exact PySem.W.get_value X J (wee j).1 (PySem.W.findObj_own l ha rfl (by rw[hl,p])) g h
theorem Hx{Q:Unit->Shared->Prop}(X:K.In s.heap)(I:zB s.heap x dx C mA)
 (hs:waS K (.ref C) "__setattr__"=some (some (.builtin "object.__setattr__"))) (g:wgC K C=true) (j:wfb K C name=some none) (l:wey K C=true)
 (hw:wdf mA ns) (hsz:ns.length<=sizeLine)
 (h:∀h',zB h' x dx C (λy=>if y=name then some v else mA y)->weR dx s.heap h'->Q .unit {s with heap:=h',toks:=s.toks+2}) :
 wpAny (model prog w) A (setAttr (.ref x) name v) Q E s:=by
 obtain⟨p,J,hl⟩:=I.look;refine weF X J hs (PySem.W.osa_open (s:={s with toks:=s.toks+1}) (r:=none) X J g j λb=>?_);obtain⟨q,hc,e⟩:=PySem.W.any_some l;have i:s.heap.get? x=some {.ref C,some dx,.plain,#[]}:=I.obj;refine ZN (waa (ZN (ZN (wfG i (ZN (wen (s:={s with toks:=s.toks+1}) (wdC X hc) ?_))))));rw[e];refine waa (a:=some dx) (ZN (waa (ZN ?_)));refine wgs (s:={s with toks:=s.toks+1}) I.ns λh' c d=>?_;obtain⟨t,k,m,f,n,o⟩:=c.count (wfh name v hw);refine ZN (weS f (by grind [weT,wa0]) ?_);exact waa (h _ {(d.2 _ (wb4 I.ne)).trans I.obj,c,I.ne} d)
end
section
variable{prog:wad}{w:World}{A:Around}{E:Value->Shared->Prop}{s:Shared}{K:ZK}{x dx C f:Addr}{mA:Str->Option Value}{name:Str}
theorem EL{Q:Value×List Value->Shared->Prop}(X:K.In s.heap)(I:zB s.heap x dx C mA)(g:wdL K C name=true)
 (j:waS K (.ref C) name=some (some (.ref f))) (l:weQ K (.ref f)=true) (p:mA name=none) (h:Q (.ref f,[.ref x]) s) :
 wpAny (model prog w) A (wdT (.ref x) name pl) Q E s:=by
 obtain⟨a,J,hl⟩:=I.look;exact PySem.W.method_fn X J (wee g).1 (wee g).2 j (beq_iff_eq.mp l) (by show (wei name a).map (·.isSome)=some false;rw[hl,p];rfl) h
theorem yp{R:wdF->Shared->Prop}(X:K.In s.heap)(l:whc K C=true)
 (hi:waS K (.ref C) "__init__"=some (some (.ref f))) (p:PySem.W.typeIn K (.ref f)=some (.type "function"))
 (h:codeAny (model prog w) (A.under (.builtin "type.__call__" {.ref C::vs,j})) (.call (.ref f) {.ref (s.heap.objs.size+1)::vs,j}) (PySem.W.InitBack (s.heap.objs.size+1) R)
   {s with heap:=(s.heap.push wbs).push (wbO C s.heap.objs.size)}) :
 codeAny (model prog w) A (.call (.ref C) ⟨vs,j⟩) R s:=by
 obtain⟨a,g,d,t,os⟩:=s;exact PySem.W.make_core (PySem.W.makes_of X l) (wek X hi) (λself=>PySem.W.bind_fn X self p) (.inl rfl) h
end
section
variable{X:Cx}{st:Stmt}{tx:LZ}
theorem ER(g:SD X st tx):MY X [st] tx:=by
 refine{?_};intro a s σ H D E I h;refine wcr (waF (g a s σ H D E I h) (λf b q=>?_) λ_ _ z=>z)
 cases f with
 |next=>exact wbQ q
 |ret v=>exact q
 |brk=>exact q
 |cont=>exact q
end
section
variable{X:Cx}{t u:TS}{pos:Pos}
theorem bp{c:Expr}{a b:List Stmt}{g:TT}(hc:PT X c g)(ha:uE X a t)(l:uE X b u):PS X (.If c a b pos) (Q7 g t u):=by
 refine{?_};intro e s σ H D I h;refine wpAny_If (bS (hc e s σ H _ I h) λd f ⟨i,j,k⟩=>?_)
 cases d with
 |true=>exact ha e f σ i D j k
 |false=>exact l e f σ i D j k
end
section
variable{C:Addr}{sp:Sp}{x:Str}{t:TA}
noncomputable def Kw(C:Addr)(sp:Sp)(t:TA):MB:=λE σ H Q=>t σ H λvs H1=>∀x dx,H1 x=none->H1 dx=none->dx≠x ->
 sp (.ref x::vs) (upd (upd H1 dx (.own x)) x (.ins C dx [])) (λv H2=>v=.non/\Q (.ref x) H2) E
end
section
variable{X:Cx}{ta:TE}{a b:Expr}{pos:Pos}
theorem cD(g:jc X (waE op) r)(ha:PE X a ta)(j:PE X b l)(h:op≠.In:=by decide)(I:op≠.NotIn:=by decide):PT X (.Compare a [op] [b] pos) (E9 (Mq r ta l)):=fX g ha j (gp _ h I)
end
section
variable{X:Cx}{pins:List (Addr×Obj)}{σ:St}{H:Hp}{s:Shared}{C:Addr}
theorem Inv.made(I:Inv X pins σ H s):Inv X pins σ (upd (upd H s.heap.objs.size (.own (s.heap.objs.size+1))) (s.heap.objs.size+1) (.ins C s.heap.objs.size []))
 {s with heap:=(s.heap.push wbs).push (wbO C s.heap.objs.size)}:=by
 have c:(s.heap.push wbs).get? s.heap.objs.size=some wbs:=wa9 s.heap rfl
 have d:((s.heap.push wbs).push (wbO C s.heap.objs.size)).get? (s.heap.objs.size+1)=some (wbO C s.heap.objs.size):=by
  have:=wa9 (s.heap.push wbs) (o:=wbO C s.heap.objs.size) rfl;rwa[wbo]at this
 have f:(s.heap.push wbs).Ns s.heap.objs.size (λ_=>none):={wbs,#[],_,c,rfl,(λe g=>absurd g (by simp)),λ_=>rfl};have h:=I.laid (a:=s.heap.objs.size) (o:=.own (s.heap.objs.size+1)) (h':=s.heap.push wbs) (t':=s.toks) (λb u q=>ZQ _ q) (ZS _) {_,c};refine h.laid (a:=s.heap.objs.size+1) (o:=.ins C s.heap.objs.size []) (t':=s.toks) (λb u q=>ZQ _ q) (wdh (wbo _ _)) ?_;have ne:s.heap.objs.size≠s.heap.objs.size+1:=wa8 (wbx _);refine{by rw[ae ne,a6],wal _,ne,d,λ_=>none,(wgD f).at λo q=>ZQ _ q,λ_=>wbc,λy i=>absurd rfl i}
end
section
variable{X:Cx}{pins:List (Addr×Obj)}{σ:St}{H:Hp}{s s':Shared}
theorem Inv.after(I:Inv X pins σ H s)(h:CE X.stack X.prog X.w H s Q u s'):EP X pins σ Q u s':=by
 obtain⟨v,c,os,bare,un,bc,r,q⟩:=h;obtain⟨e,g,d,t,a⟩:=s';obtain rfl:a=s.os:=os;exact{v,c,I.call (h':=e) (g':=g) (d':=d) (t':=t) (ch:=[]) un bc bare (λb z=>absurd z (by simp)),r,q}
end
section
variable{X:Cx}{CX:DV}{k:Nat}{f C:Addr}{fd:wb3}{ps:List Str}{sp:Sp}{uD:List V}{ds:List Value}{E:XK}{x:Str}{p pos:Pos}{e:Expr}{es:List Expr}{t:TA}
theorem A0(F:aQ X.prog X.w X.K X.mg X.base CX k f fd ps sp)(j:cU k X.A)(l:Binds X.K fd ps ds)(hd:Vals uD ds)(J:Passes CX X E)
 (I:Inv X g σ H s) (r:Vals vs us) (h:sp (vs++uD) H Q E):wpAny (model X.prog X.w) X.A (call (.ref f) us) (EP X g σ Q) X.xe s:=by
 have b:Vals (vs++uD) (us++ds):=r.append hd;have hl:(us++ds).length=ps.length:=by rw[<-b.length];exact F.len _ _ _ _ h
 refine wcI (wbG (F.run X.A X.stack s H {us,[]} (us++ds) (vs++uD) Q E j I.Ho (l s us I.gC hl) b h) λr c a=>?_)
 cases r with
 |error e=>exact J g σ H s e c I a
 |ok fl=>
  cases fl with
  |ret u=>exact I.after a
  |next=>exact waz a
  |brk=>exact waz a
  |cont=>exact waz a
theorem ia(F:aQ X.prog X.w X.K X.mg X.base CX k f fd ps sp)(j:cU k X.A)(l:Gl X x)(J:X.mg x=some (.ref f))(hk:wcn X.K (.ref f)=true)(T:Binds X.K fd ps ds)(hd:Vals uD ds)(U:Passes CX X E)
 (ha:PA X (e::es) t) (g:(x==("__debug__":Str))=false:=by decide) (he:starEach (e::es) X.env=(false,eval e X.env)::starEach es X.env:=by rfl) (hpl:(backTo pos (starEach es X.env)).any (·.1)=false:=by rfl) :
 PE X (.Call (.Name x p) (e::es) [] pos) (Ji sp uD E t):=by
 refine{?_};intro a s σ H Q I h;refine wb6 (fY I l J ?_ g);refine wc4 (h₀:=X.base) I.ok.mod.Je hk (bS (ha pos a s σ H _ I h) λc d ⟨i,m,b,r,q⟩=>{b.gC,?_}) he hpl;exact A0 F j T hd U b r q
theorem EV(M:Mk X.K C f)(F:aQ X.prog X.w X.K X.mg X.base CX k f fd ps sp)(l:cU (k+1) X.A)(J:Binds X.K fd ps ds)(hd:Vals uD ds)
 (T:Passes CX X E) (I:Inv X g σ H s) (r:Vals vs us)
 (h:∀x j,H x=none->H j=none->j≠x->sp (.ref x::(vs++uD)) (upd (upd H j (.own x)) x (.ins C j [])) (λv U=>v=.non/\Q (.ref x) U) E) :
 wpAny (model X.prog X.w) X.A (call (.ref C) us) (EP X g σ Q) X.xe s:=by
 have c:=h (s.heap.objs.size+1) s.heap.objs.size (I.bc.fresh (wc2 _)) (I.bc.fresh (ZS _)) (wa8 (wbx _));have b:=Inv.made (C:=C) I;have d:Vals (V.ref (s.heap.objs.size+1)::(vs++uD)) (ZY (s.heap.objs.size+1)::(us++ds)):=.cons rfl (r.append hd)
 have hl:(ZY (s.heap.objs.size+1)::us++ds).length=ps.length:=by
  have e:=d.length;rw[F.len _ _ _ _ c]at e;exact e.symm
 refine wcI (yp (f:=f) I.gC M.makes M.init (beq_iff_eq.mp M.fn) (wbG (F.run _ X.stack _ _ {ZY (s.heap.objs.size+1)::us,[]} (ZY (s.heap.objs.size+1)::(us++ds)) _ _ E (l.make C us [])
  (b.Ho.make C us []) (J _ (ZY (s.heap.objs.size+1)::us) b.gC hl) d c) λr i a=>?_))
 cases r with
 |error e=>exact T g σ _ _ e i b a
 |ok fl=>
  cases fl with
  |ret u=>
   obtain⟨v,m,n,o,p,q⟩:=b.after a;subst p;exact{o,{V.ref (s.heap.objs.size+1),m,n,rfl,q}}
  |next=>exact waz a
  |brk=>exact waz a
  |cont=>exact waz a
theorem jh(M:Mk X.K C f)(F:aQ X.prog X.w X.K X.mg X.base CX k f fd ps sp)(j:cU (k+1) X.A)(l:Gl X x)(J:X.mg x=some (.ref C))(T:Binds X.K fd ps ds)(hd:Vals uD ds)(U:Passes CX X E)
 (ha:PA X (e::es) t) (g:(x==("__debug__":Str))=false:=by decide) (he:starEach (e::es) X.env=(false,eval e X.env)::starEach es X.env:=by rfl) (hpl:(backTo pos (starEach es X.env)).any (·.1)=false:=by rfl) :
 PE X (.Call (.Name x p) (e::es) [] pos) (Mu C sp uD E t):=by
 refine{?_};intro a s σ H Q I h;refine wb6 (fY I l J ?_ g);refine wc4 (h₀:=X.base) I.ok.mod.Je M.kp (bS (ha pos a s σ H _ I h) λc d ⟨i,m,b,r,q⟩=>{b.gC,?_}) he hpl;exact EV M F j T hd U b r q
end
section
variable{X:Cx}
theorem aj(F:aQ X.prog X.w X.K X.mg X.base cI k f fd ps sp)(a:FnAt X.K X.mg x sm ps f fd)(ha:PA X (e::j) t)(r:cU k X.A:=by exact cU.mono (by assumption) ⋯)(C:Gl X x:=by rfl)(l:(x==("__debug__":Str))=false:=by decide)
 (he:starEach (e::j) X.env=(false,eval e X.env)::starEach j X.env:=by rfl) (hpl:(backTo pos (starEach j X.env)).any (·.1)=false:=by rfl):PE X (.Call (.Name x p) (e::j) [] pos) (Ji sp [] E0 t):=
 ia F r C a.g a.F.kp a.b .nil lX ha l he hpl
end
section
variable{X:Cx}{a b:Expr}{ta tb:TE}{pos:Pos}{rest:List Expr}
theorem sS(ha:PE X a ta)(j:PE X (.BoolOp .And (b::rest) pos) tb):PE X (.BoolOp .And (a::b::rest) pos) (ME ta tb):=by
 refine{?_};intro d s σ H Q I h;refine BoolOp_and (bS (ha d s σ H _ I h) λv i ⟨x,f,g,k,e⟩=>?_);obtain⟨c,rfl,e⟩:=e;cases k;refine wb2 ?_
 cases c with
 |true=>exact j d i σ f Q g e
 |false=>exact{.bl false,f,g,rfl,e}
end
section
variable{X:Cx}{pins:List (Addr×Obj)}{σ:St}{H:Hp}{s:Shared}{x:Addr}{φ:Heap->Prop}
theorem Inv.del(I:Inv X pins σ H s)(g:H x=some (.ext φ)):Inv X pins σ (L2.del H x) s:=by
 have ne:∀{b:Addr} {o:HO},H b=some o->(∀ψ,o≠.ext ψ)->b≠x:=λe n z=>by rw[z,g]at e;exact n φ (ZU e).symm
 have nn:∀{b:Addr},H b=none->L2.del H x b=none:=λ{b} e=>by
  by_cases z:b=x
  .rw[z];exact gb
  .rw[gQ z];exact e
 have u:=I.base;refine{I.ok,I.os,I.bare,{u.keep,u.slot,λb o q n d=>nn (u.free b o q n d),u.there,λb f q=>?_,λb o v q=>?_,λb ps q=>?_},I.loc,I.cell,nn I.free,λy c e=>nn (I.iM y c e),λp h=>?_,λa o e=>?_,I.len}
 .have e:=u.se b f q;rw[gQ (ne e λψ z=>by cases z)];exact e
 .have e:=u.ry b o v q;rw[gQ (ne e λψ z=>by cases z)];exact e
 .obtain⟨m,e⟩:=u.sf b ps q;exact{m,by rw[gQ (ne e λψ z=>by cases z)];exact e}
 .obtain⟨a1,a2,a3⟩:=I.pin p h;exact{a1,nn a2,a3}
 .have i:H a=some o:=by
   by_cases z:a=x
   .rw[z,gb]at e;cases e
   .rw[gQ z]at e;exact e
  refine(I.bc a o i).uK (λb u _ q=>q) (λb q=>?_) λb f q=>?_
  .rw[gQ (ne q λψ z=>by cases z)];exact q
  .rw[gQ (ne q λψ z=>by cases z)];exact q
end
section
variable{P:wad}{w:World}{H:Hp}{h h':Heap}{x e:Addr}{o':HO}
theorem jb.write(ok:jb P w H h)(g:Mi (H x))(he:e=x\/H e=some (.own x))(k:∀b u,b≠e->h.get? b=some u->h'.get? b=some u)(l:∃u,h'.get? e=some u)
 (new:bZ P w (upd H x o') h' x o'):jb P w (upd H x o') h':=λb u q=>by
 have d:∀c y,H c=some (.own y)->c≠x:=λc y r z=>by subst z;rw[r]at g;exact g
 have f:∀c i,H c=some (.tup i)->c≠x:=λc i r z=>by subst z;rw[r]at g;exact g
 by_cases j:b=x
 .subst j;rw[a6]at q;cases q;exact new
 .rw[ae j]at q
  by_cases a:b=e
  .have m:H b=some (.own x):=by
    rcases he with z |z
    .exact absurd (a.trans z) j
    .rw[a];exact z
   rw[q]at m;cases m;obtain⟨v,n⟩:=l;exact{v,by rw[a];exact n}
  .refine(ok b u q).uK (λc v hc r=>k c v ?_ r) (λc r=>by rw[ae (d c b r)];exact r) λc i r=>by rw[ae (f c i r)];exact r
   rcases hc with rfl |hc
   .exact a
   .rintro rfl;rcases he with z |z
    .exact d c b hc z
    .rw[hc]at z;cases z;exact j rfl
end
section
variable{fs ex:List Addr}{H:Hp}{h h':Heap}{x e:Addr}{o:HO}
theorem Un.write(g:Mi (H x))(he:e=x\/H e=some (.own x))(k:∀b u,b≠e->h.get? b=some u->h'.get? b=some u)(j:∃u,h'.get? e=some u):Un fs ex H (upd H x o) h h':=by
 have f:∀b,H b=none->b≠x:=λb n z=>by subst z;rw[n]at g;exact g
 have d:∀b,H b=none->b≠e:=λb n z=>by
  subst z;rcases he with r |r
  .grind
  .grind
 have c:∀b u,H b=some u->¬Mi (some u)->b≠x:=λb u q i z=>by subst z;rw[q]at g;exact i g
 refine{λb u q n _ _=>k b u (d b n) q,λb u q n _ _=>{u.slots,k b u (d b n) q},λb u q n _=>by rw[ae (f b n)];exact n,λb u q _=>?_,
  λb l q=>by rw[ae (c b _ q λz=>z)];exact q,λb u l q=>by rw[ae (c b _ q λz=>z)];exact q,λb ps q=>{#[],by rw[ae (c b _ q λz=>z),q];simp}}
 by_cases a:b=e
 .subst a;exact j
 .exact{u,k b u a q}
end
section
variable{X:Cx}{pins:List (Addr×Obj)}{σ:List (Option V)}{H:Hp}{s:Shared}{h':Heap}
theorem Inv.write(I:Inv X pins σ H s)(j:Mi (H x))(he:e=x\/H e=some (.own x))(k:∀b u,b≠e->s.heap.get? b=some u->h'.get? b=some u)(g:∃u,h'.get? e=some u)
 (new:bZ X.prog X.w (upd H x o) h' x o):Inv X pins σ (upd H x o) {s with heap:=h',toks:=t'}:=I.un (Un.write j he k g) (I.bc.write j he k g new)
end
section
variable{X:Cx}{pins:List (Addr×Obj)}{σ:St}{H:Hp}{s:Shared}{l:Addr}{xs ys:List V}
theorem Inv.Kx{g its':List Value}{n:Nat}{f:Array Value->Array Value}{t':Nat}(I:Inv X pins σ H s)(j:H l=some (.lst xs))
 (e:s.heap.get? l=some {cls:=.type "list",data:=.seq g.toArray n}) (p:f g.toArray=its'.toArray) (r:Vals ys its') (t:ys.length<=sizeLine) :
 Inv X pins σ (upd H l (.lst ys)) {s with heap:=s.heap.update l (wci f),toks:=t'}:=by
 have q:=PySem.IsL.update e f;rw[p]at q;refine I.write (x:=l) (e:=l) (by rw[j];exact trivial) (.inl rfl) (λc u a b=>(wat s.heap (wci f) (wb4 a)).trans b) {_,q} ?_;exact{t,its',_,r,q}
theorem cN:PX X "list.append" Hm:=by
 intro b s σ H x i v j Q I d f h;obtain⟨l,k,y,rfl,rfl,c,m,q⟩:=h;cases d;obtain⟨u,rfl,g⟩:=f.one;obtain⟨z,a,n,r,hl,e⟩:=I.Cv c;refine wd0 waA {_,e,rfl} F.entry_list_append (F.args_list_append_2 _ _) (PySem.list_append l a.toArray n u (by grind)) {e,?_};refine{.non,_,I.Kx (its':=a++[u]) c e (by simp) (r.append (.cons g .nil)) ?_,rfl,q};rw[ZP,wc8]
 lia
theorem Ky:PX X "list.pop" Q0:=by
 intro d s σ H x m v o Q I g i h;obtain⟨l,p,y,rfl,rfl,f,j,q⟩:=h;cases g;have b:=i.zero;subst b;obtain⟨z,a,n,r,hl,e⟩:=I.Cv f;obtain⟨u,t,k⟩:=r.get j
 have c:a.toArray[a.toArray.size-1]?=some u:=by
  grind
 refine wd0 wgt {_,e,rfl} F.entry_list_pop (F.args_list_pop_1 _) (MeetsSeq.list_pop_last l a.toArray n u c (by grind)) {e,?_};refine{y,_,I.Kx (its':=a.dropLast) f e ?_ r.dropLast ?_,k,q}
 .grind
 .grind
theorem EW:PX X "list.clear" Kk:=by
 intro c s σ H x i v j Q I f g h;obtain⟨l,k,rfl,rfl,d,q⟩:=h;cases f;have a:=g.zero;subst a;obtain⟨z,b,n,r,hl,e⟩:=I.Cv d;refine wd0 wfT {_,e,rfl} F.entry_list_clear (F.args_list_clear_1 _) (AutoSeq1.list_clear_list_0 l b.toArray n (by rw[wa3];omega)) {e,?_};exact{.non,_,I.Kx (its':=[]) (ys:=[]) d e rfl .nil (wal _),rfl,q}
end
section
variable{X:Cx}{a b c:Expr}{ta tb tc:TE}{pos:Pos}
theorem nU(p:jc X (waE op) r)(j:jc X (waE g) t)(ha:PE X a ta)(C:PE X b tb)(hc:PE X c tc)
 (J:lastMarks [op,g] [b,c]=false:=by with_unfolding_all rfl):PT X (.Compare a [op,g] [b,c] pos) (E9 (Kb r t ta tb tc)):=by
 refine{?_};intro f s σ H Q I h
 refine isTrue_chain (bS (ha f s σ H _ I h) λv o ⟨x,q,w,A,B⟩=>test_link (bS (C f o σ q _ w B) λu D ⟨y,E,G,i,L⟩=>
  bS (p f D σ E x y v u _ G A i L) λd M ⟨z,l,m,N,k,e,n⟩=>?_)) J
 subst e;cases N;refine wb2 ?_
 cases k with
 |false=>
  obtain⟨k',O,R⟩:=n;cases O;exact ite_ff ⟨l,m,R⟩
 |true=>
  refine ite_tt (test_last (bS (hc f M σ l _ m n) λS T ⟨U,V,Y,Z,q4⟩=>bS (j f T σ V y U u S _ Y i Z q4) λd' s5 ⟨z2,H5,I5,r5,k2,e2,q5⟩=>?_));subst e2;cases r5;exact wb2 ⟨H5,I5,q5⟩
theorem Inv.Kz{g:List (Addr×Obj)}{σ:St}{H:Hp}{s:Shared}{p:Addr}{xs ys:List V}{j its':List Value}{n l:Nat}{f:Obj->Obj}(I:Inv X g σ H s)(h:H p=some (.lst xs))
 (J:s.heap.get? p=some {cls:=.type "list",data:=.seq j.toArray n}) (C:f {cls:=.type "list",data:=.seq j.toArray n}={cls:=.type "list",data:=.seq its'.toArray l}) (r:Vals ys its') (T:ys.length<=sizeLine) (t:Nat) :
 Inv X g σ (upd H p (.lst ys)) {s with heap:=s.heap.update p f,toks:=t}:=by
 have e:(s.heap.update p f).get? p=some {cls:=.type "list",data:=.seq its'.toArray l}:=by
  rw[wbd f J (by rw[C]<;>rfl),C]
 refine I.write (x:=p) (e:=p) (by rw[h];trivial) (.inl rfl) (λb u a q=>(wat _ _ (wb4 a)).trans q) {_,e} ?_;exact⟨T,its',l,r,e⟩
theorem set_list:MS X MZ:=by
 intro a s σ H o i v B C u Q I m w x h;obtain⟨p,y,k,j,rfl,rfl,e,z,q⟩:=h;cases m;obtain⟨t,rfl⟩:=w;obtain⟨b,n,r,d,A⟩:=I.lst e;obtain⟨c,D,f,g⟩:=Bl z;have hl:=r.length;have hn:=mM
 have l:Inv X a σ (upd H p (.lst (y.set j v))) {s with heap:=s.heap.update p (wci (·.setIfInBounds j u))}:=
  I.Kz e d (zQ b n j u) (r.set x j) (by rw[wbS];exact A) s.toks
 by_cases h0:0<=k
 .have hk:k.toNat=j:=by
   rw[wgQ h0 g]at c;exact ZU c
  exact PySem.W.ki_setAt d h0 (by lia) (by rw[wa3,<-hl];exact g) (by rw[hk];exact{_,l,q})
 .have hk:(k+(b.toArray.size:Int)).toNat=j:=by
   rw[wgl (by lia) f]at c;rw[wa3,<-hl];exact ZU c
  exact PySem.W.ki_setBack d (by lia) (by rw[wa3,<-hl];exact f) (by lia) (by rw[hk];exact{_,l,q})
end
section
variable{X:Cx}{pins:List (Addr×Obj)}{σ:St}{H:Hp}{s:Shared}{a:Addr}{y v:V}{u r:Value}{A:Around}{E:Value->Shared->Prop}
theorem CA{Q:Value->Shared->Prop}(C:A.units+1<wbf)(I:Inv X pins σ H s)(g:eK H a y (some v))(t:RelV y u)(h:∀j s',Inv X pins σ H s'->RelV v j->Q j s') :
 wpAny (model X.prog X.w) A (getItem (.ref a) u) Q E s:=by
 rcases g with⟨d,k,e,f,l⟩ |⟨d,k,b,e,f,n,l⟩
 .subst f;obtain⟨z,hd,q,rel,i⟩:=lZ I.bc e;obtain⟨j,hw,c⟩:=j7.wH (v:=v) (o:=valueAt q k) (by rw[l];exact rel.val k);exact wpAny_getItem_of (vk t) i.mapOf hw (h j _ (I.tok _) c)
 .subst f;cases(show u=ZY b from t);obtain⟨z,hd,r,rel,i⟩:=yf I.bc e;obtain⟨j,hw,c⟩:=j7.wH (v:=v) (o:=(atKey r k).map (·.2)) (by rw[l];exact rel.val k);obtain⟨p,x,m⟩:=wcK.mp hw;refine wpAny_getItem_heap (wdk C) (sJ I.bc n) i x ?_;rw[m];exact h j _ (I.tok _) c
theorem wZ(I:Inv X pins σ H s)(g:Mi (H a))(hs:weR a s.heap h')(he:∃q,h'.get? a=some q)(new:bZ X.prog X.w (upd H a ob) h' a ob) :
 Inv X pins σ (upd H a ob) {s with heap:=h',toks:=t'}:=
 I.write (x:=a) (e:=a) g (.inl rfl) (λb q c z=>(hs.2 b c).trans z) he new
theorem CC{Q:Unit->Shared->Prop}(J:A.units+1<wbf)(I:Inv X pins σ H s)(g:kh H a y v T)(p:RelV y u)(t:RelV v r)(h:∀s',Inv X pins σ T s'->Q .unit s') :
 wpAny (model X.prog X.w) A (setItem (.ref a) u r) Q E s:=by
 rcases g with⟨d,k,e,j,l,m⟩ |⟨d,k,b,e,j,x,l,m⟩
 .subst j m;obtain⟨z,hd,D,rel,n⟩:=sI I.bc e;have o:D.length<=sizeLine:=by rw[<-rel.length];exact z
  have hl:(putK d k v).length<=sizeLine:=by have:=kg d k v;lia
  refine wpAny_setItem_pairs (hsz:=o) (vk p) n λB f hs=>h _ ?_;have G:∃q,B.get? a=some q:=let ⟨q,_,_,i,_⟩:=f;⟨q,i⟩
  exact wZ I (by rw[e];exact wbc) hs G (Eu hl hd (rel.put k t) f)
 .subst j m;cases(show u=ZY b from p);obtain⟨z,hd,L,rel,n⟩:=N4 I.bc e;have o:L.length<=sizeLine:=by rw[<-wg3 rel];exact z
  have hl:(putK d k v).length<=sizeLine:=by have:=kg d k v;lia
  refine wpAny_setItem_heap (hsz:=o) (wdk J) (sJ I.bc x) n λB f hs=>h _ ?_;obtain⟨q,M,N,i,O,R,S,_,U⟩:=f;refine wZ I (by rw[e];exact wbc) hs ⟨q,i⟩ {hl,hd,_,(rel.put k x t).keeps λc V C=>?_,q,M,N,i,O,R,S,U};rw[ae (Mh C e (λz=>nomatch z))];exact C
end
section
variable{X:Cx}{pins:List (Addr×Obj)}{σ:St}{H:Hp}{s₂:Shared}{scope:wct}{x:Str}{xs ys:List Str}{ix:List Nat}{cl:List (Str×Addr)}{fp:List Addr}{L:Addr}
theorem vJ{tn:Nat->Heap->Prop}{Qd:Addr->Hp->Prop}{RR:Value->Addr->wdF->Shared->Prop}{E:Value->Shared->Prop}
 (hc:X.calm=true) (B:bP X scope x ys ix) (I:Inv X pins σ H s₂) (T:Turn X.prog X.w X.K tg J fp it tn) (SH:tn 0 s₂.heap) (U:∀b∈fp,si X pins H b)
 (xR:∀y c,cl.lookup y=some c->X.env.cells.lookup y=some c) (Vc:∀y∈scope.names,y.2=.free->∃c,cl.lookup y.1=some c)
 (ht:∀L s H ex pn,GC (bA X scope (xs++ys) cl L s H ex pn) ifs tt) (he:∀L s H ex pn,PE (bA X scope (xs++ys) cl L s H ex pn) elt te)
 (hg:∀L s H ex pn,PG (bA X scope (xs++ys) cl L s H ex pn) tg g) (hw:∀l,H l=none->vD g xs.length J l (pick σ ix) tt te H (Qd l))
 (Vd:∀D L H' s' m,Inv X pins σ H' s'->s'.heap.Ns L m->H' L=none->L≠X.env.locals->X.s₀.heap.objs.size<=L->(∀y c,X.env.cells.lookup y=some c->c≠L)->(∀p∈X.pn++pins,p.1≠L)->Qd D H'->RR (.ref D) L (.ok .next) s') :
 wpAny (model X.prog X.w) X.A (newList []) (λacc t=>wpAny (model X.prog X.w) X.A (newFunctionEnv scope X.env.globals cl [] X.env.qual none .none (some X.env)) (λN7 s₄=>
  codeAny (model X.prog X.w) X.A (.compStart (.ListComp elt [⟨tg,iter,ifs,0⟩] scope pos) 0 (.ref it) acc {N7 with scope:=relabel scope X.env}) (RR acc N7.locals) s₄) E t) E s₂:=by
 refine weC (wpAny_newFunctionEnv B.Ek (by intro y hy;simp at hy) (λk j a=>?_) B.kind);dsimp only at j a ⊢;generalize O:s₂.heap.push {cls:=.type "list",dict:=none,data:=.seq ([]:List Value).toArray}=C at j a ⊢;have hC:C.objs.size=s₂.heap.objs.size+1:=by rw[<-O,wbo]
 have SJ:s₂.heap.objs.size≠C.objs.size:=by rw[hC];exact wa8 (wbx _)
 have f:s₂.heap.objs.size<=C.objs.size:=by rw[hC];exact wc2 _
 have old:∀b o,s₂.heap.get? b=some o->k.get? b=some o:=λb o e=>a.extBut b o (wa8 (wa7 (ZX e) f)) (ZQ _ (O ▸ ZQ _ e));have Qe:k.get? s₂.heap.objs.size=some {cls:=.type "list",data:=.seq ([]:List Value).toArray}:=a.extBut _ _ SJ (ZQ _ (O ▸ wa9 _ rfl));have Q:∀b∈fp,b<s₂.heap.objs.size:=λb h=>let ⟨o,e,_⟩:=T.obj 0 _ SH b h;ZX e
 have Ve:∀b∈fp,∀o,s₂.heap.get? b=some o->k.get? b=some o:=λb _ o e=>old b o e;have SK:tn 0 k:=T.keep 0 _ _ SH Ve;obtain⟨W,⟨m0,w0⟩,turn⟩:=hw s₂.heap.objs.size (I.bc.fresh (ZS _))
 have N:∀t:Shared,t={s₂ with heap:=k,toks:=s₂.toks+([]:List (Str×Value)).length} ->
  codeAny (model X.prog X.w) X.A (.compLoop (.ListComp elt [⟨tg,iter,ifs,0⟩] scope pos) 0 (.ref it) (.ref s₂.heap.objs.size) (compEnvC scope cl C.objs.size X.env))
   (RR (.ref s₂.heap.objs.size) C.objs.size) t:=by
  rintro t rfl;have I0:=EI (xs:=xs) (tk:=s₂.toks+([]:List (Str×Value)).length) (n₀:=0) (m₁:=_) (L:=C.objs.size) B I U Q f xR Vc old j rfl SJ Qe
  refine Cz (env:=compEnvC scope cl C.objs.size X.env)
   (λn s'=>∃i G vs H',vs.length=xs.length/\Inv (bA X scope (xs++ys) cl C.objs.size s₂ H fp (X.pn++pins)) [] (vs++pick σ ix) H' s'/\tn i s'.heap/\(∀b∈fp,H' b=none)/\W i n G H') ?_ m0
   {0,[],_,_,wca,I0,SK,λb h=>by rw[ae (wa8 (Q b h))];exact(U b h).1,w0}
  rintro n s3 ⟨i,G,vs,H3,hv,I3,SM,SN,w3⟩;obtain⟨Hy,alt⟩:=turn i n G H3 w3
  have M:∀{H':Hp},(∀b∈fp,H' b=none)->∀b∈fp,si (bA X scope (xs++ys) cl C.objs.size s₂ H fp (X.pn++pins)) [] H' b:=λhn b h=>
   {hn b h,wa8 (wa7 (Q b h) f),λhm=>by
     rcases wao.mp (I.sC b hm) with z |z
     .exact(U b h).2.1 z
     .exact(U b h).2.2.1 z,.inl h,λy c e=>(U b h).2.2.2.2.1 y c (xR y c e),λp hp=>(U b h).2.2.2.2.2 p (by simpa [bA] using hp)}
  rcases alt with⟨stop,qd⟩ |⟨go,hsz,step⟩
  .refine bS (T.done (bA X scope (xs++ys) cl C.objs.size s₂ H fp (X.pn++pins)) rfl rfl rfl hc i [] s3 _ H3 _ I3 (M SN) SM stop) λr s4 ⟨hr,Y⟩=>?_;subst hr;obtain⟨m,hn,_⟩:=Y.loc;refine Vd s₂.heap.objs.size C.objs.size H3 s4 m ?_ hn Y.free (wc3 (wa7 I.lt f)) (wa0 I.sz f) (λy c e=>?_) (λp hp=>?_) qd
   .exact I.vA Y.os Y.base Y.bc Y.bare λb h=>{(U b h).2.2.2.1,(U b h).2.1,(U b h).2.2.2.2.1,(U b h).2.2.2.2.2}
   .obtain⟨v,o,q,d⟩:=I.cell y c e;exact wa8 (wa7 (ZX q) f)
   .exact wa8 (wa7 (ZX (I.pin p hp).1) f)
  .refine bS (T.item (bA X scope (xs++ys) cl C.objs.size s₂ H fp (X.pn++pins)) rfl rfl rfl hc i [] s3 _ H3 _ I3 (M SN) SM go) λr s4 ⟨u,hr,h4⟩=>?_;subst hr;refine bS h4 λ_ s5 ⟨xv,H5,I5,r5,y5,R,Vf⟩=>?_;have Vg:=I5.pinned (M Vf) (T.obj _ _ R);refine waF (hg _ _ _ _ _ _ s5 _ H5 xv u _ Vg r5 (step xv _ vs hv y5)) (λ_ s6 {σ6,H6,I6,⟨N1,SQ,e6⟩,q6}=>?_) λ_ _ z=>waz z;subst e6;refine waF (ht _ _ _ _ _ _ s6 _ _ _ I6 q6) (λb s7 ⟨H7,I7,q7⟩=>?_) λ_ _ z=>waz z
   have again:∀{S:St} {V:Hp} {Z:Shared},Inv (bA X scope (xs++ys) cl C.objs.size s₂ H fp (X.pn++pins)) ([]++sj fp s5.heap) S V Z ->
    Inv (bA X scope (xs++ys) cl C.objs.size s₂ H fp (X.pn++pins)) [] S V Z/\tn (i+1) Z.heap/\∀b∈fp,V b=none:=λ{S V Z} I8=>by
    refine{I8.nL,T.keep _ _ _ R λb h o e=>(I8.pin (b,o) (war _ (war _ (j8 h e)))).1,λb h=>?_};obtain⟨o,e,d⟩:=T.obj _ _ R b h;exact(I8.pin (b,o) (war _ (war _ (j8 h e)))).2.1
   cases b with
   |false=>
    rw[if_neg wa2]at q7 ⊢;obtain⟨m',hm,w7⟩:=q7;obtain⟨a1,a2,a3⟩:=again I7;exact{m',hm,i+1,G,N1,H7,SQ,a1,a2,a3,w7}
   |true=>
    rw[if_pos rfl]at q7 ⊢;refine waF (he _ _ _ _ _ _ s7 _ _ _ I7 q7) (λuy Z ⟨y,V,I8,r8,Oy,m',hm,w8⟩=>?_) λ_ _ z=>waz z
    refine waF (cN (X:=bA X scope (xs++ys) cl C.objs.size s₂ H fp (X.pn++pins)) _ Z _ V (.ref s₂.heap.objs.size) [y] (.ref s₂.heap.objs.size) [uy] (λ_ H9=>H9=upd V s₂.heap.objs.size (.lst (G++[y]))) I8 rfl (.cons r8 .nil) {_,G,y,rfl,rfl,Oy,hsz,rfl})
     (λ_ s9 {v9,H9,I9,_,e9}=>?_) λ_ _ z=>waz z
    subst e9;obtain⟨a1,a2,a3⟩:=again I9;exact{m',hm,i+1,G++[y],N1,_,SQ,a1,a2,a3,w8}
 exact codeAny_compStart_list (N _ rfl) (T.self X.A 0 _ _ _ SK (N _ rfl))
theorem sT{C:It->Addr->St->Hp->(Hp->Prop)->Prop}(hc:X.calm=true)(B:bP X scope x ys ix)(hg:∀cl L s H ex pn,PG (bA X scope (xs++ys) cl L s H ex pn) U g)(hC:∀J l j H Q,C J l j H Q->vD g xs.length J l j tt te H Q)(hi:PI X U iter wi)
 (ht:∀cl L s H ex pn,GC (bA X scope (xs++ys) cl L s H ex pn) p tt) (he:∀cl L s H ex pn,PE (bA X scope (xs++ys) cl L s H ex pn) r te)
 (hs:∀v,wbr iter X.env v=pure v:=by intro _;rfl):PE X (.ListComp r [⟨U,iter,p,0⟩] scope pos) (λσ H Q=>wi σ H λJ H1=>∀l,H1 l=none->C J l (pick σ ix) H1 (λH2=>Q (.ref l) H2)):=by
 refine{?_};intro pins s σ H Q I h;obtain⟨cl,a,d,f⟩:=lW (scope:=scope) (env:=X.env) (λy G i=>I.ok.has y.1 (B.free y G i));rw[eval_ListComp];refine weU (use:=none) rfl hs a B.kind B.names (bS (hi pins s σ H _ I h) λZ s1 k=>bS k λM s2 n=>?_);obtain⟨it,fp,tn,J,H2,e,N,T,t,f2,hw⟩:=n;subst e;refine vJ (RR:=λu C=>compPost (model X.prog X.w) X.A X.xe none (EP X pins σ Q) u C) (Qd:=λl z=>Q (.ref l) z) hc B N T t f2 d f (ht cl) (he cl) (hg cl) (λl h=>hC _ _ _ _ _ (hw l h)) ?_;intro D L z O m R hn c k n S V q;exact{m,hn,λh' E=>{.ref D,z,R.turned (it:=L) (t':=O.toks) (λb o Y e=>(E.2 b Y).trans e) c k (.inr n) S V,rfl,q}}
theorem bV(hc:X.calm=true)(B:bP X scope x ys ix)(hi:PI X (.Name x t) iter I)
 (T:∀cl L s H ex pn,GC (bA X scope (x::ys) cl L s H ex pn) g p) (he:∀cl L s H ex pn,PE (bA X scope (x::ys) cl L s H ex pn) j r)
 (hs:∀v,wbr iter X.env v=pure v:=by intro _;rfl):PE X (.ListComp j [{.Name x t,iter,g,0}] scope pos) (N2 I ix p r):=
 sT (C:=λJ l a H Q=>lY J l a p r H Q) (xs:=[x]) hc B (By B) (λ_ _ _ _ _=>Bu) hi T he hs
end
theorem Bz{X:Cx}(h:Ou X pos keys values j)(g:keys.all (·.isSome)=true)(hl:keys.length=values.length)(h0:keys≠[])
 (l:keys.length<=15):PE X (.Dict keys values pos) (MM j):=by
 refine{?_};intro b s σ H Q I q;have hn:=I.bc.fresh (ZS s.heap.objs.size);have k:=I.laid (a:=s.heap.objs.size) (o:=.dK []) (h':=s.heap.push {cls:=.type "dict",data:=.dict #[]}) (t':=s.toks) (λ_ _ q=>ZQ _ q) (ZS _) (sA s.heap I.big);refine wpAny_Dict_walk (knd:=bF X.prog X.w) g hl h0 l (bS (h b _ σ _ _ k (q _ hn)) λws C ⟨ps,D,i,rel,e,d,m,lk,n⟩=>?_);subst m;obtain⟨p,c,r⟩:=sD (P:=X.prog) (w:=X.w) rel;obtain⟨z,hd,t,u,v⟩:=sI i.bc e;cases u;refine{p,c,v,λh' f hs=>{.ref s.heap.objs.size,_,?_,rfl,n}}
 have x:(ja [] d).length<=sizeLine:=by
  have y:=uI d [];rw[wfe]at y;rw[wbF];lia
 have A:∃q,h'.get? s.heap.objs.size=some q:=let ⟨q,_,_,B,_⟩:=f;⟨q,B⟩
 exact wZ i (by rw[e];exact wbc) hs A (Eu x hd (r.merge .nil) f)
theorem Inv.freeze{X:Cx}(I:Inv X g σ H s)(e:H d=some (.dK kvs)):∃o,s.heap.get? d=some o/\Inv X g σ (upd H d (.frz o (.dK kvs))) s:=by
 have ok:=I.bc d _ e;obtain⟨z,y,f,rel,o,h,i,a,j⟩:=id ok;refine{o,a,?_};exact I.write (x:=d) (e:=d) (h':=s.heap) (t':=s.toks) (by rw[e];exact trivial) (.inl rfl) (λb u _ c=>c) {_,a} ⟨a,ok⟩
section
variable{X:Cx}{scope:wct}{x:Str}{xs ys:List Str}{ix:List Nat}
theorem qe{C:It->Addr->St->Hp->(Hp->Prop)->Prop}(hc:X.calm=true)(B:bP X scope x ys ix)(hN:X.N.Nodup)(hy:X.N[i]?=some y)(r:X.env.scope.names.lookup y=some .local)(hg:∀cl L s H ex pn,PG (bA X scope (xs++ys) cl L s H ex pn) tg g)(hC:∀J l t H Q,C J l t H Q->vD g xs.length J l t tt te H Q)(hi:PI X tg iter wi)
 (ht:∀cl L s H ex pn,GC (bA X scope (xs++ys) cl L s H ex pn) j tt) (he:∀cl L s H ex pn,PE (bA X scope (xs++ys) cl L s H ex pn) p te)
 (Qf:wbD (.ListComp p [⟨tg,iter,j,0⟩] scope pos) (some (.Name y py)) U.line X.env=pure true:=by rfl)
 (hs:∀v,wbr iter X.env v=pure v:=by intro _;rfl):PS X (.Assign [.Name y py] (.ListComp p [⟨tg,iter,j,0⟩] scope pos) U) (λD σ H=>wi σ H λJ H1=>∀l,H1 l=none->C J l (pick σ ix) H1 (λH2=>D.nx (σ.set i (some (.ref l))) H2)):=by
 refine{?_};intro c s σ H D I h;obtain⟨cl,d,u,E⟩:=lW (scope:=scope) (env:=X.env) (λy hy G=>I.ok.has y.1 (B.free y hy G));rw[exec_Assign_Name_used _ _ _ _ Qf];refine ZN (wd4 (ZN ?_));show wpAny _ X.A (do let _ <-comprehension (.ListComp p [⟨tg,iter,j,0⟩] scope pos) scope X.env _ (newList []) false (eval iter X.env) (some (assign (.Name y py) X.env))) _ _ s
 refine ZN (waF (weU (use:=some (assign (.Name y py) X.env)) (Q:=λ_ k=>SP X c D .next k) rfl hs d B.kind B.names
  (bS (hi c s σ H _ I h) λxv s1 n=>bS n λPL s2 M=>?_)) (λ_ k hq=>waa (waa hq)) λ_ _ e=>e)
 obtain⟨it,fp,tn,J,H2,e,I2,T,O,f2,hw⟩:=M;subst e;refine vJ (RR:=λR C=>compPost (model X.prog X.w) X.A X.xe (some (assign (.Name y py) X.env)) (λ_ k=>SP X c D .next k) R C) (Qd:=λl S=>D.nx (σ.set i (some (.ref l))) S) hc B I2 T O f2 u E (ht cl) (he cl) (hg cl) (λl h=>hC _ _ _ _ _ (hw l h)) ?_;intro D' L S k m I' hn f n M h3 h4 q;show wpAny _ X.A (assign (.Name y py) X.env (.ref D')) _ _ _;refine wpAny_assign_Name (vE I' hN hy (.inl r) (v:=.ref D') rfl (λV Y sb=>?_) (.inr r));obtain⟨a,Z,ha⟩:=sb
 have hL:L≠a:=by
  rcases ha with z |z
  .rw[z];exact n
  .exact(h3 y a z).symm
 refine{m,hn.sameBut Z hL,λh' Ju=>{_,S,Y.turned (it:=L) (t':=V.toks) (λb o hb e=>(Ju.2 b hb).trans e) f n (.inr M) h3 h4,q}}
theorem fP(hc:X.calm=true)(B:bP X scope x ys ix)(hN:X.N.Nodup)(hy:X.N[i]?=some y)(r:X.env.scope.names.lookup y=some .local)(hi:PI X (.Name x I) iter wi)
 (ht:∀cl L s H ex pn,GC (bA X scope (x::ys) cl L s H ex pn) g T) (he:∀cl L s H ex pn,PE (bA X scope (x::ys) cl L s H ex pn) j U)
 (t:wbD (.ListComp j [{.Name x I,iter,g,0}] scope pos) (some (.Name y py)) p.line X.env=pure true:=by rfl)
 (hs:∀v,wbr iter X.env v=pure v:=by intro _;rfl):PS X (.Assign [.Name y py] (.ListComp j [{.Name x I,iter,g,0}] scope pos) p) (Kl wi ix T U i):=
 qe (C:=λJ l a H Q=>lY J l a T U H Q) (xs:=[x]) hc B hN hy r (By B) (λ_ _ _ _ _=>Bu) hi ht he t hs
end
section
variable{X:Cx}{o i value:Expr}{pos pos':Pos}{td ty tv:TE}
theorem cJ(j:X.A.units+1<wbf)(l:PE X o td)(hi:PE X i ty)(hs:My i):PE X (.Subscript o i pos) (MI td ty):=by
 refine{?_};intro b s σ H Q I h;refine GX PySem.F.slot_dict_getitem.lookup hs (bS (l b s σ H _ I h) λu e ⟨x,f,k,m,n⟩=>bS (hi b e σ f _ k n) λw z ⟨y,p,d,q,a,v,ex,g,r⟩=>?_);subst ex;obtain rfl:u=ZY a:=m;exact{yg d g,CA j d g q λB C t c=>⟨v,p,t,c,r⟩}
theorem eQ(j:X.A.units+1<wbf)(l:PE X o td)(hi:PE X i ty)(p:PE X value tv)(hs:wbD value (some (.Subscript o i pos')) pos.line X.env=pure false) :
 PS X (.Assign [.Subscript o i pos'] value pos) (Jp td ty tv):=by
 refine{?_};intro b s σ H D I h;refine wpAny_Assign_Subscript (bS (p b s σ H _ I h) λr c ⟨v,d,e,f,k⟩=>bS (l b c σ d _ e k) λu m ⟨x,n,q,t,w⟩=>bS (hi b m σ n _ q w) λJ L ⟨y,M,z,B,a,C,ex,g,E⟩=>?_) hs;subst ex;obtain rfl:u=ZY a:=t;exact CC j z g B f λN G=>⟨σ,C,G,E⟩
end
section
variable{X:Cx}{tg:Expr}
theorem rS{l:Expr}{p:TE}(hl:PE X l p):PI X tg l (MK p):=by
 refine{?_};intro a s σ H R I h;refine bS (hl a s σ H _ I h) λv g ⟨x,D,m,t,j⟩=>?_;obtain⟨d,f,e,q⟩:=j;subst e;cases t
 have key:∀{i:Hp} {o:Obj},Inv X a σ i g->i d=some (.frz o (.dK f))->R (He d o f) i->wpAny (model X.prog X.w) X.A (pyIter (.ref d)) (MT X a σ tg R) X.xe g:=λ{i o} c hd u=>by
  obtain⟨E,lo,y,n,G,z,B,j,J,r,L⟩:=lZ c.bc (.inr ⟨o,hd⟩);obtain⟨C,_⟩:=c.bc d _ hd;rw[C]at j;cases j;obtain⟨M,rel,k⟩:=zU c hd r;refine wpAny_pyIter_dict lo k ?_;refine{g.heap.objs.size,[g.heap.objs.size],_,_,i,rfl,c.kept (t':=g.toks) λb o e=>ZQ _ e,Cy d _ o f z B r,{_,wa9 _ rfl,rfl,by rw[rel.length];rfl},λb N=>?_,u};have e:b=g.heap.objs.size:=by grind
  subst e;exact c.zT (ZS _) (c.bc.fresh (ZS _))
 rcases q with⟨hd,q⟩ |⟨o,hd,q⟩
 .obtain⟨o,O,c⟩:=m.freeze hd;exact key c a6 (q o)
 .exact key m hd q
end
section
variable{prog:wad}{w:World}{A:Around}{R:wdF->Shared->Prop}{I:Addr}{fp wr:List Addr}{G:Array wcS->Array wcS->Prop}{n:Nat}{P:Nat->Value->Prop}{St:Nat->Shared->Prop}
theorem yq(l:WalksS prog w A.in1 I fp wr G n P St)(S:Addr)(p:S∉fp)
 (val:Nat->Str) (r:∀i v,P i v->∃t,v=.str (val i) t) (j:n+1<wdj) :
 ∀(k i:Nat) (s:Shared),n-i=k->i<=n->St i s ->
  s.heap.SetOf (wbm prog w) S (λg=>(cB val i).any (· == g)) (cB val i).length ->
  (∀s',Moved (S::wr) G s s'->s'.heap.SetOf (wbm prog w) S (λg=>(cB val n).any (· == g)) (cB val n).length->R (.ok (.ret .none)) s') ->
  codeAny (model prog w) A (.builtin "set.update.loop" {[.ref S,.ref I],[]}) R s:=by
 have f:S∉wr:=λh=>p (l.sub _ h);have a:∀b∈wr,b∈S::wr:=λb j=>ZW _ j;intro k
 induction k with
 |zero=>
  intro i s hk hi c B C;have D:i=n:=by lia
  subst D;refine wbg wdl ?_;rw[wb7 wc5 _];show wpAny _ A.in1 (pyNext (.ref I) >>= _) _ _ s;refine ZN (l.done s _ _ c λs' m=>?_);show wpAny _ A.in1 (ret wbb) _ _ s'
  exact waa (C s' (m.mono a) (by
   obtain⟨o,E,H,t,J,rest⟩:=B
   exact{o,E,H,t,m.heap S _ f J,rest}))
 |succ k Q=>
  intro i s hk hi c B C;have q:i<n:=by lia
  refine wbg wdl ?_;rw[wb7 wc5 _];show wpAny _ A.in1 (pyNext (.ref I) >>= _) _ _ s;refine ZN (l.item i s _ _ q c λv s' T u m=>?_);obtain⟨t,rfl⟩:=r i v T
  have L:s'.heap.SetOf (wbm prog w) S (λg=>(cB val i).any (· == g)) (cB val i).length:=by
   obtain⟨o,E,H,U,J,rest⟩:=B;exact{o,E,H,U,m.heap S _ f J,rest}
  show wpAny _ A.in1 (holding [wfa (val i) t] (setAdd S (.str (val i) t)) >>= _) _ _ s';refine ZN (wb0 ?_);unfold setAdd;refine wb0 ?_;refine ZN ((wbm prog w).pyHash (k:=val i) (Jk _ _ _ _) ?_);have d:(cB val i).length+1<wdj:=by have:=vv val i;lia
  refine wpAny_setAddHashed_of (knd:=wbm prog w) (s:={s' with toks:=s'.toks+1}) (Jk _ _ _ _) rfl L d λV x M=>?_
  have N:V.SetOf (wbm prog w) S (λg=>(cB val (i+1)).any (· == g)) (cB val (i+1)).length:=
   SetOf_congr M (λg=>by rw[i7,Cj]) (by rw[i7,wN])
  refine waa {wbI wc5 _,Q (i+1) _ (by lia) q (l.frame _ s' _ _ u (wc2 _) λb j o e=>?_) N λO y z=>?_}
  .rw[x.2 b (λh:b=S=>p (by rw[<-h];exact j))];exact e
  .refine C O (Moved.trans l.gtrans ((m.mono a).then_heap (wc2 _) λb o j e=>?_) y) z;rw[x.2 b (λh:b=S=>j (by rw[h];exact ZZ))];exact e
theorem sU{X:Cx}(hl:PE X l g)(r:∀{σ H} {Q p:VK},(∀x j,Q x j->p x j)->g σ H Q->g σ H p:=by intro _ _ _ _ h q;obtain⟨v,e,q⟩:=q;exact{v,e,h _ _ q}):PI X t l (K8 g):=by
 refine{?_};intro c s σ H R I h;refine rS hl c s σ H R I (r (λx j q=>?_) h);obtain⟨d,f,e,a,b⟩:=q;exact{d,f,e,y7 a b}
end
section
variable{prog:wad}{w:World}{A:Around}{E:Value->Shared->Prop}{s:Shared}
set_option maxRecDepth 100000 in
set_option maxHeartbeats 3200000 in
theorem x9{Q:Value->Shared->Prop}
 (hh:A.handled=none) (p:x.cps.size+1<wdj)
 (h:∀(h':Heap) (tk:Nat),h'.SetOf (wbm prog w) s.heap.objs.size (λC=>(cB (eT x) x.cps.size).any (· == C)) (cB (eT x) x.cps.size).length ->
   (∀b o,b<s.heap.objs.size->s.heap.get? b=some o->h'.get? b=some o)->Q (.ref s.heap.objs.size) {s with heap:=h',toks:=tk}) :
 wpAny (model prog w) A (call (.type "set") [.str x I]) Q E s:=by
 obtain⟨c,tl,T⟩:=wbz.mro;have y:=wbz.made;have U:=wbz.sub;refine wcI (wfi ?_);show wpAny _ _ (callAny (.type "set") _) _ _ _;refine waa {wdm _ ∅,wbg wfU ?_};rw[wgu (wfH "set" [.str x I] []) rfl];have h1:=wbz.notType;have h2:=wbz.canCreate;have Z:=PySem.F.typeCall_set_1 (.str x I)
 repeat (any_goals (first |assumption |wp_step))
 refine wbG (code_set_new_1 (.str x I) (E:=E) (Q₁:=λobj f=>∃a:Bool,obj=.ref s.heap.objs.size/\f={s with heap:=s.heap.push {cls:=.type "set",dict:=none,data:=.set #[] 0 (.fresh 0 0 a)}}) λa=>⟨a,rfl,rfl⟩) λr f z=>?_
 cases r with
 |error e=>exact z
 |ok fl=>
  cases fl with
  |ret obj=>
   obtain⟨a,rfl,rfl⟩:=z;have V:(s.heap.push {cls:=.type "set",dict:=none,data:=.set #[] 0 (.fresh 0 0 a)}).get? s.heap.objs.size=some {cls:=.type "set",dict:=none,data:=.set #[] 0 (.fresh 0 0 a)}:=wa9 _ rfl;have hT:whq {s with heap:=s.heap.push {cls:=.type "set",dict:=none,data:=.set #[] 0 (.fresh 0 0 a)}} (.ref s.heap.objs.size) "set":={_,V,rfl};have YF:=wbz.init.lookup;have YG:=wbz.init.bind (.ref s.heap.objs.size)
   repeat (any_goals (first |assumption |wp_step))
   refine wbG (wck (R:=wants (λr g=>r=.none/\∃h' tk,g={s with heap:=h',toks:=tk} /\
    h'.SetOf (wbm prog w) s.heap.objs.size (λC=>(cB (eT x) x.cps.size).any (· == C)) (cB (eT x) x.cps.size).length /\
    (∀b o,b<s.heap.objs.size->s.heap.get? b=some o->h'.get? b=some o)) E) wbz.init.plain PySem.F.entry_set_init (check_set_init_1 hT ?_)) λl g d=>?_
   .have X:=sub_str_set;have Y:=sub_str_frozenset;have zy:(wdY "str" == wdY "dict")=false:=⋯;unfold weh.«set.__init__» noKeywords whl;generalize B:pyIter=PI
    wp_walk
    subst B;refine wpAny_pyIter_str λo St hW D=>?_;refine ZN (wpAny_runValue ?_);have G:A.in1.in1.in1.handled=none:=by simp[hh]
    have H:s.heap.objs.size∉[(s.heap.push {cls:=.type "set",dict:=none,data:=.set #[] 0 (.fresh 0 0 a)}).objs.size]:=by
     rw[wbo];simp only[wao,wa4,wbA,or_false,not_or];exact wa8 (wbx _)
    have m:∀(i:Nat) (v:Value),SignAt x i v->∃t,v=.str (eT x i) t:=λi v hv=>by
     obtain⟨c,u,hc,e⟩:=hv;refine{u,?_};rw[e];unfold eT;rw[wcR,hc];rfl
    refine yq ((hW _ G).toS) s.heap.objs.size H (eT x) m p (x.cps.size-0) 0 _ (by lia) (wal _) D ?J ?hR
    case J=>
     have n:((s.heap.push {cls:=.type "set",dict:=none,data:=.set #[] 0 (.fresh 0 0 a)}).push o).get? s.heap.objs.size
      =some {cls:=.type "set",dict:=none,data:=.set #[] 0 (.fresh 0 0 a)}:=ZQ _ V
     exact SetOf_congr ((setObjOf_fresh (knd:=wbm prog w) a).setOf n (by unfold wdj;lia)) (λ_=>rfl) rfl
    case hR=>
     intro s' q j;obtain⟨h',g',d',L,M⟩:=s';have eg:g'=s.gens:=q.gens;have ed:d'=s.drawn:=q.drawn;have eo:M=s.os:=q.os;subst eg;subst ed;subst eo;show wpAny _ _ _ _ _ _;refine waa ?_;show wpAny _ _ (ret wbb) _ _ _;refine waa {rfl,h',L,rfl,j,λb o' p e=>?_};have N:b≠s.heap.objs.size:=wa8 p
     have O:b≠(s.heap.push {cls:=.type "set",dict:=none,data:=.set #[] 0 (.fresh 0 0 a)}).objs.size:=by
      rw[wbo];exact wa8 (wdA p)
     exact q.heap b o' (by simp only[wao,wa4,wbA,or_false,not_or];exact⟨N,O⟩) (ZQ _ (ZQ _ e))
   .cases l with
    |error e=>exact d
    |ok k=>
     cases k with
     |ret r=>
      obtain⟨rfl,h',tk,rfl,j,S⟩:=d
      repeat (any_goals (first |assumption |wp_step))
      exact h _ _ j S
     |_=>exact d.elim
  |_=>exact z.elim
end
section
variable{X:Cx}
theorem yr(hc:X.calm=true):dM X (.type "set") (λxs H Q=>∃z,xs=[.str z]/\z.cps.size+1<wdj/\∀p,H p=none->Q (.ref p) (upd H p (GY X.prog X.w p (cB (eT z) z.cps.size).length))):=by
 intro c s σ H xs n Q I r h;obtain⟨z,rfl,f,q⟩:=h;obtain⟨u,rfl,t,rfl⟩:=vals1 r;refine x9 (I.ok.hd hc) f λg i d kp=>?_;have a:∀b o,s.heap.get? b=some o->g.get? b=some o:=λb o e=>kp b o (ZX e) e;refine{.ref s.heap.objs.size,_,I.laid (t':=i) (o:=GY X.prog X.w s.heap.objs.size (cB (eT z) z.cps.size).length) a (ZS _) {{_,d},?_,?_},rfl,q _ (I.bc.fresh (ZS _))}
 .obtain⟨o,_,_,_,e,_⟩:=d;exact⟨o,e⟩
 .rintro v x ⟨S,o,j,l,m,e,rest⟩ k;exact{S,o,j,l,m,k o e,rest}
end
section
variable{P:wad}{w:World}{H:Hp}{h:Heap}{a C dx:Addr}{fs:List (Str×V)}
theorem rT(bc:jb P w H h)(e:H a=some (.ins C dx fs)):∃g,zB h a dx C g/\(∀f,j7 (fs.lookup f) (g f))/\wdf g (fs.map (·.1))/\fs.length<=1000/\H dx=some (.own a):=by
 obtain⟨d,z,ne,ob,g,n,r,q⟩:=(show bZ P w H h a (.ins C dx fs) from bc a _ e);exact{g,⟨ob,n,ne⟩,r,q,z,d}
end
section
variable{X:Cx}{pins:List (Addr×Obj)}{σ:St}{H:Hp}{s:Shared}{a C dx:Addr}{fs:List (Str×V)}{f:Str}{v:V}{A:Around}{E:Value->Shared->Prop}
theorem A1{Q:Value->Shared->Prop}(I:Inv X pins σ H s)(e:H a=some (.ins C dx fs))(c:zx X.K C)(n:bX X.K C f)(l:fs.lookup f=some v)
 (h:∀u s',Inv X pins σ H s'->RelV v u->Q u s'):wpAny (model X.prog X.w) A (getAttr (.ref a) f b) Q E s:=by
 obtain⟨g,O,r,_,_,_⟩:=rT I.bc e;obtain⟨u,i,d⟩:=j7.wH (v:=v) (o:=g f) (by grind);exact get_map I.gC O (c.get f) c.hd n i (Ce d) (h u _ (I.tok _) d)
theorem sV{Q:Value×List Value->Shared->Prop}(I:Inv X pins σ H s)(e:H a=some (.ins C dx fs))(c:zx X.K C)(k:Hg X.K C m g)(l:fs.lookup m=none)
 (h:Q (.ref g,[.ref a]) s):wpAny (model X.prog X.w) A (wdT (.ref a) m pl) Q E s:=by
 obtain⟨b,O,r,_,_,_⟩:=rT I.bc e;have hn:b m=none:=j7.none_of (by grind);exact EL I.gC O (c.get m) k.at_ k.fn hn h
theorem A2{Q:Unit->Shared->Prop}(I:Inv X pins σ H s)(e:H a=some (.ins C dx fs))(c:zx X.K C)(n:bX X.K C f)(hl:fs.length<1000)(l:RelV y u)
 (h:∀s',Inv X pins σ (upd H a (.ins C dx (cx f y fs))) s'->Q .unit s'):wpAny (model X.prog X.w) A (setAttr (.ref a) f u) Q E s:=by
 obtain⟨i,O,r,j,_,k⟩:=rT I.bc e;have m:(fs.map (·.1)).length<=sizeLine:=by rw[ZI,wbF];lia
 refine Hx I.gC O c.sa c.po n.Ms c.hd j m λp d sb=>h _ ?_;have hd:∃o,p.get? dx=some o:=let ⟨o,_,_,t,_⟩:=d.ns;⟨o,t⟩
 refine I.write (x:=a) (e:=dx) (by rw[e];exact wbc) (.inr k) (λb q v z=>(sb.2 b v).trans z) hd ?_;refine{by rw[ae O.ne];exact k,?_,O.ne,d.obj,_,d.ns,λg=>?_,λg B=>?_}
 .have:=pZ f y fs;lia
 .show j7 ((cx f y fs).lookup g) (if g=f then some u else i g);rw[aB]
  by_cases q:g=f
  .rw[if_pos q,if_pos q];exact l
  .rw[if_neg q,if_neg q];exact r g
 .by_cases q:g=f
  .rw[q];exact(pe f y fs).1
  .refine(pe f y fs).2 g (j g λz=>B ?_);show (if g=f then some u else i g)=none;rw[if_neg q];exact z
end
section
variable{X:Cx}{CX:DV}{k:Nat}{f C:Addr}{fd:wb3}{ps:List Str}{sp:Sp}{uD:List V}{ds:List Value}{E:XK}{m:Str}{pos apos:Pos}{e o:Expr}{es:List Expr}{ta:TE}{t:TA}
theorem HA(he:PE X o ta)(c:zx X.K C)(j:Hg X.K C m f)(F:aQ X.prog X.w X.K X.mg X.base CX k f fd ps sp)(T:cU k X.A)(U:Binds X.K fd ps ds)(hd:Vals uD ds)(hx:Passes CX X E)(ha:PA X (e::es) t)
 (g:starEach (e::es) X.env=(false,eval e X.env)::starEach es X.env:=by rfl) (hpl:(backTo pos (starEach es X.env)).any (·.1)=false:=by rfl)
 (ht:eval (.Call (.Attribute o m apos) (e::es) [] pos) X.env=(do
   let J <-eval o X.env
   standAt apos.atName
   let (f,first) <-holding [J] (wdT J m pl)
   callWith pos f first (backTo pos (starEach (e::es) X.env)) (backToKw pos (wcm [] X.env))):=by rfl) :
 PE X (.Call (.Attribute o m apos) (e::es) [] pos) (Bk C m sp uD E ta t):=by
 refine{?_};intro b s σ H Q I h;refine wdU (pl:=pl) (bS (he b s σ H _ I h) λu n ⟨x,p,d,v,a,B,fs,ex,y,l,q⟩=>?_) ht;subst ex;obtain rfl:u=ZY a:=v;refine sV d y c j l ?_;refine wc4 (first:=[.ref a]) (h₀:=X.base) I.ok.mod.Je j.kp (bS (ha pos b n σ p _ d q) λus D ⟨vs,G,i,r,z⟩=>{i.gC,?_}) g hpl;exact A0 (us:=.ref a::us) (vs:=.ref a::vs) F T U hd hx i (.cons rfl r) z
theorem EX(he:PE X o ta)(c:zx X.K C)(g:Hg X.K C m f)(F:aQ X.prog X.w X.K X.mg X.base CX k f fd ps sp)(r:cU k X.A)(J:Binds X.K fd ps ds)(hd:Vals uD ds)(T:Passes CX X E)
 (U:eval (.Call (.Attribute o m apos) [] [] pos) X.env=(do
   let j <-eval o X.env
   standAt apos.atName
   let (f,first) <-holding [j] (wdT j m pl)
   callWith pos f first (backTo pos (starEach [] X.env)) (backToKw pos (wcm [] X.env))):=by rfl) :
 PE X (.Call (.Attribute o m apos) [] [] pos) (Bk C m sp uD E ta wI):=by
 refine{?_};intro b s σ H Q I h;refine wdU (pl:=pl) (bS (he b s σ H _ I h) λu n ⟨x,p,d,e,a,t,fs,ex,i,l,q⟩=>?_) U;subst ex;obtain rfl:u=ZY a:=e;refine sV d i c g l ?_;exact PySem.W.callWith_K0 (first:=[.ref a]) d.gC g.kp (A0 (us:=[.ref a]) (vs:=[.ref a]) F r J hd T d (.cons rfl .nil) q)
end
section
variable{X:Cx}{e:Expr}{f:Str}{pos:Pos}{ta:TE}
theorem aC(he:PE X e ta)(g:wcd e f X.env (eval e X.env)=eval e X.env):PE X (.Attribute e f pos) (Mt X.K ta f):=by
 refine{?_};intro b s σ H Q I h;refine Hv g (bS (he b s σ H _ I h) λu p ⟨x,d,i,j,a,C,r,fs,v,ex,k,c,n,l,q⟩=>?_);subst ex;obtain rfl:u=ZY a:=j;exact A1 i k c n l λt w m o=>⟨v,d,m,o,q⟩
end
section
variable{P:wad}{w:World}{H:Hp}{h:Heap}{x C d t:Addr}
theorem lL{X:Cx}{K:ZK}{e:Expr}{f:Str}{pos:Pos}{g:TE}(j:X.K=K)(he:PE X e g)(l:wcd e f X.env (eval e X.env)=eval e X.env):PE X (.Attribute e f pos) (Mt K g f):=by
 subst j;exact aC he l
theorem Qg(e:h.get? x=some (rN C d t)):bZ P w H h x (XD x C d):={⟨t,e⟩,{_,e},λc f ⟨a,b⟩ k=>{a,k _ b}}
end
section
variable{X:Cx}{o value:Expr}{f:Str}{pos pos':Pos}{ta tv:TE}
theorem cX(ha:PE X o ta)(g:PE X value tv)(hs:wbD value (some (.Attribute o f pos')) pos.line X.env=pure false):PS X (.Assign [.Attribute o f pos'] value pos) (PU X.K ta tv f):=by
 refine{?_};intro b s σ H D I h;refine wcv (bS (g b s σ H _ I h) λu d ⟨y,e,i,j,q⟩=>bS (ha b d σ e _ i q) λk z m=>?_) hs;obtain⟨x,A,p,r,a,C,B,fs,ex,t,c,n,l,v⟩:=m;subst ex;obtain rfl:k=ZY a:=r;exact A2 p t c n l j λE w=>{σ,_,w,v}
end
section
variable{X:Cx}{x:Str}{p pos:Pos}{e:Expr}{es:List Expr}{t:TA}{T:String}{r:List V->Hp->VK->Prop}
theorem bg(hc:dM X (.type T) r)(j:Gl X x)(l:X.mg x=none)(C:wav x=some (.type T))(ha:PA X (e::es) t)(hn:x≠"__name__":=by decide)(g:(x==("__debug__":Str))=false:=by decide)
 (he:starEach (e::es) X.env=(false,eval e X.env)::starEach es X.env:=by rfl) (hpl:(backTo pos (starEach es X.env)).any (·.1)=false:=by rfl):PE X (.Call (.Name x p) (e::es) [] pos) (Ox r t):=by
 refine{?_};intro a s σ H Q I h;refine wb6 (gT I j l C ?_ hn g);exact wbE (bS (ha pos a s σ H _ I h) λb c ⟨d,f,i,k,m⟩=>hc a c σ f d b Q i k m) he hpl
end
section
variable{X:Cx}{pins:List (Addr×Obj)}{σ:St}{H:Hp}{s:Shared}{A:Around}{E Q:Value->Shared->Prop}{c:Value}{b:Bool}
theorem CD(I:Inv X pins σ H s)(g:RelV x u)(ty:fH X.K H x t)(e:whm X.K t c=some b)(h:∀tk,Q (.bool b) {s with toks:=tk}) :
 wpAny (model X.prog X.w) A (call (.builtin "isinstance") [u,c]) Q E s:=by
 cases ty with
 |non=>cases(show u=wbb from g);exact wbh PySem.W.kitx_none I.gC wbc e (λz=>nomatch z) h
 |bl y=>cases(show u=wfQ y from g);exact wbh PySem.W.kitx_bool I.gC wbc e (λz=>nomatch z) h
 |int i=>obtain⟨t,q⟩:=(show ∃t,u=wf9 i t from g);cases q;exact wbh PySem.W.kitx_int I.gC wbc e (λz=>nomatch z) h
 |str y=>obtain⟨t,q⟩:=(show ∃t,u=wfa y t from g);cases q;exact wbh PySem.W.kitx_str I.gC wbc e (λz=>nomatch z) h
 |flt y=>obtain⟨t,q⟩:=(show ∃t,u=wgP y t from g);cases q;exact wbh PySem.W.kitx_float I.gC wbc e (λz=>nomatch z) h
 |@lst a k d=>
  cases(show u=ZY a from g);obtain⟨_,_,n,_,f⟩:=(show bZ X.prog X.w H s.heap a (.lst k) from I.bc a _ d);exact wbh wgE I.gC {_,f,rfl} e (λz=>nomatch z) h
 |@frz a ob k d=>
  cases(show u=ZY a from g);obtain⟨_,_,_,n,_,f⟩:=(show bZ X.prog X.w H s.heap a (.frz ob (.lst k)) from I.bc a _ d);exact wbh wgE I.gC {_,f,rfl} e (λz=>nomatch z) h
 |@tup a k d=>
  cases(show u=ZY a from g);obtain⟨_,_,_,p⟩:=(show bZ X.prog X.w H s.heap a (.tup k) from I.bc a _ d);obtain⟨o,f,l,_⟩:=p;exact wbh PySem.W.kitx_tuple I.gC ⟨o,f,l⟩ e (λz=>nomatch z) h
 |@dK a j d=>
  cases(show u=ZY a from g);obtain⟨_,_,B,_,p⟩:=(show bZ X.prog X.w H s.heap a (.dK j) from I.bc a _ d);obtain⟨o,m,r,f,l,_⟩:=p;exact wbh wgF I.gC ⟨o,f,l.1⟩ e (λz=>nomatch z) h
 |@dT a j d=>
  cases(show u=ZY a from g);obtain⟨_,_,k,_,o,m,r,f,l,_⟩:=(show bZ X.prog X.w H s.heap a (.dT j) from I.bc a _ d);exact wbh wgF I.gC ⟨o,f,l.1⟩ e (λz=>nomatch z) h
 |@ins a C D fs d cl ha hn nC v=>
  cases(show u=ZY a from g);obtain⟨G,O,_⟩:=rT I.bc d;obtain⟨L,J,_⟩:=O.look;exact wbh (PySem.W.kitx_own (cl.get _) cl.hd ha hn nC v) I.gC J e (λz=>nomatch z) h
end
section
variable{X:Cx}
theorem bI:dM X (.builtin "isinstance") (λxs H Q=>∃x T t b,xs=[x,.ty T]/\fH X.K H x t/\whm X.K t (.type T)=some b/\Q (.bl b) H):=by
 intro a s σ H xs g Q I r h;obtain⟨x,T,t,b,rfl,ty,e,q⟩:=h;obtain⟨u,i,rfl,c,d⟩:=vals2 r;cases d;exact CD I c ty e λf=>{.bl b,H,I.tok f,rfl,q}
end
section
variable{P:wad}{w:World}{K:ZK}{mg:Str->Option Value}{base:Heap}{N:List Str}{qual:Str}{scope:wct}{f:Addr}{cd:Value}{A:Around}{outer:List Env}{s:Shared}{H:Hp}{E:XK}
theorem cy:Bq (sE (yc P w) P w K mg base N qual scope f cd A outer s H E) E:=by
 intro v σ l x e C y I F B;show wpAny (model P w) _ («leaving» _ (.ref e)) (λ_ d=>yc P w outer H s E (.ref e) d) (λD d=>yc P w outer H s E D d) x;unfold «leaving»;have g:∀b,x.heap.objs.size<=b->l b=none:=λb a=>I.bc.fresh a;refine ZN (y8 (lo:=s.heap.objs.size) (H:=l) (base:=base) (outer:=outer) I.ok.frames I.stack rfl I.sz g F λJ G p=>?_);have m:=I.rQ
 have h:∀b o,s.heap.get? b=some o->b∉pY outer->b∉(envOfC qual scope s.heap.objs.size f cd::outer).filterMap (·.frame):=λb o a hn j=>by
  rcases wao.mp (show b∈s.heap.objs.size::pY outer from j) with z |z
  .exact absurd (ZX a) (by rw[z];exact waW _)
  .exact hn z
 refine{e,C,y,l,rfl,I.os,I.bare,?_,I.bc.past p m,G,B};have u:=I.base;refine{λb o a n c i=>?_,λb o a n c i=>?_,λb o a n i=>u.free b o a n i,λb o a i=>?_,u.se,u.ry,u.sf}
 .exact p.keep b o (u.keep b o a n c i) (.inl (ZX a)) (h b o a c)
 .obtain⟨sl,k⟩:=u.slot b o a n c i;obtain⟨q,r⟩:=p.slot b _ k (show b∈s.heap.objs.size::pY outer from ZW _ c);exact⟨q,r⟩
 .obtain⟨t,k⟩:=u.there b o a i
  by_cases j:b∈(envOfC qual scope s.heap.objs.size f cd::outer).filterMap (·.frame)
  .obtain⟨sl,r⟩:=p.slot b t k j;exact{_,r}
  .exact{t,p.keep b t k (.inl (ZX a)) j}
end
end L2
open L2
namespace Bs
noncomputable def bD(r:Str)(n:Nat):Str:=wby r (some (n:Int)) none
noncomputable def EY(ps:List Str)(r:Str):Nat:=((wak (r.length+1)).find? λn=>decide (bD r n∈ps)).getD 0
noncomputable def lend(ps:List Str)(r:Str):Str:=bD r (EY ps r)
theorem nV(g:bD r n∈ps)(j:∀m,m<n->bD r m∉ps)(l:n<=r.length):EY ps r=n:=by
 unfold EY
 have e:(wak (r.length+1)).find? (λn=>decide (bD r n∈ps))=some n:=by
  grind [List.find?_range_eq_some]
 rw[e];rfl
theorem yt{P:Nat->Prop}:∀{ts:List Str},(∀t∈ts,∃c,t={#[c]}/\P c)->(ts.map (·.length)).sum=ts.length
 |[],_=>rfl
 |t::ts,h=>by
  obtain⟨c,rfl,_⟩:=h t (ZZ ..);rw[wab,wb5,yt λt a=>h t (ZW _ a),wan];show 1+ts.length=_
  lia
theorem sW{α β:Type}(f:α->List β)(b:Nat):∀(g:List α),(∀c∈g,(f c).length<=b)->(g.flatMap f).length<=g.length*b
 |[],_=>wal _
 |c::g,h=>by
  rw[wdD,ZP,wan,Nat.succ_mul];have:=sW f b g λd hd=>h d (ZW _ hd);have:=h c (ZZ ..)
  lia
noncomputable def aY(m:List (Str×Int)):List (Key×V):=m.map λp=>((wac p.1:Key),V.int p.2)
theorem iR(m:List (Str×Int)):(aY m).length=m.length:=ZI ..
noncomputable def qf:List (Str×Int)->Str->Option Int
 |[],_=>none
 |(j,u)::m,k=>if j=k then some u else qf m k
theorem dm(k:Str):∀m:List (Str×Int),cR (aY m) (wac k:Key)=(qf m k).map V.int
 |[]=>rfl
 |(j,u)::m=>by
  unfold qf
  by_cases h:j=k
  .rw[if_pos h,h];exact fg rfl
  .rw[if_neg h,<-dm k m];exact fh (λz=>h (wcL z))
theorem sX:∀{m:List (Str×Int)},k∉m.map (·.1)->qf m k=none
 |[],_=>rfl
 |(j,u)::m,h=>by
  unfold qf;rw[if_neg (λz=>h (by rw[z];exact ZZ ..))];exact sX λz=>h (ZW _ z)
noncomputable def km(q:Str×Str):List V:=[.str q.1,.str q.2]
noncomputable def nW(q:Str×Str):V×V:=(.str q.1,.str q.2)
theorem BA(g:List (Str×Str)):(g.map nW).map jG=g.map km:=by
 rw[ZV];rfl
structure dN(H:Hp)(l:Addr)(rs:List Addr)(qs:List (Str×Str)):Prop where
 l:H l=some (.lst (rs.map V.ref))
 t:bu H rs (qs.map km)
theorem dN.len{H:Hp}{l:Addr}{g:List Addr}{j:List (Str×Str)}(r:dN H l g j):g.length=j.length:=by rw[r.t.1,ZI]
theorem yu(ls:List Str)(g:List (Str×Str)):((g.map nW).filter λq=>nK q.2 (ls.map V.str)).map jG=(g.filter λq=>decide (q.2∈ls)).map km:=by
 induction g with
 |nil=>rfl
 |cons q g a=>
  have e:nK (nW q).2 (ls.map V.str)=decide (q.2∈ls):=iL q.2 ls;rw[wab]
  by_cases h:q.2∈ls
  .rw[waC (by rw[e];exact decide_eq_true h),waC (by exact decide_eq_true h),wab,wab,a];rfl
  .rw[waJ (by rw[e];simpa using h),waJ (by simpa using h),a]
def HB(m:List (Str×Int))(ls:List Str)(f:Str->Int):Prop:=∀p∈ls,qf m p=some (f p)
theorem sY(m:List (Str×Int)):sq (aY m)=true:=waq.mpr λa h=>by
 obtain⟨p,_,rfl⟩:=ZR.mp h;rfl
theorem pF(h:k∉m.map (·.1))(v:Int):putK (aY m) (wac k:Key) (.int v)=aY (m++[(k,v)]):=by
 rw[fi _ (by rw[dm,sX h];rfl)];unfold aY;rw[wa1];rfl
theorem vK{f:Str->Int}:∀{os:List Str},k∈os->qf (os.map λp=>(p,f p)) k=some (f k)
 |[],h=>nomatch h
 |j::os,h=>by
  show (if j=k then some (f j) else qf (os.map λp=>(p,f p)) k)=_
  by_cases e:j=k
  .rw[if_pos e,e]
  .rw[if_neg e];rcases wao.mp h with z |z
   .grind
   .exact vK z
theorem A3{α:Type}{a b:α->Int}:∀{l:List α},(∀x∈l,a x<=b x)->(l.map a).sum<=(l.map b).sum
 |[],_=>wem _
 |x::l,h=>by
  rw[wab,wab,wb5,wb5];exact Int.add_le_add (h x (ZZ ..)) (A3 λy c=>h y (ZW _ c))
theorem sZ{α:Type}{a:α->Int}{l:List α}(h:∀x∈l,0<=a x):0<=(l.map a).sum:=by
 have:=A3 (a:=λ_=>(0:Int)) (b:=a) h
 have e:∀l:List α,(l.map λ_=>(0:Int)).sum=0:=by
  intro l
  induction l with
  |nil=>rfl
  |cons x l c=>grind
 rw[e]at this;exact this
noncomputable def Qh:V->Bool
 |.int _=>true
 |_=>false
theorem t5{α β:Type}{f:α->Option β}:∀{l:List α},(∀a∈l,f a=none)->l.filterMap f=[]:=by intro l;induction l<;>grind [ZZ,ZW]
noncomputable def eA(q:Str×Nat):V×V:=(.str q.1,.int (q.2:Int))
noncomputable def qg(a:Addr):List (Str×V):=[("homes",.ref a)]
noncomputable def nX(a b:Addr):List (Str×V):=[("homes",.ref a),("weights",.ref b)]
noncomputable def A4(a b c:Addr):List (Str×V):=[("homes",.ref a),("weights",.ref b),("lines",.ref c)]
theorem Jv(a:Addr):cx "homes" (.ref a) []=qg a:=rfl
theorem EZ(a b:Addr):cx "weights" (.ref b) (qg a)=nX a b:=by
 show (if ("homes":Str)="weights" then(("homes":Str),V.ref b)::[] else(("homes":Str),V.ref a)::cx "weights" (.ref b) [])=_;rw[if_neg ∅];rfl
theorem BC(a b c:Addr):cx "lines" (.ref c) (nX a b)=A4 a b c:=by
 show (if ("homes":Str)="lines" then(("homes":Str),V.ref c)::[(("weights":Str),V.ref b)] else(("homes":Str),V.ref a)::(if ("weights":Str)="lines" then(("weights":Str),V.ref c)::[] else(("weights":Str),V.ref b)::cx "lines" (.ref c) []))=_;rw[if_neg ∅,if_neg ∅];rfl
theorem cz(a b c:Addr):(A4 a b c).lookup ("homes":Str)=some (.ref a):=by
 rw[<-BC,aB,if_neg ∅,<-EZ,aB,if_neg ∅,<-Jv,aB,if_pos rfl]
theorem bM(a b c:Addr):(A4 a b c).lookup ("weights":Str)=some (.ref b):=by
 rw[<-BC,aB,if_neg ∅,<-EZ,aB,if_pos rfl]
theorem bj(a b c:Addr):(A4 a b c).lookup ("lines":Str)=some (.ref c):=by
 rw[<-BC,aB,if_pos rfl]
noncomputable def au(ls:List Str)(f:Str->Int):List Str:=ls.filter λp=>decide (0<f p)
theorem qh:∀{hs:List Str} {j:Nat} (h:j<hs.length),hs.idxOf hs[j]<=j
 |[],j,h=>absurd h (wd9 _)
 |a::hs,0,h=>by
  show (a::hs).idxOf a<=0;rw[wfV];exact ZS 0
 |a::hs,j+1,h=>by
  have b:j<hs.length:=by simpa using h
  show (a::hs).idxOf hs[j]<=j+1;rw[whd];have:=qh b
  cases(a==hs[j]) with
  |true=>grind
  |false=>grind
theorem pG{hs:List Str}{k:Str}(h:k∈hs):hs[hs.idxOf k]?=some k/\∀j:Nat,j<hs.idxOf k->hs[j]?≠some k:=by grind [ZJ,ZU,qh]
noncomputable def eM(i:Int)(n:Nat):Bool:=decide (0<=i)&&decide (i<(n:Int))
noncomputable def b8(ws:List Int)(qs:List (Str×Nat)):Int:=(qs.map λq=>ws.getD q.2 0).sum
noncomputable def eG(ws:List Int)(many:Int)(qs:List (Str×Nat))(w:Int):Bool:=!qs.isEmpty&&(decide (1<=w)&&decide (many*w<=b8 ws qs))
noncomputable def aW{α:Type}(ns:List Int)(l:List α):List α:=bf (λi=>decide ((i:Int)∈ns)) 0 l
noncomputable def aV{α:Type}(ns:List Int)(l:List α):List α:=bf (λi=>!decide ((i:Int)∈ns)) 0 l
noncomputable def eB(d t:Nat)(l:List (Str×Nat)):List (Str×Nat):=l.flatMap λq=>if q.2=d then[q,(q.1,t)] else[q]
noncomputable def cK(ws:List Int)(lns:List (List (Str×Nat)))(many rA:Int)(ns:List Int)(w:Int):Bool:=
 eM rA lns.length&&(ns.all (λi=>eM i (lns.getD rA.toNat []).length)&&(eG ws many (aW ns (lns.getD rA.toNat [])) w&&eG ws many (aV ns (lns.getD rA.toNat [])) (ws.getD rA.toNat 0-w)))
noncomputable def cm(hs:List Str)(d:Nat):List Str:=hs++[hs.getD d ""]
noncomputable def bT(ws:List Int)(d:Nat)(w:Int):List Int:=(ws++[ws.getD d 0-w]).set d w
noncomputable def cE(lns:List (List (Str×Nat)))(d:Nat)(ns:List Int):List (List (Str×Nat)):=((lns++[aV ns (lns.getD d [])]).set d (aW ns (lns.getD d []))).map (eB d lns.length)
theorem pH(d t:Nat):∀l:List (Str×Nat),(eB d t l).length<=2*l.length
 |[]=>ZS _
 |q::l=>by
  have:=pH d t l;show ((if q.2=d then[q,(q.1,t)] else[q])++eB d t l).length<=2*(l.length+1);rw[ZP];split
  .grind
  .grind
theorem t6(d t:Nat)(l:List (Str×Nat))(q:Str×Nat):eB d t (l++[q])=eB d t l++(if q.2=d then[q,(q.1,t)] else[q]):=by simp_all [eB,wgb,congr,waL]
structure Jw(hs:List Str)(ws:List Int)(lns:List (List (Str×Nat))):Prop where
 w:ws.length=hs.length
 l:lns.length=hs.length
 e:∀l∈lns,∀q∈l,q.2<hs.length
 n:hs.length<=1000
 m:∀l∈lns,l.length<=5000
theorem nY(hi:i<ws.length)(g:i≠d):(bT ws d w).getD i 0=ws.getD i 0:=by grind [bT,wcj,wai]
theorem qi(hd:d<ws.length):(bT ws d w).getD d 0=w:=by
 unfold bT;rw[ZL,wcN (by rw[ZP];lia)];rfl
theorem qj(hd:d<ws.length):(bT ws d w).getD ws.length 0=ws.getD d 0-w:=by
 unfold bT;rw[ZL,wcj (by lia),waf (ZS _),wbn];rfl
theorem A5(ws:List Int)(d:Nat)(w:Int):(bT ws d w).length=ws.length+1:=by
 unfold bT;rw[wbS,ZP];rfl
theorem cn(ws:List Int)(q:Str×Nat)(g:List (Str×Nat)):b8 ws (q::g)=ws.getD q.2 0+b8 ws g:=rfl
theorem t7(ws:List Int)(ps g:List (Str×Nat)):b8 ws (ps++g)=b8 ws ps+b8 ws g:=by
 unfold b8;rw[wa1,whe]
theorem m3(hd:d<ws.length):∀g:List (Str×Nat),(∀q∈g,q.2<ws.length)->b8 (bT ws d w) (eB d ws.length g)=b8 ws g
 |[],_=>rfl
 |q::g,h=>by
  have c:=m3 (w:=w) hd g λq b=>h q (ZW _ b);have b:=h q (ZZ ..);have e:eB d ws.length (q::g)=(if q.2=d then[q,(q.1,ws.length)] else[q])++eB d ws.length g:=rfl;rw[e,t7,c,cn]
  by_cases a:q.2=d
  .rw[if_pos a,cn,cn,a,qi hd];have f:(bT ws d w).getD ((q.1,ws.length):Str×Nat).2 0=ws.getD d 0-w:=qj hd;rw[f];show w+(ws.getD d 0-w+0)+_=_
   lia
  .rw[if_neg a,cn,nY b a];show ws.getD q.2 0+0+_=_
   lia
theorem BD:∀(ws:List Int) (d:Nat) (w:Int),d<ws.length->(ws.set d w).sum=ws.sum-ws.getD d 0+w
 |[],_,_,h=>absurd h (wd9 _)
 |x::ws,0,w,_=>by
  show w+ws.sum=x+ws.sum-x+w
  lia
 |x::ws,d+1,w,h=>by
  have a:=BD ws d w (by simpa using h);show x+(ws.set d w).sum=x+ws.sum-ws.getD d 0+w;rw[a]
  lia
theorem A6(hd:d<ws.length):(bT ws d w).sum=ws.sum:=by grind [bT,BD,ZP,wai]
structure ib(many:Int)(hs:List Str)(ws:List Int)(lns:List (List (Str×Nat))):Prop where
 w:ws.length=hs.length
 l:lns.length=hs.length
 p:∀w∈ws,1<=w
 e:∀l∈lns,∀q∈l,q.2<hs.length
 b:∀(i:Nat) (l:List (Str×Nat)),lns[i]?=some l->many*ws.getD i 0<=b8 ws l
theorem A7(h:q∈eB d t l):q.2=t\/q∈l:=by grind [eB]
theorem t8(h:eG ws many g w=true):g≠[]/\1<=w/\many*w<=b8 ws g:=by simp_all [eG,waV,of_decide_eq_true]
noncomputable def pre(ls:List Int)(k:Nat):Int:=(ls.take k).sum
theorem Oz{a b:Prop}[Decidable a][Decidable b]{α:Type}{x y:α}(h:a↔b):(if a then x else y)=if b then x else y:=by simp_all [if_pos,if_neg]
noncomputable def gg(p:Str)(z:Str×Nat):List Str->List (List (Str×Nat))->Nat
 |h::hs,l::lns=>(if h=p then l.count z else 0)+gg p z hs lns
 |_,_=>0
theorem vL(p:Str)(z:Str×Nat)(h:Str)(l:List (Str×Nat)):∀(hs:List Str) (lns:List (List (Str×Nat))),hs.length=lns.length->gg p z (hs++[h]) (lns++[l])=gg p z hs lns+(if h=p then l.count z else 0)
 |[],[],_=>by
  show (if h=p then l.count z else 0)+0=0+_
  lia
 |[],_::_,e=>by cases e
 |_::_,[],e=>by cases e
 |x::hs,y::lns,e=>by
  show (if x=p then y.count z else 0)+gg p z (hs++[h]) (lns++[l])=_;rw[vL p z h l hs lns (by simpa using e)];show _=(if x=p then y.count z else 0)+gg p z hs lns+_
  lia
theorem yv(p:Str)(z:Str×Nat)(g:List (Str×Nat)):∀(hs:List Str) (lns:List (List (Str×Nat))) (d:Nat),hs.length=lns.length->d<lns.length ->
 gg p z hs (lns.set d g)+(if hs.getD d ""=p then(lns.getD d []).count z else 0)=gg p z hs lns+(if hs.getD d ""=p then g.count z else 0)
 |_,[],d,_,h=>absurd h (wd9 _)
 |[],_::_,_,e,_=>by cases e
 |x::hs,y::lns,0,_,_=>by
  show (if x=p then g.count z else 0)+gg p z hs lns+(if x=p then y.count z else 0)=(if x=p then y.count z else 0)+gg p z hs lns+(if x=p then g.count z else 0)
  lia
 |x::hs,y::lns,d+1,e,h=>by
  have a:=yv p z g hs lns d (by simpa using e) (by simpa using h);show (if x=p then y.count z else 0)+gg p z hs (lns.set d g)+(if hs.getD d ""=p then(lns.getD d []).count z else 0)=(if x=p then y.count z else 0)+gg p z hs lns+(if hs.getD d ""=p then g.count z else 0)
  lia
theorem yw(p:Str){f:List (Str×Nat)->List (Str×Nat)}:∀(hs:List Str) (lns:List (List (Str×Nat))),(∀l∈lns,(f l).count z=l.count z')->gg p z hs (lns.map f)=gg p z' hs lns
 |_,[],_=>by cases ‹List Str›<;>rfl
 |[],_::_,_=>rfl
 |x::hs,y::lns,h=>by
  show (if x=p then(f y).count z else 0)+gg p z hs (lns.map f)=(if x=p then y.count z' else 0)+gg p z' hs lns;rw[yw p hs lns λl hl=>h l (ZW _ hl),h y (ZZ ..)]
theorem cnt_cons(q z:Str×Nat)(l:List (Str×Nat)):(q::l).count z=l.count z+if q=z then 1 else 0:=by simp_all [wh9,if_pos,beq_self_eq_true,if_neg]
theorem mZ(f:Nat->Bool)(z:Str×Nat):∀(k:Nat) (l:List (Str×Nat)),(bf f k l).count z+(bf (λi=>!f i) k l).count z=l.count z
 |_,[]=>rfl
 |k,q::l=>by
  have a:=mZ f z (k+1) l;show (if f k then q::bf f (k+1) l else bf f (k+1) l).count z+(if !f k then q::bf (λi=>!f i) (k+1) l else bf (λi=>!f i) (k+1) l).count z=_;rw[cnt_cons]
  cases f k with
  |true=>
   grind
  |false=>
   grind
theorem qk(hd:d<t)(w:Str)(e:Nat):∀l:List (Str×Nat),(∀q∈l,q.2<t)->(eB d t l).count (w,e)=l.count (w,if e=t then d else e)
 |[],_=>rfl
 |q::l,h=>by
  have f:=qk hd w e l λq c=>h q (ZW _ c);have c:=h q (ZZ ..);have g:eB d t (q::l)=(if q.2=d then[q,(q.1,t)] else[q])++eB d t l:=rfl;rw[g,List.count_append,f,cnt_cons];obtain⟨a,b⟩:=q;have c:b<t:=c;show (if b=d then[(a,b),(a,t)] else[(a,b)]).count (w,e)+_=_
  by_cases i:b=d
  .grind
  .grind
def uO(B:Str->List (Str×Str))(hs:List Str)(lns:List (List (Str×Nat))):Prop:=
 ∀(p w:Str) (e:Nat),gg p (w,e) hs lns=if e<hs.length/\p∈hs/\(w,hs.getD e "")∈B p then 1 else 0
theorem iB{f:Str->Option (Str×Str)}(g:∀r x,f r=some x->x.1=r):∀L:List Str,((L.filterMap f).map (·.1)).Sublist L
 |[]=>.slnil
 |r::L=>by
  rw[waU]
  cases e:f r with
  |none=>exact(iB g L).cons _
  |some x=>
   show (x.1::(L.filterMap f).map (·.1)).Sublist _;rw[g r x e];exact(iB g L).cons₂ _
theorem xa:∀{l:List (Str×Str)},(l.map (·.1)).Nodup->l.Nodup:=by intro l;induction l<;>grind [wco,waZ]
theorem nZ{α:Type}(f:α->Int):∀l:List α,(∀x∈l,0<=f x)->(l.map f).sum=((l.filter λx=>decide (0<f x)).map f).sum:=by intro l;induction l<;>grind [ZW,ZZ,waC,decide_eq_true,waJ,decide_eq_false]
theorem vM{f:Str->Int}(h:∀p∈ls,0<=f p):((au ls f).map f).sum=(ls.map f).sum:=(nZ f ls h).symm
noncomputable def cu(ds:List Nat)(qs:List (Str×Nat)):List (Str×Nat):=qs.filter λq=>decide (q.2∈ds)
theorem F0(j:List Nat)(g:List (Str×Nat)):(cu j g).length<=g.length:=waT _ _
noncomputable def t9(lns:List (List (Str×Nat)))(many:Int)(ds:List Nat):List Nat:=ds.filter λd=>decide (many<=((cu ds (lns.getD d [])).length:Int))
def BE(lns:List (List (Str×Nat)))(many:Int)(S:List Nat):Prop:=∀d∈S,d<lns.length/\many<=((cu S (lns.getD d [])).length:Int)
theorem F1(e:t9 lns many ks≠ks):(t9 lns many ks).length<ks.length:=by
 have a:(t9 lns many ks).Sublist ks:=wcu;exact Nat.lt_of_le_of_ne a.length_le λz=>e (a.eq_of_length z)
theorem n6:∀g:List (Str×Nat),(∀q∈g,ws.getD q.2 0<=h)->b8 ws g<=(g.length:Int)*h
 |[],_=>by show (0:Int)<=(0:Nat)*h;simp
 |q::g,a=>by
  have c:=n6 g λp b=>a p (ZW _ b);have h0:=a q (ZZ ..);rw[cn,wan,wda,wfx];show _<=_+1*h
  lia
theorem iS{ws:List Int}{i:Nat}(h:i<ws.length):ws.getD i 0∈ws:=by
 grind
theorem vN(f:Nat->Bool)(ws:List Int):∀(k:Nat) (g:List (Str×Nat)),b8 ws (bf f k g)=(((wfv k g.length).filter f).map λi=>ws.getD (g.getD (i-k) ("",0)).2 0).sum
 |_,[]=>rfl
 |k,q::g=>by
  have a:=vN f ws (k+1) g
  have e:((wfv (k+1) g.length).filter f).map (λi=>ws.getD ((q::g).getD (i-k) ("",0)).2 0)=((wfv (k+1) g.length).filter f).map λi=>ws.getD (g.getD (i-(k+1)) ("",0)).2 0:=waK λi hi=>by
   have:=(wgG.mp (wa6.mp hi).1).1;rw[show i-k=(i-(k+1))+1 by lia];rfl
  show b8 ws (if f k then q::bf f (k+1) g else bf f (k+1) g)=_;rw[wan,wh0]
  cases b:f k with
  |true=>
   rw[if_pos rfl,waC b,wab,e,cn,a,wb5,wbn];rfl
  |false=>
   rw[if_neg ⋯,waJ (by grind),e,a]
theorem F4{a b:List Int}(h:a.Perm b):a.sum=b.sum:=by
 induction h with
 |nil=>rfl
 |cons x _ c=>grind
 |swap x y l=>grind
 |trans _ _ d e=>grind
theorem A8{a b:List Nat}(na:a.Nodup)(g:b.Nodup)(h:∀x,x∈a↔x∈b):a.Perm b:=by grind [whf]
theorem CF(ws:List Int)(ns:List Int)(g:List (Str×Nat)):b8 ws (aW ns g)+b8 ws (aV ns g)=b8 ws g:=by
 have gen:∀(f:Nat->Bool) (k:Nat) (l:List (Str×Nat)),b8 ws (bf f k l)+b8 ws (bf (λi=>!f i) k l)=b8 ws l:=by
  intro f k l
  induction l generalizing k with
  |nil=>rfl
  |cons q l a=>
   have a:=a (k+1);show b8 ws (if f k then q::bf f (k+1) l else bf f (k+1) l)+b8 ws (if !f k then q::bf (λi=>!f i) (k+1) l else bf (λi=>!f i) (k+1) l)=_;rw[cn]
   cases f k with
   |true=>
    rw[if_pos ⋯,if_neg ⋯,cn]
    lia
   |false=>
    rw[if_neg ⋯,if_pos ⋯,cn]
    lia
 exact gen _ 0 g
theorem n7{f:Nat->Int}:∀ns:List Nat,(∀n∈ns,f n<=h)->(ns.map f).sum<=(ns.length:Int)*h
 |[],_=>by show (0:Int)<=(0:Nat)*h;simp
 |n::ns,a=>by
  have c:=n7 ns λp b=>a p (ZW _ b);have h0:=a n (ZZ ..);rw[wab,wb5,wan,wda,wfx];show _<=_+1*h
  lia
theorem tf{f:Nat->Int}:∀ns:List Nat,(∀n∈ns,1<=f n)->ns≠[]->1<=(ns.map f).sum
 |[],_,h=>absurd rfl h
 |[n],a,_=>by
  have:=a n (ZZ ..);show 1<=f n+0
  lia
 |n::m::ns,a,_=>by
  have h0:=a n (ZZ ..);have c:=tf (m::ns) (λp b=>a p (ZW _ b)) (λz=>nomatch z);rw[wab,wb5]
  lia
noncomputable def nI(ds:List Nat):List Int:=ds.map λn:Nat=>(n:Int)
theorem KA{g:List Nat}{e:Nat}:(e:Int)∈nI g↔e∈g:=by grind [nI]
theorem F5(e:Nat)(g:List Nat):nK (.int (e:Int)) ((nI g).map V.int)=decide (e∈g):=by
 rw[su];exact decide_eq_decide.mpr KA
theorem cO(g:List Nat):(nI g).length=g.length:=ZI _
theorem tj{g:List Nat}{i n:Nat}(h:g[i]?=some n):((nI g).map V.int)[i]?=some (.int (n:Int)):=by
 unfold nI;rw[ZM,ZM,h];rfl
theorem vO(a b:List Nat):nI (a++b)=nI a++nI b:=wa1
noncomputable def cF(Ju:List Str)(f:Str->Int):Str->Int:=λp=>if p∈Ju then f p else 0
theorem tm{α:Type}{f g:α->Int}:∀l:List α,(∀x∈l,f x<=g x)->(l.map f).sum<=(l.map g).sum
 |[],_=>wem _
 |x::l,h=>by
  have:=h x (ZZ ..);have:=tm l λy a=>h y (ZW _ a);rw[wab,wab,wb5,wb5]
  lia
theorem tq{α:Type}{f:α->Int}{x:α}:∀l:List α,(∀x∈l,0<=f x)->x∈l->0<f x->0<(l.map f).sum
 |y::l,h,a,c=>by
  have h0:=h y (ZZ ..);have hn:=sZ λz b=>h z (ZW _ b);rw[wab,wb5];rcases wao.mp a with e |a
  .rw[<-e];lia
  .have:=tq l (λz b=>h z (ZW _ b)) a c
   lia
theorem vP:∀(a b:List Int),nG (a.map V.int) (b.map V.int)=decide (a=b)
 |[],[]=>rfl
 |[],_::_=>rfl
 |_::_,[]=>rfl
 |x::a,y::b=>by
  have d:=vP a b;show (k9 (.int x) (.int y)&&nG (a.map V.int) (b.map V.int))=_;rw[d]
  by_cases h:x=y
  .subst h
   by_cases c:a=b
   .subst c;have:k9 (.int x) (.int x)=true:=by simp[k9]
    rw[this,decide_eq_true rfl,decide_eq_true rfl];rfl
   .rw[decide_eq_false c,wdv,decide_eq_false λz=>c (wdJ z).2]
  .have:k9 (.int x) (.int y)=false:=by simp[k9,h]
   rw[this,wcp,decide_eq_false λz=>h (wdJ z).1]
theorem vQ{p:V->Bool}{f:Nat->Bool}(h:∀n:Nat,p (.int (n:Int))=f n):∀ks:List Nat,((nI ks).map V.int).filter p=(nI (ks.filter f)).map V.int:=by intro n;induction n<;>grind [nI,waC,waJ]
theorem xc(h:x∈(nI ks).map V.int):∃n∈ks,x=.int (n:Int):=by grind [nI]
theorem yx(n:Nat):((wak n).map λi=>V.int (i:Nat))=(nI (wak n)).map V.int:=by
 unfold nI;rw[ZV];rfl
noncomputable def dB(rs:List Nat):List (Key×V):=rs.map λn:Nat=>((waQ (n:Int):Key),V.bl true)
theorem A9(e:Nat):∀g:List Nat,cR (dB g) (waQ (e:Int):Key)=if e∈g then some (.bl true) else none
 |[]=>rfl
 |r::g=>by
  have a:=A9 e g
  by_cases h:r=e
  .subst h;rw[if_pos (ZZ ..)];exact fg (p:=((waQ (r:Int):Key),V.bl true)) (r:=dB g) rfl
  .have hn:¬(waQ (r:Int):Key)=waQ (e:Int):=λz=>h (by grind);rw[show dB (r::g)=((waQ (r:Int):Key),V.bl true)::dB g from rfl,fh hn,a]
   by_cases b:e∈g
   .grind
   .grind
theorem KB{e:Nat}{g:List Nat}(h:e∉g):putK (dB g) (waQ (e:Int):Key) (.bl true)=dB (g++[e]):=by
 rw[fi _ (by rw[A9,if_neg h])];unfold dB;rw[wa1];rfl
theorem HC(g:List Nat):((dB g).map λj=>kV j.1)=(nI g).map V.int:=by
 unfold dB nI;rw[ZV,ZV];rfl
theorem HD(h:g≠[]):∃(z:Nat) (ys:List Nat),g=ys++[z]/\((nI g).map V.int)[((nI g).map V.int).length-1]?=some (.int (z:Int))/\((nI g).map V.int).dropLast=(nI ys).map V.int:=by
 refine{g.getLast h,g.dropLast,(wcQ h).symm,?_,?_}
 .have e:nI g=nI g.dropLast++[((g.getLast h:Nat):Int)]:=by
   conv=>lhs;rw[<-wcQ h]
   exact vO _ _
  rw[e,wa1,ZP];show (_++[V.int _])[_+1-1]?=_;rw[Nat.add_sub_cancel,waf (ZS _),wbn];rfl
 .unfold nI;rw[<-wgH,<-wgH]
noncomputable def dR(many:Int)(p:Nat->Int)(n:Nat):List (Key×V):=(wak n).map λi:Nat=>((waQ (p i%many):Key),V.int (i:Int))
theorem CG{κ:Type}[DecidableEq κ]{k:κ}{v:V}:∀{kvs:List (κ×V)},cR kvs k=some v->(k,v)∈kvs:=by intro kvs;induction kvs<;>grind [Ej,fg,ZZ,fh,ZW]
theorem F6(many:Int)(p:Nat->Int)(n:Nat)(r:Int):(cR (dR many p n) (waQ r:Key)=none/\∀i,i<n->p i%many≠r)\/∃i,i<n/\p i%many=r/\cR (dR many p n) (waQ r:Key)=some (.int (i:Int)):=by
 cases h:cR (dR many p n) (waQ r:Key) with
 |none=>
  refine .inl {rfl,λi hi e=>?_};refine EF h (ZR.mpr {((waQ (p i%many):Key),V.int (i:Int)),ZR.mpr {i,waM.mpr hi,rfl},?_});show (waQ (p i%many):Key)=_;rw[e]
 |some v=>
  obtain⟨i,hi,e⟩:=ZR.mp (CG h);have a:p i%many=r:=Sum.inl.inj (wc1 e).1;have b:V.int (i:Int)=v:=(wc1 e).2;exact .inr {i,waM.mp hi,a,by rw[b]}
theorem KC{p:Nat->Int}(h:cR (dR many p n) (waQ (p n%many):Key)=none):putK (dR many p n) (waQ (p n%many):Key) (.int (n:Int))=dR many p (n+1):=by
 rw[fi _ h];unfold dR;rw[wd8,wa1];rfl
theorem KD(many:Int)(p:Nat->Int)(n:Nat):(dR many p n).length=n:=by unfold dR;rw[ZI,wau]
theorem nodup_map_on{α β:Type}{f:α->β}:∀{l:List α},l.Nodup->(∀a∈l,∀b∈l,f a=f b->a=b)->(l.map f).Nodup:=by intro l;induction l<;>grind [wco,ZW,ZZ]
theorem BF(ns:List Nat)(j:Nat):(nI ns).take j=nI (ns.take j):=by unfold nI;rw[wd5]
theorem HE(ns:List Nat)(j:Nat):(nI ns).drop j=nI (ns.drop j):=by unfold nI;rw[wdK]
noncomputable def restOf(m i0:Nat):List Nat:=(wak m).filter λn=>decide (n≠i0)
noncomputable def numsOf(m i0 k:Nat):List Nat:=i0::(restOf m i0).take k
theorem Aa(m i0 k:Nat):(numsOf m i0 k).Nodup:=by
 unfold numsOf;refine waZ.mpr {λh=>?_,(weV.filter _).sublist (waB _ _)};have:=of_decide_eq_true (wa6.mp ((waB _ _).subset h)).2;exact this rfl
theorem xf(h:i0<m):∀n∈numsOf m i0 k,n<m:=λn hn=>by
 rcases wao.mp hn with rfl |hn
 .exact h
 .exact waM.mp (wa6.mp ((waB _ _).subset hn)).1
theorem KG(ws:List Int){g:List (Str×Nat)}{n:Nat}(h:n<g.length):(g.map λq=>ws.getD q.2 0).getD n 0=ws.getD (g.getD n ("",0)).2 0:=by
 rw[ZL,ZM,ZJ h,ZL (l:=g),ZJ h];rfl
theorem HF{R:Addr->Prop}:(∀y∈ys,∃q,y=.ref q/\R q)->∃ps:List Addr,ys=ps.map V.ref/\∀q∈ps,R q:=by
 induction ys with
 |nil=>exact λ_=>{[],rfl,λq h=>nomatch h}
 |cons y ys a=>
  intro h;obtain⟨q,rfl,c⟩:=h y (ZZ ..);obtain⟨ps,rfl,d⟩:=a λz b=>h z (ZW _ b)
  exact{q::ps,rfl,λr e=>by
   grind}
noncomputable abbrev rV:=Nat×List Nat×Int
set_option genInjectivity true in
inductive Runs(many:Int)(OA:List Str)(OB:List Int)(HG:List (List (Str×Nat))):List rV->List Str->List Int->List (List (Str×Nat))->Prop
 |nil:Runs many OA OB HG [] OA OB HG
 |snoc {l:List rV} {hs:List Str} {ws:List Int} {lns:List (List (Str×Nat))} {d:Nat} {ns:List Nat} {w:Int}:Runs many OA OB HG l hs ws lns->cK ws lns many (d:Int) (nI ns) w=true->ns.length<=1000->Runs many OA OB HG (l++[(d,ns,w)]) (cm hs d) (bT ws d w) (cE lns d (nI ns))
noncomputable def ql(a:Addr):List (Str×V):=[("weights",.ref a)]
noncomputable def o1(a b:Addr):List (Str×V):=[("weights",.ref a),("splits",.ref b)]
noncomputable def qm(a b c:Addr):List (Str×V):=[("weights",.ref a),("splits",.ref b),("kept",.ref c)]
noncomputable def rB(a b c d:Addr):List (Str×V):=[("weights",.ref a),("splits",.ref b),("kept",.ref c),("last",.ref d)]
theorem Jx(a:Addr):cx "weights" (.ref a) []=ql a:=rfl
theorem F9(a b:Addr):cx "splits" (.ref b) (ql a)=o1 a b:=by
 show (if ("weights":Str)="splits" then _ else(("weights":Str),V.ref a)::cx "splits" (.ref b) [])=_;rw[if_neg ∅];rfl
theorem BG(a b c:Addr):cx "kept" (.ref c) (o1 a b)=qm a b c:=by
 show (if ("weights":Str)="kept" then _ else(("weights":Str),V.ref a)::(if ("splits":Str)="kept" then _ else(("splits":Str),V.ref b)::cx "kept" (.ref c) []))=_;rw[if_neg ∅,if_neg ∅];rfl
theorem yy(a b c d:Addr):cx "last" (.ref d) (qm a b c)=rB a b c d:=by
 show (if ("weights":Str)="last" then _ else(("weights":Str),V.ref a)::(if ("splits":Str)="last" then _ else(("splits":Str),V.ref b)::(if ("kept":Str)="last" then _ else(("kept":Str),V.ref c)::cx "last" (.ref d) [])))=_;rw[if_neg ∅,if_neg ∅,if_neg ∅];rfl
theorem tu(a b c d:Addr):(rB a b c d).lookup ("last":Str)=some (.ref d):=by
 rw[<-yy,aB,if_pos rfl]
theorem ji(a b c d:Addr):(rB a b c d).lookup ("kept":Str)=some (.ref c):=by
 rw[<-yy,aB,if_neg ∅,<-BG,aB,if_pos rfl]
theorem gE(a b c d:Addr):(rB a b c d).lookup ("splits":Str)=some (.ref b):=by
 rw[<-yy,aB,if_neg ∅,<-BG,aB,if_neg ∅,<-F9,aB,if_pos rfl]
theorem g7(a b c d:Addr):(rB a b c d).lookup ("weights":Str)=some (.ref a):=by
 rw[<-yy,aB,if_neg ∅,<-BG,aB,if_neg ∅,<-F9,aB,if_neg ∅,<-Jx,aB,if_pos rfl]
theorem HH:fb (upd H b o) b=fb H b:=by
 funext c;unfold fb
 by_cases h:c=b
 .rw[if_pos h,if_pos h]
 .rw[if_neg h,if_neg h,ae h]
theorem BH(h:H b=some o):a7 (aG H g) (fb g b):=by grind [a7,fb,aX,fL,aG]
theorem Fa(s:a7 H g)(h:H b=none):a7 H (fb g b):=λc o e=>fL (s _ _ e) (af e h)
theorem tD:∀{ws:List Int},(∀w∈ws,1<=w)->(ws.length:Int)<=ws.sum
 |[],_=>wem _
 |w::ws,h=>by
  have h0:=h w (ZZ ..);have b:=tD (ws:=ws) λx a=>h x (ZW _ a);rw[wb5,wan]
  lia
noncomputable def dZ(ks:List Nat)(m:Nat)(qs:List (Str×Nat)):List (Str×Nat):=((cu ks qs).take m).map λq=>(q.1,ks.idxOf q.2)
noncomputable def dg(lns:List (List (Str×Nat)))(ks:List Nat)(m:Nat):List (List (Str×Nat)):=ks.map λd=>dZ ks m (lns.getD d [])
theorem vR{l:List (Str×Nat)}{t:Nat}(h:t<l.length):l[t]?=some (l.getD t ("",0)):=by
 grind
theorem tE:∀{hs:List Nat} {j:Nat} (h:j<hs.length),hs.idxOf hs[j]<=j
 |[],j,h=>absurd h (wd9 _)
 |a::hs,0,h=>by
  show (a::hs).idxOf a<=0;rw[wfV];exact ZS 0
 |a::hs,j+1,h=>by
  have b:j<hs.length:=by simpa using h
  show (a::hs).idxOf hs[j]<=j+1;rw[whd];have:=tE b
  cases(a==hs[j]) with
  |true=>grind
  |false=>grind
theorem eZ:∀{fs:List (Str×V)},n∉fs.map (·.1)->cx n v fs=fs++[(n,v)]
 |[],_=>rfl
 |(a,u)::fs,h=>by
  have b:¬a=n:=λz=>h (by grind);show (if a=n then _ else _)=_;rw[if_neg b,eZ (fs:=fs) λz=>h (by grind)];rfl
theorem dO:∀{fs:List (Str×V)},n∉fs.map (·.1)->(fs++(n,v)::g).lookup n=some v:=by grind [wfl,ZZ,ZW]
theorem kn:∀{fs:List (Str×V)},n∉fs.map (·.1)->fs.lookup n=none:=by grind [ZZ,ZW]
noncomputable def KH(p:Addr):List (Str×V):=[("scheme",.ref p)]
noncomputable def N8(p b:Addr):List (Str×V):=[("scheme",.ref p),("band",.ref b)]
noncomputable def KI(p b:Addr)(many:Int):List (Str×V):=[("scheme",.ref p),("band",.ref b),("many",.int many)]
noncomputable def Jy(p b:Addr)(many wide:Int):List (Str×V):=[("scheme",.ref p),("band",.ref b),("many",.int many),("wide",.int wide)]
noncomputable def Jz(p b:Addr)(many wide:Int)(h:Addr):List (Str×V):=[("scheme",.ref p),("band",.ref b),("many",.int many),("wide",.int wide),("homes",.ref h)]
noncomputable def Fb(p b:Addr)(many wide:Int)(h l:Addr):List (Str×V):=[("scheme",.ref p),("band",.ref b),("many",.int many),("wide",.int wide),("homes",.ref h),("lines",.ref l)]
noncomputable def M0(p b:Addr)(many wide:Int)(h l:Addr)(o:Str):List (Str×V):=[("scheme",.ref p),("band",.ref b),("many",.int many),("wide",.int wide),("homes",.ref h),("lines",.ref l),("opening",.str o)]
theorem yz:∀b:Nat,(wag b [V.int 0]).flatten=(nI (wag b 0)).map V.int
 |0=>rfl
 |b+1=>by
  rw[wbX,wbV,yz b,wbX];rfl
theorem Ab(h:∀c o,H c=some o->∃g,j c=some g):a7 (aG j l) (aG H l):=by grind [a7,aG]
theorem snoc_ind{α:Type}{P:List α->Prop}(h0:P [])(g:∀l a,P l->P (l++[a]))(l:List α):P l:=by
 have h:∀m:List α,P m.reverse:=λm=>by
  induction m with
  |nil=>exact h0
  |cons a m b=>rw[List.reverse_cons];exact g _ _ b
 rw[<-List.reverse_reverse l];exact h _
noncomputable def jl(hs:List Str)(ks:List Nat):List Str:=ks.map λd=>hs.getD d ""
theorem fQ{hs:List Str}{ks:List Nat}{i:Nat}(hi:i<ks.length):(jl hs ks).getD i ""=hs.getD ks[i] "":=by
 unfold jl;rw[ZL,ZM,ZJ hi];rfl
theorem getD_some{α:Type}{l:List α}{i:Nat}(x:α)(h:i<l.length):l[i]?=some (l.getD i x):=by
 rw[ZL,ZJ h];rfl
def yA(lns:List (List (Str×Nat))):Nat->List Str->Prop
 |_,[]=>True
 |d,w::ws=>∃e,(w,e)∈lns.getD d []/\yA lns e ws
noncomputable def rD(d t e:Nat):Nat:=if e=t then d else e
theorem CH{lns:List (List (Str×Nat))}{d i:Nat}{ns:List Int}(hd:d<lns.length)(hi:i<lns.length+1):(cE lns d ns).getD i []=eB d lns.length (if i=d then aW ns (lns.getD d []) else if i=lns.length then aV ns (lns.getD d []) else lns.getD i []):=by
 unfold cE;rw[ZL,ZM,List.getElem?_set]
 by_cases a:i=d
 .subst a;rw[if_pos rfl,if_pos rfl,if_pos (by rw[ZP];omega)];rfl
 .rw[if_neg (λz=>a z.symm),if_neg a]
  by_cases b:i=lns.length
  .subst b;rw[if_pos rfl,waf (ZS _),wbn];rfl
  .rw[if_neg b,wai (),getD_some [] (show i<lns.length by omega)];rfl
theorem CI{hs:List Str}{d i:Nat}(hi:i<hs.length+1):(cm hs d).getD i ""=hs.getD (rD d hs.length i) "":=by
 unfold cm rD;rw[ZL]
 by_cases z:i=hs.length
 .rw[if_pos z,z,waf (ZS _),wbn];rfl
 .rw[if_neg z,wai (by lia),getD_some ("":Str) (show i<hs.length by lia)];rfl
theorem JA{lns:List (List (Str×Nat))}{ks:List Nat}{m d:Nat}(hd:d<ks.length):(dg lns ks m).getD d []=dZ ks m (lns.getD (ks.getD d 0) []):=by
 unfold dg;rw[ZL,ZM,getD_some 0 hd];rfl
theorem pI(lns:List (List (Str×Nat)))(ks:List Nat)(m:Nat):(dg lns ks m).length=ks.length:=ZI ..
noncomputable def cat:List Str->Str
 |[]=>""
 |w::ws=>w++cat ws
section
variable(p b h l:Addr)(many wide:Int)(o:Str)
theorem N9:cx "scheme" (.ref p) []=KH p:=rfl
theorem Nb:cx "band" (.ref b) (KH p)=N8 p b:=eZ (by show ("band":Str)∉[("scheme":Str)];decide+kernel)
theorem Nc:cx "many" (.int many) (N8 p b)=KI p b many:=eZ (by show ("many":Str)∉[("scheme":Str),"band"];decide+kernel)
theorem Nf:cx "wide" (.int wide) (KI p b many)=Jy p b many wide:=eZ (by show ("wide":Str)∉[("scheme":Str),"band","many"];decide+kernel)
theorem Ng:cx "homes" (.ref h) (Jy p b many wide)=Jz p b many wide h:=eZ (by show ("homes":Str)∉[("scheme":Str),"band","many","wide"];decide+kernel)
theorem Nh:cx "lines" (.ref l) (Jz p b many wide h)=Fb p b many wide h l:=eZ (by show ("lines":Str)∉[("scheme":Str),"band","many","wide","homes"];decide+kernel)
theorem Ni:cx "opening" (.str o) (Fb p b many wide h l)=M0 p b many wide h l o:=eZ (by show ("opening":Str)∉[("scheme":Str),"band","many","wide","homes","lines"];decide+kernel)
theorem o4:(Jy p b many wide).lookup ("scheme":Str)=some (.ref p):=dO (fs:=[]) ∅
theorem Ac:(Fb p b many wide h l).lookup ("band":Str)=some (.ref b):=dO (fs:=KH p) (by show ("band":Str)∉[("scheme":Str)];decide+kernel)
theorem Ad:(Fb p b many wide h l).lookup ("wide":Str)=some (.int wide):=dO (fs:=KI p b many) (by show ("wide":Str)∉[("scheme":Str),"band","many"];decide+kernel)
theorem yB:(Fb p b many wide h l).lookup ("lines":Str)=some (.ref l):=dO (fs:=Jz p b many wide h) (by show ("lines":Str)∉[("scheme":Str),"band","many","wide","homes"];decide+kernel)
theorem xg:(Fb p b many wide h l).lookup ("behind":Str)=none:=kn (by show ("behind":Str)∉[("scheme":Str),"band","many","wide","homes","lines"];decide+kernel)
end
section
variable{g:Str}{ws ss ls:List Str}
noncomputable def jm(ws:List Str)(e:Str):Bool:=ws.any λw=>decide (e.length<w.length)&&wdw w e
noncomputable def bE(f:Str->Int)(ls:List Str):List (Str×Int):=ls.map λp=>(p,f p)
theorem pJ(f:Str->Int)(ls:List Str):(bE f ls).map (·.1)=ls:=by
 unfold bE;rw[ZV];exact List.map_id _
theorem gF(f:Str->Int)(ls:List Str):HB (bE f ls) ls f:=λp a=>vK a
theorem JB{f h:Str->Int}:Py (aY (bE f ls)) (aY (bE h ls))=true↔∀p∈ls,f p=h p:=by
 unfold Py;rw[iR,iR];have e:(bE f ls).length=(bE h ls).length:=by unfold bE;rw[ZI,ZI]
 rw[e,beq_self_eq_true,wcg];unfold hitsD;rw[waq];constructor
 .intro q p a;have:=q ((wac p:Key),.int (f p)) (ZR.mpr {(p,f p),ZR.mpr ⟨p,a,rfl⟩,rfl});have this:(match cR (aY (bE h ls)) (wac p:Key) with |some y=>k9 (.int (f p)) y |none=>false)=true:=this;rw[dm,gF h ls p a]at this;have this:k9 (.int (f p)) (.int (h p))=true:=this;unfold k9 at this;simpa using this
 .intro q d b;obtain⟨z,c,rfl⟩:=ZR.mp b;obtain⟨p,a,rfl⟩:=ZR.mp c;show (match cR (aY (bE h ls)) (wac p:Key) with |some y=>k9 (.int (f p)) y |none=>false)=true;rw[dm,gF h ls p a];show k9 (.int (f p)) (.int (h p))=true;rw[q p a];unfold k9;simp
end
theorem Ae(f:Str->Int)(ls:List Str):(aY (bE f ls)).map (·.2)=(ls.map f).map V.int:=by simp_all [aY,bE,ZV]
end Bs
open Bs
namespace Sx
theorem KJ:wav "all"=some (.builtin "all"):=∅
theorem HI:wav "any"=some (.builtin "any"):=∅
theorem HJ:wav "sorted"=some (.builtin "sorted"):=∅
theorem pK:wav "isinstance"=some (.builtin "isinstance"):=∅
theorem Af:wav "str"=some (.type "str"):=∅
theorem gA:wav "list"=some (.type "list"):=∅
theorem Qi:wav "set"=some (.type "set"):=∅
noncomputable def Nj(ls:List V):V->V:=λv=>.bl (nK v ls)
noncomputable def Ag(g:Str)(b d q:Addr):List (Str×V):=[("signs",.str g),("barred",.ref b),("moves",.ref d),("lasting",.ref q)]
noncomputable def OC(g:Str):List (Str×V):=[("signs",.str g)]
noncomputable def M1(g:Str)(b:Addr):List (Str×V):=[("signs",.str g),("barred",.ref b)]
noncomputable def KL(g:Str)(b d:Addr):List (Str×V):=[("signs",.str g),("barred",.ref b),("moves",.ref d)]
theorem KM(g:Str):cx "signs" (.str g) []=OC g:=rfl
theorem put2(g:Str)(b:Addr):cx "barred" (.ref b) (OC g)=M1 g b:=by
 show (if ("signs":Str)="barred" then(("signs":Str),V.ref b)::[] else(("signs":Str),V.str g)::cx "barred" (.ref b) [])=_;rw[if_neg ∅];rfl
theorem put3(g:Str)(b d:Addr):cx "moves" (.ref d) (M1 g b)=KL g b d:=by
 show (if ("signs":Str)="moves" then(("signs":Str),V.ref d)::[(("barred":Str),V.ref b)] else(("signs":Str),V.str g)::(if ("barred":Str)="moves" then(("barred":Str),V.ref d)::[] else(("barred":Str),V.ref b)::cx "moves" (.ref d) []))=_;rw[if_neg ∅,if_neg ∅];rfl
theorem CJ(g:Str)(b d q:Addr):cx "lasting" (.ref q) (KL g b d)=Ag g b d q:=by
 show (if ("signs":Str)="lasting" then(("signs":Str),V.ref q)::[(("barred":Str),V.ref b),(("moves":Str),V.ref d)] else(("signs":Str),V.str g)::(if ("barred":Str)="lasting" then(("barred":Str),V.ref q)::[(("moves":Str),V.ref d)] else(("barred":Str),V.ref b)::(if ("moves":Str)="lasting" then(("moves":Str),V.ref q)::[] else(("moves":Str),V.ref d)::cx "lasting" (.ref q) [])))=_;rw[if_neg ∅,if_neg ∅,if_neg ∅];rfl
theorem kq(g:Str)(b d:Addr):(KL g b d).lookup ("moves":Str)=some (.ref d):=by
 rw[<-put3,aB,if_pos rfl]
theorem n8(g:Str)(b d q:Addr):(Ag g b d q).lookup ("moves":Str)=some (.ref d):=by
 rw[<-CJ,aB,if_neg ∅];exact kq g b d
theorem vS(g:Str)(b d q:Addr):(Ag g b d q).lookup ("lasting":Str)=some (.ref q):=by
 rw[<-CJ,aB,if_pos rfl]
theorem GD(g:Str)(b d q:Addr){m:Str}(j:¬m="signs")(l:¬m="barred")(p:¬m="moves")(r:¬m="lasting"):(Ag g b d q).lookup m=none:=by
 rw[<-CJ,aB,if_neg r,<-put3,aB,if_neg p,<-put2,aB,if_neg l,<-KM,aB,if_neg j];rfl
structure Raw(K:ZK)(nm qual:Str)(st:Stmt)(f:Addr):Prop where
 ex:∃(oc:Value) (od:Option Addr) (kV doc pm:Value) (an:Option Addr) (gn ct:Value) (Ec:Array (Option Value)),
  K.lookup f=some {oc,od,.func (wbP nm qual (cT st) (bU st) (aD st) .none kV doc pm an gn ct),Ec}/\wdt K gn qual=true
 kp:wcn K (.ref f)=true
theorem Ah{K:ZK}{nm g:Str}{st:Stmt}{f:Addr}{t:Value}{C I:Option Addr}{p:Array (Option Value)}{kV r pm j ct:Value}(l:K.lookup f=some {t,C,.func (wbP nm g (cT st) (bU st) (aD st) .none kV r pm I j ct),p})
 (c:wdt K j g=true) (k:wcn K (.ref f)=true):Raw K nm g st f:={⟨t,C,kV,r,pm,I,j,ct,p,l,c⟩,k}
theorem Raw.fn(R:Raw K nm g st f)
 (h:∀(kV j pm:Value) (r:Option Addr) (p ct:Value) (us:List Value),us.length=ps.length->bindArgs (wbP nm g (cT st) (bU st) (aD st) .none kV j pm r p ct) {us,[]}=pure (ps.zip us)) :
 ∃fd,xX K nm g st f fd/\Binds K fd ps []:=by
 obtain⟨⟨b,d,kV,j,pm,r,p,ct,a,l,c⟩,k⟩:=R;have F:=Em (st:=st) l c k;exact{_,F,F.binds h}
theorem Raw.at_{mg:Str->Option Value}(X:K.In l)(G:l.Ns wax mg)(a:PySem.W.nsIn K wax nm=some (some (.ref f)))(R:Raw K nm nm st f)
 (h:∀(kV g pm:Value) (p:Option Addr) (j ct:Value) (us:List Value),us.length=ps.length->bindArgs (wbP nm nm (cT st) (bU st) (aD st) .none kV g pm p j ct) {us,[]}=pure (ps.zip us)) :
 ∃fd,FnAt K mg nm st ps f fd:=by
 obtain⟨fd,F,b⟩:=R.fn h;exact{fd,F,b,PySem.W.mg_of X G a}
theorem gi{ss:List Str}{i:Nat}{y:V}(h:(ss.map V.str)[i]?=some y):∃p,ss[i]?=some p/\y=.str p/\i<ss.length/\p∈ss/\ss.take (i+1)=ss.take i++[p]:=by
 rw[ZM]at h
 cases e:ss[i]? with
 |none=>rw[e]at h;cases h
 |some z=>
  rw[e]at h;exact{z,rfl,(ZU h).symm,(ZO.mp e).1,ZT e,by rw[waw,e];rfl}
inductive BI(K:ZK)(vs:List V)(H:Hp)(Q:VK)(eC:XK):Prop
 |mk (a:Addr) (ns:List Int) (_:vs=[.ref a]) (_:aK K H a (ns.map V.int)) (_:ns.length<=63) (_:∀H',Q (.bl true) H')
noncomputable def one(c:Nat):Str:={#[c]}
theorem dn(nx:g x=none)(j:g l=none):a7 g (upd (upd g l p) x o2):=λb o e=>by rw[ae (af e nx),ae (af e j)];exact e
theorem Nk:wav "int"=some (.type "int"):=∅
theorem KN:wav "tuple"=some (.type "tuple"):=∅
theorem Fc:wav "dict"=some (.type "dict"):=∅
theorem JC:wav "bool"=some (.type "bool"):=∅
theorem Ai:wav "sum"=some (.builtin "sum"):=∅
theorem HK:wav "min"=some (.builtin "min"):=∅
theorem BJ:wav "max"=some (.builtin "max"):=∅
theorem HL:wav "range"=some (.type "range"):=∅
theorem Aj(he:H e=none)(hd:(upd H e g) d=none):d≠e/\H d=none/\del (upd (upd (upd H e g) d o2) e o3) e=upd H d o2:=by grind [a6,ae,wK,zH,Bo]
theorem nc(g:Str)(b d q:Addr):(Ag g b d q).lookup ("signs":Str)=some (.str g):=by
 rw[<-CJ,aB,if_neg ∅,<-put3,aB,if_neg ∅,<-put2,aB,if_neg ∅,<-KM,aB,if_pos rfl]
theorem none_of(s:a7 H g)(h:g d=none):H d=none:=by
 cases q:H d with
 |none=>rfl
 |some o=>rw[s _ _ q]at h;cases h
theorem yC(g:Str)(b d q:Addr):(Ag g b d q).lookup ("barred":Str)=some (.ref b):=by
 rw[<-CJ,aB,if_neg ∅,<-put3,aB,if_neg ∅,<-put2,aB,if_pos rfl]
inductive Fd(vs:List V)(H:Hp)(Q:VK)(eC:XK):Prop
 |mk (i) (_:vs=[.int i]) (_:Q (.bl true) H)
structure eU(m:Nat)(many wide:Int):Prop where
 a:2<=many
 b:many<=8
 c:1<=wide
 d:wide<=6
 e:(m:Int)^wide.toNat<=64
inductive Nm(K:ZK)(vs:List V)(H:Hp)(Q:VK)(eC:XK):Prop
 |mk (a:Addr) (ns:List Int) (p:Int) (_:vs=[.ref a,.int p]) (_:aK K H a (ns.map V.int)) (_:∀(c:Int) (H':Hp),a7 H H'->Q (.int c) H')
inductive Fe(K:ZK)(vs:List V)(H:Hp)(Q:VK)(eC:XK):Prop
 |mk (l d es m f) (_:vs=[.ref l,.ref d]) (_:aK K H l (es.map V.str)) (_:es.length<=1000) (_:Rd H d (.dK (aY m))) (_:HB m es f) (_:∀H',a7 H H'->Q (.int ((es.map f).sum)) H')
inductive Ff(vs:List V)(H:Hp)(Q:VK)(eC:XK):Prop
 |mk (c:Int) (m:Nat) (_:vs=[.int c,.int (m:Int)]) (_:m<=1000) (_:∀(l:Addr) (xs:List Int) (H':Hp),a7 H H'->H l=none->H' l=some (.lst (xs.map V.int))->xs.length=m->Q (.ref l) H')
inductive HM(K:ZK)(vs:List V)(H:Hp)(Q:VK)(eC:XK):Prop
 |mk (a:Addr) (ns:List Int) (g:Str) (_:vs=[.ref a,.str g]) (_:aK K H a (ns.map V.int)) (_:2<=g.length) (_:g.length<=4) (_:∀(p:Addr) (many wide:Int) (H':Hp),a7 H H'->H p=none->H' p=some (.tup [.int many,.int wide])->eU g.length many wide->Q (.ref p) H')
inductive HN(K:ZK)(vs:List V)(H:Hp)(Q:VK)(eC:XK):Prop
 |mk (i a xs) (_:vs=[.int i,.ref a]) (_:aK K H a xs) (_:Q (.bl (eM i xs.length)) H)
structure Down(ws:List Int)(lns:List (List (Str×Nat)))(h:Int)(d i:Nat)(qs:List (Str×Nat))(q:Str×Nat):Prop where
 m:h∈ws
 t:∀w∈ws,w<=h
 l:lns[d]?=some qs
 s:qs[i]?=some q
 e:ws.getD d 0=h
 lt:ws.getD q.2 0<h
def JD(v:V):Prop:=∃i:Int,v=.int i/\i.natAbs.log2<1920
structure Fg(bw:List Str)(M:Int):Prop where
 u:∀w∈bw,(w.length:Int)<=M
 a:M=0/\bw=[]\/∃w∈bw,(w.length:Int)=M
structure iT(bw:List Str)(n:Nat)(b:Nat):Prop where
 le:b<=1000
 is:∃M:Int,Fg bw M/\(b:Int)=((if 0>M-1 then 0 else M-1)+(n:Int)-1)/(n:Int)
section
variable{K:ZK}
inductive KO(K:ZK)(vs:List V)(H:Hp)(Q:VK)(eC:XK):Prop
 |mk (r a ps) (_:vs=[.str r,.ref a]) (_:aK K H a (ps.map V.str)) (_:("":Str)∈ps) (_:r.length<=1000) (_:∀H',a7 H H'->Q (.str (lend ps r)) H')
inductive HP(K:ZK)(vs:List V)(H:Hp)(Q:VK)(eC:XK):Prop
 |mk (a b es ls) (_:vs=[.ref a,.ref b]) (_:aK K H a es) (_:aK K H b ls) (_:es.all d9=true) (_:ls.all d9=true) (_:es.length<=1000) (_:∀H',a7 H H'->Q (.bl (es.any λe=>nK e ls)) H')
inductive KP(K:ZK)(vs:List V)(H:Hp)(Q:VK)(eC:XK):Prop
 |mk (d mv es) (_:vs=[.ref d]) (_:H d=some (.dK (bY mv))) (_:mv.length<=1000) (_:(∀m∈mv,H m.2=some (.dK (es m.1)))) (_:(∀k,((es k).map (·.2)).all d9=true)) (_:(∀k,(es k).length<=1000)) (_:∀(l:Addr) (ls:List Str) (H':Hp),a7 H H'->H l=none->H' l=some (.lst (ls.map V.str))->Cm (mv.map (·.1)) es ls->Q (.ref l) H')
end
end Sx
open Sx
namespace Bs
open PySem.Spec PyProof.Rows
noncomputable abbrev ch(x:Str):List Nat:=x.cps.toList
theorem aJ(x:Str):(ch x).length=x.length:=by simp[ch,wcY]
theorem cY(h:ch x=ch y):x=y:=by
 obtain⟨a⟩:=x;obtain⟨b⟩:=y;have:a=b:=weW.mp h;rw[this]
theorem bx(a b:Str):ch (a++b)=ch a++ch b:=by grind [Str.cps_append,Array.toList_append]
theorem Fh(c:Nat):ch {#[c]}=[c]:=rfl
theorem tF(h:z.length=0):ch z=[]:=by grind [aJ]
theorem o6(x:Str)(l u:Option Int):wby x l u=StrLaws.sliceText x l u:=rfl
theorem yD(x:Str)(j:Nat):ch (wby x none (some (j:Int)))=(ch x).take j:=by
 by_cases h:j<=x.length
 .grind [o6,wfW,wcY]
 .have hn:wbl none (some (j:Int)) 1 x.length=wbl none (some ((x.length:Nat):Int)) 1 x.length:=by
   grind [wbl]
  have e:wby x none (some (j:Int))=wby x none (some ((x.length:Nat):Int)):=by
   grind [wby]
  rw[e,o6,wfW {by lia,by simp[wcY]}];have a:(ch x).length<=j:=by rw[aJ];lia
  rw[wb9 a];have b:x.cps.toList.take x.cps.size=x.cps.toList:=wb9 (by simp);simp[wcY,b]
theorem tG(x:Str)(i:Nat):ch (wby x (some (i:Int)) none)=(ch x).drop i:=by
 by_cases h:i<=x.length
 .rw[o6,wfy {by lia,by simp[wcY]at h ⊢;lia}];show ((x.cps.toList.drop (i:Int).toNat).take ((x.cps.toList.length:Int)-(i:Int)).toNat).toArray.toList=(ch x).drop i;rw[List.toList_toArray,wae,wb9];rw[waN]
  lia
 .have hn:wbl (some (i:Int)) none 1 x.length=wbl (some ((x.length:Nat):Int)) none 1 x.length:=by
   have a:¬((i:Int)<0):=by lia
   have b:¬(((x.length:Nat):Int)<0):=by lia
   have c:max (0:Int) (min (i:Int) (x.length:Int))=max 0 (min ((x.length:Nat):Int) (x.length:Int)):=by lia
   simp[wbl,a,b,c]
  have e:wby x (some (i:Int)) none=wby x (some ((x.length:Nat):Int)) none:=by
   unfold wby;rw[hn]
  rw[e,o6,wfy {by lia,by simp[wcY]}];have d:(ch x).length<=i:=by rw[aJ];lia
  rw[wdG d];simp[wcY]
theorem pL(g:z.length=0):∀ts:List Str,ch (wcZ z ts)=(ts.map ch).flatten:=by
 intro ts;unfold wcZ Builtin.Str.glued
 have b:z.cps=#[]:=by
  have:=tF g;exact weW.mp this
 have key:∀(l:List Str) (a:Array Nat),(l.foldl (λa p=>a++z.cps++p.cps) a).toList=a.toList++(l.map ch).flatten:=by
  intro l
  induction l with
  |nil=>grind
  |cons p l c=>
   grind
 cases ts with
 |nil=>rfl
 |cons p l=>
  show ((List.drop 1 (p::l)).foldl (λa q=>a++z.cps++q.cps) p.cps).toList=_;rw[List.drop_one,List.tail_cons,key];rfl
noncomputable def fk:Str:="abcdefghijklmnopqrstuvwxyz0123456789"
structure vT(x:Str):Prop where
 lo:2<=x.length
 hi:x.length<=4
 nd:(ch x).Nodup
 sub:∀c∈ch x,c∈ch fk
structure Qj(i:Nat)(HQ found:Str):Prop where
 pl:HQ.length+i=36
 fl:found.length=i
 pn:(ch HQ).Nodup
 fn:(ch found).Nodup
 ps:∀c∈ch HQ,c∈ch fk
 fs:∀c∈ch found,c∈ch fk
 ap:∀c∈ch found,c∉ch HQ
theorem yE:fk.length=36:=∅
structure uP(sg w:Str):Prop where
 lo:1<=w.length
 hi:w.length<=5
 sub:∀c∈ch w,c∈ch sg
theorem CK(g:z.length=0)(j:1<=ts.length)(p:ts.length<=5)(h:∀t∈ts,∃c,t={#[c]}/\c∈ch sg):uP sg (wcZ z ts):=by
 have e:=pL g ts
 have hl:∀(l:List Str),(∀t∈l,∃c,t={#[c]}/\c∈ch sg)->((l.map ch).flatten).length=l.length/\∀c∈(l.map ch).flatten,c∈ch sg:=by
  intro l
  induction l with
  |nil=>intro _;exact{rfl,λc h=>by cases h}
  |cons t l b=>
   intro a;obtain⟨c,rfl,hc⟩:=a t (ZZ ..);obtain⟨d,f⟩:=b λt h=>a t (ZW _ h);refine{by rw[wab,wbV,ZP,d,wan];exact Nat.add_comm 1 _,λk hk=>?_};rw[wab,wbV]at hk;rcases waj.mp hk with h |h
   .have:k=c:=by simpa [ch] using h
    subst this;exact hc
   .exact f k h
 obtain⟨l1,i⟩:=hl ts h;have m:(wcZ z ts).length=ts.length:=by rw[<-aJ,e,l1]
 exact{by lia,by lia,λc hc=>i c (e ▸ hc)}
noncomputable def KQ(y x:Str):Bool:=!(wf4 x y 0 x.length 1).isEmpty
theorem HR(x:Str)(c:Nat):KQ {#[c]} x=decide (c∈ch x):=StrLaws.found_one x c
noncomputable def bears(ws:List Str)(r:Str):Bool:=ws.any λw=>KQ w r
noncomputable def cH(w:Str)(n:Nat):Str:=wby w none (some (n:Int))
theorem CL(w:Str)(n:Nat):(cH w n).length<=w.length:=we6 _ _ _
noncomputable def xh(ks:List Str)(b:Str):List Str:=if b∈ks then ks else ks++[b]
noncomputable def pM(ws:List Str)(ks:List Str)(b:Str):List Str:=if bears ws b=true then ks else xh ks b
theorem Fi(ws ks:List Str)(b:Str):(pM ws ks b).length<=ks.length+1:=by
 unfold pM xh;split
 .lia
 .split
  .lia
  .simp
noncomputable def upTo(ws:List Str)(w:Str)(ks:List Str)(n:Nat):List Str:=((wak n).map λi=>cH w (1+i)).foldl (pM ws) ks
theorem fR(ws:List Str)(w:Str)(ks:List Str)(n:Nat):upTo ws w ks (n+1)=pM ws (upTo ws w ks n) (cH w (1+n)):=by
 unfold upTo;rw[wd8,wa1,weB];rfl
theorem tH(ws:List Str)(w:Str)(ks:List Str):∀n,(upTo ws w ks n).length<=ks.length+n
 |0=>ZS _
 |n+1=>by
  rw[fR];have:=tH ws w ks n;have:=Fi ws (upTo ws w ks n) (cH w (1+n))
  lia
noncomputable def addW(ws:List Str)(ks:List Str)(w:Str):List Str:=upTo ws w ks (w.length-1)
noncomputable def bJ(ws:List Str)(e:Str)(us:List Str):List Str:=us.foldl (addW ws) [e]
theorem Ak(ws:List Str)(e:Str)(us:List Str)(w:Str):bJ ws e (us++[w])=addW ws (bJ ws e us) w:=by
 unfold bJ;rw[weB];rfl
theorem lM(h:∀w∈us,w.length<=5):(bJ ws e us).length<=1+4*us.length:=by
 have key:∀(us ks:List Str),(∀w∈us,w.length<=5)->(us.foldl (addW ws) ks).length<=ks.length+4*us.length:=by
  intro us
  induction us with
  |nil=>grind
  |cons w us a=>
   grind [addW,ZW,tH]
 exact key us [e] h
theorem Al(h:ks.Nodup):(xh ks b).Nodup:=by
 unfold xh;split
 .exact h
 .rename_i d;refine weG.mpr {h,by simp,λa ha c hc=>?_};have:c=b:=by simpa using hc
  subst this;rintro rfl;exact d ha
theorem Am(h:ks.Nodup):(pM ws ks b).Nodup:=by
 unfold pM;split
 .exact h
 .exact Al h
theorem tI(h:ks.Nodup):∀n,(upTo ws w ks n).Nodup
 |0=>h
 |n+1=>by rw[fR];exact Am (tI h n)
theorem qo(us:List Str):(bJ ws e us).Nodup:=by
 have key:∀(us ks:List Str),ks.Nodup->(us.foldl (addW ws) ks).Nodup:=by
  intro us
  induction us with
  |nil=>intro ks h;exact h
  |cons w us a=>intro ks h;exact a _ (tI h _)
 exact key us [e] (by simp)
theorem Fj(h:k∈ks):k∈pM ws ks b:=by grind [pM,xh,waG]
theorem mem_upTo(h:k∈ks):∀n,k∈upTo ws w ks n
 |0=>h
 |n+1=>by rw[fR];exact Fj (mem_upTo h n)
theorem cb(us:List Str):e∈bJ ws e us:=by
 have key:∀(us ks:List Str),e∈ks->e∈us.foldl (addW ws) ks:=by
  intro us
  induction us with
  |nil=>intro ks h;exact h
  |cons w us a=>intro ks h;exact a _ (mem_upTo h _)
 exact key us [e] (by simp)
def GF(a b:Str):Prop:=¬(b.cps.toList<a.cps.toList)
theorem CM(g:GF a b)(j:GF b c):GF a c:=by grind [GF,List.not_lt,List.le_trans]
theorem jI:∀{l:List Str} {p:Str},risingS p l=true->(p::l).Pairwise GF
 |[],p,_=>List.pairwise_singleton _ _
 |x::r,p,h=>by
  have h:(!ltCps x.cps.toList p.cps.toList&&risingS x r)=true:=h;rw[waV]at h
  have b:GF p x:=by
   have:=h.1;rw[ltCps_eq]at this;simpa [GF] using this
  have c:=jI h.2;refine wgv.mpr {λa ha=>?_,c};rcases wao.mp ha with rfl |ha
  .exact b
  .exact CM b ((wgv.mp c).1 a ha)
theorem jJ(h:sortedS l=true):l.Pairwise GF:=by
 cases l with
 |nil=>exact .nil
 |cons x r=>exact jI h
theorem An(ha:sortedS a=true)(g:sortedS b=true)(j:a.Perm c)(l:b.Perm c):a=b:=by
 refine(j.trans l.symm).eq_of_pairwise (le:=GF) (λx y _ _ d e=>?_) (jJ ha) (jJ g);unfold GF at d e;rw[List.not_lt]at d e;exact cY (List.le_antisymm d e)
end Bs
namespace Bs
theorem gO(r:Str):bD r r.length="":=by
 refine cY ?_;show ch (wby r (some (r.length:Int)) none)=[];rw[tG];exact wdG (wdh (aJ r))
theorem pN(x y:Str)(i:Nat):wgI x y i=true↔((ch x).drop i).take y.length=ch y:=by
 unfold wgI;rw[beq_iff_eq];constructor
 .intro h;have:=congrArg Array.toList h;rw[wfX,weM,wbW]at this;exact this
 .intro h;refine weW.mp ?_;rw[wfX,weM,wbW];exact h
theorem HS(y x:Str):KQ y x=true↔ch y <:+: ch x:=by
 unfold KQ;rw[StrLaws.found_iff];constructor
 .grind [pN,wdN,wh1]
 .rintro⟨a,b,e⟩;refine{a.length,?_,(pN x y _).mpr ?_}
  .rw[<-aJ x,<-e,ZP,ZP,aJ];lia
  .rw[<-e,waX,List.drop_left,<-aJ y,whn]
theorem ng(x y:Str):wdw x y=true↔ch y <+: ch x:=by
 unfold wdw;rw[waV,decide_eq_true_iff,pN,wel];constructor
 .rintro⟨_,h⟩;rw[<-h];exact wdN _ _
 .rintro⟨b,e⟩;refine{?_,?_}
  .rw[<-aJ x,<-e,ZP,aJ];lia
  .rw[<-e,<-aJ y,whn]
noncomputable def wl(ws:List Str):List (List Nat):=ws.map ch
theorem jn(w:Str)(n:Nat):ch (cH w n)=(ch w).take n:=yD w n
theorem fm(w:Str)(n:Nat):ch (bD w n)=(ch w).drop n:=tG w n
theorem xi:k∈pM ws ks b↔k∈ks\/(k=b/\bears ws b=false):=by
 unfold pM xh
 by_cases a:bears ws b=true
 .grind
 .grind
theorem o7:∀n,k∈upTo ws w ks n↔k∈ks\/∃i,i<n/\k=cH w (1+i)/\bears ws k=false
 |0=>by
  show k∈ks↔_;simp
 |n+1=>by
  rw[fR,xi,o7 n];constructor
  .grind
  .grind
theorem iC(us:List Str):k∈bJ ws e us↔k=e\/∃w∈us,∃i,i<w.length-1/\k=cH w (1+i)/\bears ws k=false:=by
 have key:∀(us ks:List Str),k∈us.foldl (addW ws) ks↔k∈ks\/∃w∈us,∃i,i<w.length-1/\k=cH w (1+i)/\bears ws k=false:=by
  intro us
  induction us with
  |nil=>intro ks;simp
  |cons w us c=>
   intro ks;rw[wfd,c];unfold addW;rw[o7];constructor
   .rintro((h |⟨i,h⟩) |⟨b,a,h⟩)
    .exact .inl h
    .exact .inr {w,ZZ ..,i,h}
    .exact .inr {b,ZW _ a,h}
   .rintro(h |⟨b,a,h⟩)
    .exact .inl (.inl h)
    .rcases wao.mp a with rfl |a
     .exact .inl (.inr h)
     .exact .inr ⟨b,a,h⟩
 unfold bJ;rw[key];simp
noncomputable def Nn(ss:List Str)(l:List Nat):Bool:=decide (l∈ss.map ch)
theorem jo:Nn ss (ch k)=true↔k∈ss:=by
 unfold Nn;rw[decide_eq_true_iff];constructor
 .grind [cY]
 .grind
theorem take_snoc(h:(ch r)[i]?=some c):cH r (i+1)=cH r i++{#[c]}:=by grind [cY,bx,jn,waw]
theorem take_zero(r:Str):cH r 0="":=cY (by rw[jn];rfl)
theorem take_all(r:Str):cH r r.length=r:=cY (by rw[jn,<-aJ,wam])
theorem len_app(a b:Str):(a++b).length=a.length+b.length:=by grind [aJ,bx]
noncomputable def kr(st sp n:Nat):List Nat:=(wak n).map λk=>(ch fk).getD ((st+k*sp)%36) 0
noncomputable def HU(st sp:Nat):V->V:=λv=>match v with
 |.int k=>.str {#[(ch fk).getD ((st+k.toNat*sp)%36) 0]}
 |_=>.non
noncomputable def pO(g:Str)(ws ss:List Str)(q:Str×Str):List (Str×Str):=(ch g).filterMap λc=>if bears ws (q.2++{#[c]})=true then none else some (q.1++{#[c]},lend ss (q.2++{#[c]}))
noncomputable def fo(g:Str)(ws ss:List Str)(qs:List (Str×Str)):List (Str×Str):=qs.flatMap (pO g ws ss)
noncomputable def tJ(g:Str)(ws ss:List Str)(p:Str):Nat->List (Str×Str)
 |0=>[("",p)]
 |n+1=>fo g ws ss (tJ g ws ss p n)
noncomputable def aN(g:Str)(ws ss ls:List Str)(n:Nat)(p:Str):List (Str×Str):=(tJ g ws ss p n).filter λq=>decide (q.2∈ls)
theorem Ao(g:Str)(ws ss:List Str)(q:Str×Str):(pO g ws ss q).length<=g.length:=by
 unfold pO;have:=wdn (λc=>if bears ws (q.2++{#[c]})=true then none else some (q.1++({#[c]}:Str),lend ss (q.2++({#[c]}:Str)))) (ch g);rw[aJ]at this;exact this
theorem qp(g:Str)(ws ss:List Str)(j:List (Str×Str)):(fo g ws ss j).length<=j.length*g.length:=sW _ _ _ λq _=>Ao g ws ss q
theorem o8(g:Str)(ws ss:List Str)(p:Str):∀n,(tJ g ws ss p n).length<=g.length^n
 |0=>ZS 1
 |n+1=>wa0 (qp g ws ss _) (by rw[Nat.pow_succ];exact we7 _ (o8 g ws ss p n))
theorem cG(h:r∈aN g ws ss ls n p):r.2∈ls:=of_decide_eq_true (wa6.mp h).2
theorem dP(g:Str)(ws ss ls:List Str)(n:Nat)(p:Str):(aN g ws ss ls n p).length<=g.length^n:=wa0 (waT _ _) (o8 g ws ss p n)
noncomputable def dQ(g:Str)(ws ss ls:List Str)(n:Nat)(f:Str->Int)(p:Str):Int:=((aN g ws ss ls n p).map λq=>f q.2).sum
noncomputable def Fl(g:Str)(ws ss ls:List Str)(many:Int)(n:Nat)(f:Str->Int):Bool:=ls.all λp=>decide (many*f p<=dQ g ws ss ls n f p)
theorem o9(r:Str):r++("":Str)=r:=cY (by rw[bx,tF (z:="") rfl,waL])
theorem HV(r:Str):("":Str)++r=r:=cY (by rw[bx,tF (z:="") rfl,wh8])
theorem gP(a b c:Str):a++b++c=a++(b++c):=by grind [cY,bx,waX]
noncomputable def fS(g:Str)(ws ss ls:List Str)(n:Nat)(hs:List Str)(p:Str):List (Str×Nat):=((aN g ws ss ls n p).filter λq=>decide (q.2∈hs)).map λq=>(q.1,hs.idxOf q.2)
noncomputable def bz(g:Str)(ws ss ls:List Str)(n:Nat)(hs:List Str):List (List (Str×Nat)):=hs.map (fS g ws ss ls n hs)
theorem Ap(g:Str)(ws ss ls:List Str)(n:Nat)(hs:List Str)(p:Str):(fS g ws ss ls n hs p).length<=g.length^n:=by
 unfold fS;rw[ZI];exact wa0 (waT _ _) (dP g ws ss ls n p)
theorem Fm{f:Str->Int}(hn:∀p∈ls,0<=f p)(p:Str):b8 ((au ls f).map f) (fS g ws ss ls n (au ls f) p)=dQ g ws ss ls n f p:=by
 unfold dQ;rw[nZ (λq:Str×Str=>f q.2) (aN g ws ss ls n p) λq a=>hn _ (cG a)];unfold b8 fS;rw[ZV]
 have e:(aN g ws ss ls n p).filter (λq=>decide (q.2∈au ls f))=(aN g ws ss ls n p).filter λq=>decide (0<f q.2):=weH λq a=>by
  unfold au;exact decide_eq_decide.mpr (by rw[wa6];exact{λz=>of_decide_eq_true z.2,λz=>{cG a,decide_eq_true z}})
 rw[e];refine congrArg List.sum (waK λq a=>?_)
 have b:q.2∈au ls f:=by
  unfold au;have:=wa6.mp a;exact wa6.mpr {cG this.1,this.2}
 show ((au ls f).map f).getD ((au ls f).idxOf q.2) 0=f q.2;rw[ZL,ZM,(pG b).1];rfl
noncomputable def jq(wl:List Int)(nums:List Nat)(j:Nat):Int:=((nums.take j).map λn=>wl.getD n 0).sum
theorem CQ{wl:List Int}{g:List Nat}{j n:Nat}(h:g[j]?=some n):jq wl g (j+1)=jq wl g j+wl.getD n 0:=by
 unfold jq;rw[waw,h,wa1,whe];show _+(wl.getD n 0+0)=_
 lia
theorem Fn(wl:List Int)(g:List Nat)(h:i<=j):(((g.take j).drop i).map λn=>wl.getD n 0).sum=jq wl g j-jq wl g i:=by grind [jq,wdR,wfj]
theorem Fo{wl:List Int}{g:List Nat}{i j:Nat}{many:Int}(h:i<=j)(e:jq wl g i%many=jq wl g j%many):(((g.take j).drop i).map λn=>wl.getD n 0).sum%many=0:=by
 rw[Fn wl g h];exact Int.emod_eq_emod_iff_emod_sub_eq_zero.mp e.symm
structure dE(g:Str)(bw ss ls:List Str)(many:Int)(n:Nat)(f:Str->Int)(cp:List rV)(hs:List Str)(ws:List Int)(lns:List (List (Str×Nat))):Prop where
 rn:Runs many (au ls f) ((au ls f).map f) (bz g bw ss ls n (au ls f)) cp hs ws lns
 b:ib many hs ws lns
 cv:uO (aN g bw ss ls n) hs lns
 sm:ws.sum=(ls.map f).sum
 sl:cp.length+(au ls f).length=hs.length
 sb:∀p∈hs,p∈ls
theorem fq{a b:Str}{m n:Nat}(g:a.length<=m)(j:b.length<=n):(a++b).length<=m+n:=by
 rw[len_app];exact Nat.add_le_add g j
theorem du{wl:List (List (Str×Nat))}{d:Nat}(h:d<wl.length):wl[d]?=some (wl.getD d []):=by
 grind
def Fp(bw ss hk:List Str)(wl:List (List (Str×Nat))):Prop:=∀d,d<wl.length->∀q∈wl.getD d [],bears bw (hk.getD d ""++q.1)=false/\lend ss (hk.getD d ""++q.1)=hk.getD q.2 ""
def Np(ss hk:List Str)(wl:List (List (Str×Nat)))(p w:Str)(as:List Str)(i:Nat):Prop:=∃d e,d<wl.length/\hk.getD d ""=lend ss p/\(wl.getD d [])[i]?=some (w,e)/\yA wl e as
structure Wr where
 g:Str
 bw:List Str
 ss:List Str
 ls:List Str
 hk:List Str
 many:Int
 n:Nat
 b:Nat
 c:Nat
 wl:List (List (Str×Nat))
open Classical in
noncomputable def Qk(R:Wr)(bs:List Str)(w:Str)(us:List Str):V:=if bears R.bw (cat bs)=true then .non else if h:∃i,Np R.ss R.hk R.wl (cat bs) w us i then .int ((wh2 h:Nat):Int) else .non
noncomputable def KR(R:Wr)(all:List Str)(k:Nat):List Str:=(all.take (k+(R.b+1+R.c))).drop k
noncomputable def Vh(R:Wr)(all:List Str)(k:Nat):V:=Qk R ((KR R all k).take R.b) ((KR R all k).getD R.b "") ((KR R all k).drop (R.b+1))
section
variable{g:Str}{ws ss ls:List Str}
def CT(g:Str)(ws ss ls:List Str)(many:Int)(n:Nat)(f:Str->Int):Prop:=∀p∈ls,many*f p<=dQ g ws ss ls n f p
theorem CU{f:Str->Int}:Fl g ws ss ls many n f=true↔CT g ws ss ls many n f:=by
 unfold Fl;rw[waq];exact{λh p a=>of_decide_eq_true (h p a),λh p a=>decide_eq_true (h p a)}
noncomputable def ku(g:Str)(ws ss ls:List Str)(many:Int)(n:Nat)(f:Str->Int)(p:Str):Int:=if dQ g ws ss ls n f p/many<f p then dQ g ws ss ls n f p/many else f p
theorem Fq{n:Nat}{f:Str->Int}(h:∀p∈ls,0<=f p)(p:Str):0<=dQ g ws ss ls n f p:=sZ λq a=>h _ (cG a)
theorem Aq{f h:Str->Int}(e:∀p∈ls,f p<=h p)(p:Str):dQ g ws ss ls n f p<=dQ g ws ss ls n h p:=A3 λq a=>e _ (cG a)
theorem Fs(many:Int)(n:Nat)(f:Str->Int)(p:Str):ku g ws ss ls many n f p<=f p:=by
 unfold ku;split<;>lia
theorem Ft{f:Str->Int}(j:2<=many)(h:∀p∈ls,0<=f p):∀p∈ls,0<=ku g ws ss ls many n f p:=λp a=>by
 have b:=whg (Fq (g:=g) (ws:=ws) (ss:=ss) (n:=n) h p) (show 0<=many by lia);have c:=h p a;unfold ku;split<;>lia
theorem CV{f h:Str->Int}(l:2<=many)(j:CT g ws ss ls many n f)(e:∀p∈ls,f p<=h p):∀p∈ls,f p<=ku g ws ss ls many n h p:=λp a=>by
 have b:=j p a;have c:=Aq (g:=g) (ws:=ws) (ss:=ss) (n:=n) e p;have d:f p<=dQ g ws ss ls n h p/many:=(wfz ()).mpr (by grind);have i:=e p a;unfold ku;split<;>omega
theorem HW{f:Str->Int}(j:2<=many)(e:∀p∈ls,ku g ws ss ls many n f p=f p):CT g ws ss ls many n f:=λp a=>by
 have h:=e p a;unfold ku at h
 have b:f p<=dQ g ws ss ls n f p/many:=by
  grind
 have:=(wfz (show 0<many by lia)).mp b;rw[wgw]at this;exact this
theorem KS{f:Str->Int}(j:2<=many)(h0:∀p∈ls,0<=f p)(e:¬∀p∈ls,ku g ws ss ls many n f p=f p):(ls.map λp=>(ku g ws ss ls many n f p).toNat).sum<(ls.map λp=>(f p).toNat).sum:=by
 have b:∀p∈ls,ku g ws ss ls many n f p<=f p:=λp _=>Fs many n f p;have c:=Ft (g:=g) (ws:=ws) (ss:=ss) (n:=n) j h0;generalize ku g ws ss ls many n f=h at e b c
 have key:∀l:List Str,(∀p∈l,h p<=f p/\0<=h p)->(l.map λp=>(h p).toNat).sum<=(l.map λp=>(f p).toNat).sum/\((∃p∈l,h p≠f p)->(l.map λp=>(h p).toNat).sum<(l.map λp=>(f p).toNat).sum):=by
  intro l
  induction l with
  |nil=>intro _;exact{ZS _,λ⟨p,a,_⟩=>nomatch a}
  |cons x l i=>
   intro hl;obtain⟨m,k⟩:=i λp a=>hl p (ZW _ a);obtain⟨o,r⟩:=hl x (ZZ ..);rw[wab,wab,wb5,wb5];refine{by lia,λ⟨p,a,d⟩=>?_};rcases wao.mp a with z |z
   .rw[z]at d
    lia
   .have:=k ⟨p,z,d⟩
    lia
 refine(key ls λp a=>{b p a,c p a}).2 ?_;apply wdb;intro q;exact e λp a=>wdb λz=>q ⟨p,a,z⟩
noncomputable def KU(g:Str):Nat->List Str
 |0=>[""]
 |n+1=>(ch g).flatMap λc=>(KU g n).map λr=>({#[c]}:Str)++r
noncomputable def GH(g:Str):Nat->List Str
 |0=>[""]
 |n+1=>(GH g n).flatMap λr=>(ch g).map λc=>r++({#[c]}:Str)
theorem rW:∀n,GH g n=KU g n
 |0=>rfl
 |1=>by
  show ([""]:List Str).flatMap (λr=>(ch g).map λc=>r++({#[c]}:Str))=(ch g).flatMap λc=>([""]:List Str).map λr=>({#[c]}:Str)++r;rw[List.flatMap_singleton]
  have:∀a:List Nat,(a.map λc=>("":Str)++({#[c]}:Str))=a.flatMap λc=>([""]:List Str).map λr=>({#[c]}:Str)++r:=by
   intro a
   induction a with
   |nil=>rfl
   |cons c a b=>
    grind [HV,o9]
  exact this _
 |n+2=>by
  show (GH g (n+1)).flatMap (λr=>(ch g).map λc=>r++({#[c]}:Str))=(ch g).flatMap λc=>(KU g (n+1)).map λr=>({#[c]}:Str)++r;rw[rW (n+1)];show ((ch g).flatMap λc=>(KU g n).map λr=>({#[c]}:Str)++r).flatMap (λr=>(ch g).map λc=>r++({#[c]}:Str))=_;rw[List.flatMap_assoc];congr 1;funext c;rw[<-rW (n+1)];show _=((GH g n).flatMap λr=>(ch g).map λc=>r++({#[c]}:Str)).map λr=>({#[c]}:Str)++r;rw[rW n,List.map_flatMap,List.flatMap_map];congr 1;funext r;rw[ZV];refine waK λd _=>?_;exact gP _ _ _
end
section
variable{ws ss ls:List Str}{p:Str}
noncomputable def jr(ws ss:List Str)(p:Str)(r:Str):Option (Str×Str):=if bears ws (p++r)=true then none else some (r,lend ss (p++r))
noncomputable def HX(ws ss ls:List Str)(p:Str)(r:Str):Option (Str×Str):=if bears ws (p++r)=true then none else if lend ss (p++r)∈ls then some (r,lend ss (p++r)) else none
end
end Bs
namespace L2
open PySem.Spec PyProof.Rows
section
variable{X:Cx}
noncomputable def Nq(r:Str):V->V:=λv=>match v with
 |.str y=>.bl (Bs.KQ y r)
 |_=>.non
theorem yF(r:Str)(ws:List Str):(ws.map V.str).map (Nq r)=(ws.map λw=>Bs.KQ w r).map V.bl:=by
 rw[ZV,ZV];rfl
theorem CW(a b:Str):(eD a).map (Nq b)=((Bs.ch a).map λc=>decide (c∈Bs.ch b)).map V.bl:=by
 unfold eD;rw[ZV,ZV];refine waK λc _=>?_;show V.bl (Bs.KQ {#[c]} b)=V.bl (decide (c∈Bs.ch b));rw[Bs.HR]
theorem CY(ks:List Str)(b:Str):putK (jH ks) (wac b:Key) (.bl true)=jH (Bs.xh ks b):=by
 unfold putK Bs.xh
 by_cases h:b∈ks
 .have a:((jH ks).any λc=>decide (c.1=(wac b:Key)))=true:=by
   refine wbL.mpr {(wac b,.bl true),?_,decide_eq_true rfl};exact ZR.mpr ⟨b,h,rfl⟩
  rw[if_pos a,if_pos h];unfold jH;rw[ZV];refine waK λk _=>?_;show (if (wac k:Key)=wac b then((wac k:Key),V.bl true) else((wac k:Key),V.bl true))=_;split<;>rfl
 .have a:¬((jH ks).any λc=>decide (c.1=(wac b:Key)))=true:=by
   intro z;obtain⟨p,d,e⟩:=wbL.mp z;obtain⟨k,hk,rfl⟩:=ZR.mp d;have:(wac k:Key)=wac b:=of_decide_eq_true e;have:k=b:=wcL this;subst this;exact h hk
  rw[if_neg a,if_neg h];unfold jH;rw[wa1];rfl
theorem oa(h:(Bs.ch x).Nodup):∀i,i<=x.cps.size->cB (eT x) i=(wak i).map (eT x)
 |0,_=>rfl
 |i+1,hi=>by
  have c:=oa h i ();rw[i7,c,wd8,wa1];unfold q8;rw[if_neg]
  .rfl
  .intro z;obtain⟨y,d,e⟩:=wbL.mp z;obtain⟨j,f,rfl⟩:=ZR.mp d;have l:j<i:=waM.mp f;have a:eT x j=eT x i:=eq_of_beq e;unfold eT at a
   have b:x.cps.getD j 0=x.cps.getD i 0:=by
    injection a with m
    have:=congrArg Array.toList m;simpa using this
   have g:∀k,(hk:k<x.cps.size)->x.cps.getD k 0=(Bs.ch x)[k]'(by simpa using hk):=λk hk=>by
    simp[Array.getD,hk]
   rw[g j (),g i ()]at b;have:=(wbK h).mp b;omega
theorem yG(h:(Bs.ch x).Nodup):(cB (eT x) x.cps.size).length=x.length:=by
 rw[oa h _ (ZS _),ZI,wau];rfl
noncomputable def uF(ws ps:List Str)(p:Str)(c:Nat):V:=if bears ws (p++{#[c]})=true then .non else .str (lend ps (p++{#[c]}))
noncomputable def rowOf(g:Str)(ws ps:List Str)(p:Str):List (Key×V):=(ch g).map λc=>((wac ({#[c]}:Str):Key),uF ws ps p c)
theorem CZ(g:Str)(ws ps:List Str)(p:Str):(rowOf g ws ps p).length=g.length:=by unfold rowOf;rw[ZI,aJ]
theorem Ar(g:Str)(ws ps:List Str)(p:Str):((rowOf g ws ps p).map (·.2)).all d9=true:=by
 unfold rowOf;rw[ZV];refine waq.mpr λv a=>?_;obtain⟨c,_,rfl⟩:=ZR.mp a;show d9 (uF ws ps p c)=true;unfold uF;split<;>rfl
theorem HY(h:c∈ch g):cR (rowOf g ws ps p) (wac ({#[c]}:Str):Key)=some (uF ws ps p c):=
 El (uF ws ps p) (λc=>({#[c]}:Str)) (λa b e=>by
  grind) h
theorem ai{i:Nat}{x:Str}{e:Expr}{j:TE}{g:Pos}(he:PE X e j)(l:X.N.Nodup:=by assumption)(hi:X.N[i]?=some x:=by rfl)(p:Loc X.env.scope x:=by first |exact wdg rfl |exact Or.inr rfl)(hs:wbD e (some (.Name x g)) pos.line X.env=pure false:=by rfl)
 (r:X.fn x=true\/X.env.scope.names.lookup x=some .local:=by first |exact .inl rfl |exact .inr rfl |assumption):PS X (.Assign [.Name x g] e pos) (Hk j (eI i)):=
 Ez l hi p he hs r
theorem az{i:Nat}{x:Str}(g:X.N.Nodup:=by assumption)(hi:X.N[i]?=some x:=by rfl)(j:Loc X.env.scope x:=by first |exact wdg rfl |exact Or.inr rfl)(l:X.fn x=true\/X.env.scope.names.lookup x=some .local:=by first |exact .inl rfl |exact .inr rfl |assumption):PG X (.Name x pos) (eI i):=
 jf g hi j l
noncomputable def gu(g:Str)(ws ss:List Str)(p:Str):List Str:=(ch g).filterMap λc=>if bears ws (p++{#[c]})=true then none else some (lend ss (p++{#[c]}))
theorem yH(ws ss:List Str)(p:Str)(g:List Nat):((g.map (uF ws ss p)).filter zI)=(g.filterMap λc=>if bears ws (p++{#[c]})=true then none else some (lend ss (p++{#[c]}))).map V.str:=by
 induction g with
 |nil=>rfl
 |cons c g a=>
  grind [uF,lend,zI]
theorem As(g:Str)(ws ss:List Str)(p:Str):(gu g ws ss p).length<=g.length:=by
 unfold gu;have:=wdn (λc=>if bears ws (p++{#[c]})=true then none else some (lend ss (p++({#[c]}:Str)))) (ch g);rw[aJ]at this;exact this
noncomputable def gG(g:Str)(ws ss:List Str):Nat->Str->Int
 |0,_=>1
 |n+1,p=>((gu g ws ss p).map (gG g ws ss n)).sum
noncomputable abbrev KW(g:Str)(ws ss:List Str)(n:Nat):List (Key×V):=pj (λp=>.int (gG g ws ss n p)) ss
noncomputable def SR(ws ss:List Str)(p:Str):V->V:=λv=>match v with
 |.str z=>uF ws ss p (z.cps.getD 0 0)
 |_=>.non
theorem D0(g:Str)(ws ss:List Str)(p:Str):(eD g).map (SR ws ss p)=(ch g).map (uF ws ss p):=by
 unfold eD;rw[ZV];rfl
theorem D1{K:ZK}(J:X.K=K):Hh X "list.index" (λx xs H Q=>∃l g k i,x=.ref l/\xs=[.str k]/\aK K H l (wcM V.str g)/\g.length<=1000/\g[i]?=some k/\(∀j:Nat,j<i->g[j]?≠some k)/\Q (.int (i:Nat)) H):=by
 subst J;intro A s σ H x xs v Y Q I E G h;obtain⟨l,g,k,i,rfl,rfl,L,M,hi,f,q⟩:=h;cases E;obtain⟨u,rfl,N,rfl⟩:=G.one;obtain⟨a,B,pl,Z⟩:=I.list L;obtain⟨⟨cls,O,data,sl⟩,C,hc,n,hd⟩:=pl.isList;simp only at hc hd;subst hc hd;have c:=B.length;rw[ZI]at c;have R:i<g.length:=(ZO.mp hi).1
 have at_:∀m (b:m<a.length),∃t,a[m]=.str (g[m]'()) t:=λm b=>by
  obtain⟨w,D,S⟩:=B.get (i:=m) (x:=.str (g[m]'())) (by rw[ZM,ZJ ()];rfl);rw[ZJ b]at D;obtain⟨t,rfl⟩:=S;exact{t,ZU D}
 refine wd0 wcy {_,C,rfl} weX (weN _ _)
  (weY l a.toArray n O sl (.str k N) (λw=>match w with |.str z _=>z==k |_=>false) i (by simp;omega) () ?_ ?_) {C,λy T=>?_,?_}
 .obtain⟨t,e⟩:=at_ i ();have U:g[i]=k:=(ZO.mp hi).2;simp only[wd2];rw[e,U];simp
 .intro m b o;have p:m<a.length:=by simpa using b
  obtain⟨t,e⟩:=at_ m p;simp only[wd2];rw[e];have d:=f m o;rw[ZJ ()]at d;simp only[beq_eq_false_iff_ne,ne_eq];exact λz=>d (by rw[z])
 .have r:y∈a:=by simpa using T
  obtain⟨m,b,rfl⟩:=wbt r;obtain⟨t,e⟩:=at_ m b;rw[e];exact wfE _ _ _ _
 .exact{.int (i:Nat),H,I.tok _,{_,rfl},q}
theorem aO.len{K:ZK}{H:Hp}:∀{g:List gL} {xs:List V},aO K H g xs->xs.length=g.length
 |[],xs,h=>by
  have e:xs=[]:=h;subst e;rfl
 |d::g,_,h=>by
  obtain⟨v,a,rfl,_,hl⟩:=h;rw[wan,wan,aO.len hl]
theorem aO.at{K:ZK}{H:Hp}{g:List gL}{xs:List V}(h:aO K H g xs){i:Nat}{d:gL}(e:g[i]?=some d):∃x,xs[i]?=some x/\b7 K H d x:=by
 have hi:i<g.length:=(ZO.mp e).1;have a:xs[i]?=some (xs[i]'(by rw[h.len];exact hi)):=ZJ _;obtain⟨c,b,r⟩:=h.get i _ a;rw[e]at b;cases b;exact{_,a,r}
theorem ee(s:a7 g H):a7 (aG H j) (aG g j):=λa o e=>by
 unfold aG at e ⊢
 cases h:H a with
 |none=>rw[h]at e;rw[none_of s h];exact e
 |some z=>rw[h]at e;cases e
theorem g8(kp:∀b o,H b=some o->b≠x->g b=some o):a7 (fb H x) g:=λd o e=>by
 unfold fb at e
 by_cases hd:d=x
 .grind
 .grind
mutual
theorem b7.off{K:ZK}{H:Hp}{x C j:Addr}{fs:List (Str×V)}(g:H x=some (.ins C j fs)):∀(d:gL) (v:V),b7 K H d v->b7 K (fb H x) d v
 |.at _,_,h=>h
 |.tup c,_,h=>by
  obtain⟨a,b,e,hs,hl⟩:=h;exact{a,b,e,fL hs (λz=>by grind),aO.off g c b hl}
 |.lst c,_,h=>by
  obtain⟨a,b,e,hs,hl⟩:=h;exact{a,b,e,K6 g hs (λ_ z=>by cases z) (λ_ _ z=>by cases z),aO.off g c b hl}
theorem aO.off{K:ZK}{H:Hp}{x C l:Addr}{fs:List (Str×V)}(j:H x=some (.ins C l fs)):∀(g:List gL) (xs:List V),aO K H g xs->aO K (fb H x) g xs
 |[],_,h=>h
 |d::g,_,h=>by
  obtain⟨v,a,e,b,hl⟩:=h;exact{v,a,e,b7.off j d v b,aO.off j g a hl}
end
theorem vU{K:ZK}{a l:Addr}{xs:List V}{r:St}{I:TT}{J:TE}{H:Hp}{Q:Hp->Prop}(p:Nat->Bool)(C:aK K H a xs)(hl:H l=none)(hz:xs.length<=sizeLine)
 (U:∀(i:Nat) (x:V) j t,xs[i]?=some x->a7 H j->(∀g,a7 j g->t (p i) g)->I (some (.int (i:Nat))::some x::r) j t)
 (he:∀(i:Nat) (x:V) j t,xs[i]?=some x->a7 H j->(∀g,a7 j g->t x g)->J (some (.int (i:Nat))::some x::r) j t)
 (hd:∀g,a7 H g->g l=some (.lst (bf p 0 xs))->Q g):iA K (LX K a) l r I J H Q:=by
 refine{λi m u f=>m=xs.length-i/\i<=xs.length/\a7 H f/\f l=some (.lst u)/\u=bf p 0 (xs.take i),{xs.length,by simp,wal _,a7.upd hl,a6,rfl},?_};rintro i m u f ⟨rfl,hi,c,v,k⟩;refine{v,?_}
 by_cases d:i<xs.length
 .refine .inr {{xs,xs[i],c.seq C,ZJ d},?_,λx j y=>?_}
  .rw[k];refine waI (lK p 0 _) ?_;rw[wa5]
   lia
  .obtain⟨T,h,E,G,L,y⟩:=y;subst G L;have w:xs[i]?=some h:=y xs (c.seq C);have n:a7 f (upd f T (.tup [.int (i:Nat),h])):=a7.upd E;have z:xs.take (i+1)=xs.take i++[h]:=by rw[waw,w];rfl
   have q:(xs.take i).length=i:=by rw[wa5];lia
   refine{T,.int (i:Nat),h,rfl,fJ.of a6,U i h _ _ w (c.trans n) λM s=>?_};have A:=s _ _ (n _ _ v)
   cases B:p i with
   |false=>
    rw[if_neg wa2];exact{xs.length-(i+1),by lia,rfl,d,(c.trans n).trans s,A,by rw[z,mS,q,wgx,B,if_neg wa2,waL];exact k}
   |true=>
    rw[if_pos rfl];refine he i h _ _ w ((c.trans n).trans s) λN D=>{D _ _ A,xs.length-(i+1),by lia,rfl,d,λb o e=>?_,a6,?_}
    .rw[ae (af e hl)];exact D _ _ (s _ _ (n _ _ (c _ _ e)))
    .rw[z,mS,q,wgx,B,if_pos rfl,k]
 .have e:i=xs.length:=by lia
  subst e;rw[wam]at k;exact .inl {{xs,c.seq C,ZS _},hd f c (by rw[v,k])}
open Classical in
theorem JE(H:Hp)(q:Str×Nat):∃e:Value->Bool,∀c p,H c=some (.tup (pQ p))->e (.ref c)=decide (p=q):=
 {λy=>decide (∃c,y=.ref c/\H c=some (.tup (pQ q))),λc p h=>by
   rw[wcC,decide_eq_true_iff,decide_eq_true_iff];constructor
   .rintro⟨d,b,a⟩;cases b;rw[h]at a;exact Eg (HO.tup.inj (ZU a))
   .rintro rfl
    exact⟨c,rfl,h⟩}
end
section
variable{X:Cx}{x:Str}{pos:Pos}{e:Expr}{te:MB}{i:Nat}{pos':Pos}
theorem HZ(g:X.N.Nodup)(hi:X.N[i]?=some x)(j:Loc X.env.scope x)(he:SA X e te)(hs:wbD e (some (.Name x pos')) pos.line X.env=pure false:=by rfl)(l:X.fn x=true\/X.env.scope.names.lookup x=some .local:=by first |exact .inl rfl |exact .inr rfl |assumption) :
 SD X (.Assign [.Name x pos'] e pos) (Q9 te i):=by
 refine{?_};intro a s σ H D E I h;refine wdz (waF (he a s σ H _ (E σ) I h) (λv b ⟨y,c,d,f,k⟩=>?_) λn b z=>⟨σ,z⟩) hs;exact iP d g hi j f (λo m=>{_,c,m,k}) l
end
section
variable{P:wad}{w:World}{K:ZK}{mg:Str->Option Value}{base:Heap}{N:List Str}{qual:Str}{f:Addr}{A:Around}{outer:List Env}{s:Shared}{H:Hp}{E:XK}
theorem xX.Vi{x qual:Str}{st:Stmt}{f:Addr}{fd:wb3}{N ps:List Str}{k:Nat}{sp:Sp}(F:xX K x qual st f fd)(S:rM N ps (aD st))(len:∀vs H Q E,sp vs H Q E->vs.length=ps.length)
 (j:∀(g:Value) (A:Around) (outer:List Env) (s:Shared) (H:Hp) (vs:List V) (Q:VK) (E:XK),cU k (A.deeper (envOfC qual (aD st) s.heap.objs.size f g))->sp vs H Q E ->
   ∃t,uE (sE (yc P w) P w K mg base N qual (aD st) f g A outer s H E) (bU st) t/\t (Ends.fn Q) (start N vs) H):aQ P w K mg base (yc P w) (k+1) f fd ps sp:=by
 obtain⟨h,i,kV,c,pm,l,g,ct,d,rfl,lk,a⟩:=F.ex;exact Jt lk a S len λA outer s H vs Q E e b=>j g A outer s H vs Q E e b
end
section
variable{X:Cx}{k:Nat}{f C:Addr}{fd:wb3}{ps:List Str}{sp:Sp}{x:Str}{p pos:Pos}{e:Expr}{es:List Expr}{t:TA}
theorem Fu(M:Mk X.K C f)(F:aQ X.prog X.w X.K X.mg X.base (yc X.prog X.w) k f fd ps sp)(J:cU (k+1) X.A)(T:Gl X x)(U:X.mg x=some (.ref C))(hb:Binds X.K fd ps [])
 (ha:PA X.Jf (e::es) t) (l:(x==("__debug__":Str))=false:=by decide) (he:starEach (e::es) X.env=(false,eval e X.env)::starEach es X.env:=by rfl) (hpl:(backTo pos (starEach es X.env)).any (·.1)=false:=by rfl) :
 SA X (.Call (.Name x p) (e::es) [] pos) (Kw C sp t):=by
 refine{?_};intro d s σ H Q E I h;refine wb6 (fY I T U ?_ l);refine wc4 (h₀:=X.base) I.ok.mod.Je M.kp (Kr (bS (ha pos d s σ H _ (I.mL _) h) λc b o=>?_)) he hpl;obtain⟨y,N,g,r,q⟩:=o.fN;refine{g.gC,?_};have m:=q (b.heap.objs.size+1) b.heap.objs.size (g.bc.fresh (wc2 _)) (g.bc.fresh (ZS _)) (wa8 (wbx _));have j:=Inv.made (C:=C) g;have n:Vals (V.ref (b.heap.objs.size+1)::y) (ZY (b.heap.objs.size+1)::c):=.cons rfl r
 have hl:(ZY (b.heap.objs.size+1)::c++[]).length=ps.length:=by
  have e:=n.length;rw[F.len _ _ _ _ m]at e;rw[waL];exact e.symm
 have i:=hb _ (ZY (b.heap.objs.size+1)::c) j.gC hl;rw[waL]at i
 refine wcI (yp (f:=f) g.gC M.makes M.init (beq_iff_eq.mp M.fn) (wbG (F.run _ X.stack _ _ {ZY (b.heap.objs.size+1)::c,[]} (ZY (b.heap.objs.size+1)::c) _ _ E (J.make C c [])
  (j.Ho.make C c []) i n m) λr O a=>?_))
 cases r with
 |error e=>exact{_,_,j,a}
 |ok fl=>
  cases fl with
  |ret u=>
   obtain⟨v,z,B,D,G,L⟩:=j.after a;subst G;exact{D,{V.ref (b.heap.objs.size+1),z,B,rfl,L}}
  |next=>exact waz a
  |brk=>exact waz a
  |cont=>exact waz a
end
end L2
namespace Bs
noncomputable def gj(q:Str×Nat):gL:=.tup [.at (.str q.1),.at (.int (q.2:Int))]
noncomputable def bG(qs:List (Str×Nat)):gL:=.lst (qs.map gj)
noncomputable def fT(lns:List (List (Str×Nat))):gL:=.lst (lns.map bG)
noncomputable def jK(hs:List Str):gL:=.lst (hs.map λh=>.at (.str h))
noncomputable def ic(ws:List Int):gL:=.lst (ws.map λw=>.at (.int w))
theorem Fv(h:b7 K H (jK hs) v):∃a,v=.ref a/\aK K H a (hs.map V.str):=by
 obtain⟨a,b,rfl,f,hl⟩:=h;refine{a,rfl,?_}
 have:b=hs.map V.str:=by
  refine wgJ λi=>?_
  cases e:b[i]? with
  |none=>
   have:=hl.len;rw[ZI]at this;rw[wcb (by rw[ZI];have:=weO.mp e;lia)]
  |some x=>
   obtain⟨d,hd,r⟩:=hl.get i x e;rw[ZM]at hd ⊢
   cases c:hs[i]? with
   |none=>rw[c]at hd;cases hd
   |some z=>
    rw[c]at hd;cases hd;rw[r.1];rfl
 rw[<-this];exact .inl f
theorem eN(h:b7 K H (ic ws) v):∃a,v=.ref a/\aK K H a (ws.map V.int):=by
 obtain⟨a,b,rfl,f,hl⟩:=h;refine{a,rfl,?_}
 have:b=ws.map V.int:=by
  refine wgJ λi=>?_
  cases e:b[i]? with
  |none=>
   have:=hl.len;rw[ZI]at this;rw[wcb (by rw[ZI];have:=weO.mp e;lia)]
  |some x=>
   obtain⟨d,hd,r⟩:=hl.get i x e;rw[ZM]at hd ⊢
   cases c:ws[i]? with
   |none=>rw[c]at hd;cases hd
   |some z=>
    rw[c]at hd;cases hd;rw[r.1];rfl
 rw[<-this];exact .inl f
theorem og(h:H a=some (.lst (hs.map V.str))):b7 K H (jK hs) (.ref a):=
 {a,_,rfl,.inl h,aO.pA _ _ (by simp) λi d y hd b=>by
   rw[ZM]at hd b
   cases e:hs[i]? with
   |none=>rw[e]at hd;cases hd
   |some z=>rw[e]at hd b;cases hd;cases b;exact⟨rfl,rfl⟩}
theorem iU(h:H a=some (.lst (ws.map V.int))):b7 K H (ic ws) (.ref a):=
 {a,_,rfl,.inl h,aO.pA _ _ (by simp) λi d y hd b=>by
   rw[ZM]at hd b
   cases e:ws[i]? with
   |none=>rw[e]at hd;cases hd
   |some z=>rw[e]at hd b;cases hd;cases b;exact⟨rfl,rfl⟩}
theorem js(h:b7 K H (bG g) v):∃a xs,v=.ref a/\aK K H a xs/\xs.length=(g.map eA).length/\∀(i:Nat) (q:V×V),(g.map eA)[i]?=some q->∃r,xs[i]?=some (.ref r)/\H r=some (.tup [q.1,q.2]):=by
 obtain⟨a,xs,rfl,j,hl⟩:=h;refine{a,xs,rfl,.inl j,by rw[hl.len,ZI,ZI],λi q b=>?_};rw[ZM]at b
 cases e:g[i]? with
 |none=>rw[e]at b;cases b
 |some z=>
  rw[e]at b;cases b;obtain⟨x,k,r⟩:=hl.at (i:=i) (d:=gj z) (by grind);obtain⟨l,p,rfl,f,m⟩:=r;obtain⟨v1,s,rfl,⟨rfl,_⟩,n⟩:=m;obtain⟨t,c,rfl,⟨rfl,_⟩,o⟩:=n;rw[show c=[] from o]at f;exact⟨l,k,f⟩
theorem ky(g:H r=none)(q:Str×Nat):b7 K (aG H (upd H r (.tup [.str q.1,.int (q.2:Int)]))) (gj q) (.ref r):=
 {r,_,rfl,bR g a6,.str q.1,[.int (q.2:Int)],rfl,⟨rfl,rfl⟩,.int (q.2:Int),[],rfl,⟨rfl,rfl⟩,rfl}
structure bQ(K:ZK)(C:Addr)(H:Hp)(x:Addr)(hs:List Str)(ws:List Int)(lns:List (List (Str×Nat))):Prop where
 ex:∃dx a b c,H x=some (.ins C dx (A4 a b c))/\b7 K H (jK hs) (.ref a)/\b7 K H (ic ws) (.ref b)/\b7 K H (fT lns) (.ref c)
theorem yI(p:Nat->Bool)(h:aO K H (g.map gj) xs):aO K H ((bf p 0 g).map gj) (bf p 0 xs):=by
 rw[<-vy];exact h.pick p 0 _ _
theorem xj{α:Type}{K:ZK}{H:Hp}(f:α->V):∀(g:List α) (xs:List V),aO K H (g.map λz=>gL.at (f z)) xs->xs=g.map f
 |[],xs,h=>h
 |z::g,_,h=>by
  obtain⟨v,a,rfl,⟨rfl,_⟩,hl⟩:=h;rw[xj f g a hl];rfl
theorem oh(h:b7 K H (jK hs) (.ref a)):Rd H a (.lst (hs.map V.str)):=by
 obtain⟨d,b,e,c,hl⟩:=h;cases e;rwa[xj V.str hs b hl]at c
theorem Ia(h:b7 K H (ic ws) (.ref a)):Rd H a (.lst (ws.map V.int)):=by
 obtain⟨d,b,e,c,hl⟩:=h;cases e;rwa[xj V.int ws b hl]at c
theorem dA(h:b7 K H (bG j) v):∃a l,v=.ref a/\aK K H a (l.map V.ref)/\bu H l ((j.map eA).map jG):=by
 obtain⟨a,d,rfl,n,b,k⟩:=js h
 have ex:d=(d.map λv=>match v with |.ref r=>r |_=>0).map V.ref:=by
  rw[ZV];refine(wdo d).symm.trans (waK λv o=>?_);obtain⟨i,hi,rfl⟩:=wbt o;obtain⟨r,m,_⟩:=k i _ (ZJ (by rw[<-b];exact hi));rw[ZJ hi]at m;rw[ZU m];rfl
 refine{a,_,rfl,by rw[<-ex];exact n,by rw[ZI,ZI,b],λi r s f c=>?_};rw[ZM]at f c
 cases e:(j.map eA)[i]? with
 |none=>rw[e]at c;cases c
 |some q=>
  rw[e]at c;cases c;obtain⟨t,g,p⟩:=k i q e;rw[g]at f;cases f;exact p
theorem ib.split{many:Int}{hs:List Str}{ws:List Int}{lns:List (List (Str×Nat))}(S:ib many hs ws lns){d:Nat}{ns:List Int}{w:Int}(h:cK ws lns many (d:Int) ns w=true):ib many (cm hs d) (bT ws d w) (cE lns d ns)/\d<hs.length:=by
 unfold cK at h;simp only[waV]at h;obtain⟨n,A,v,x⟩:=h;rw[wae]at A v x;obtain⟨c1,E,B⟩:=t8 v;obtain⟨G,H,C⟩:=t8 x;have j:=S.w;have o:=S.l
 have hd:d<lns.length:=by
  unfold eM at n;rw[waV]at n;have:=of_decide_eq_true n.2
  lia
 have f:d<ws.length:=by lia
 have r:(cm hs d).length=hs.length+1:=by unfold cm;rw[ZP];rfl
 have a:lns.getD d []∈lns:=by
  rw[ZL,ZJ hd];exact wah hd
 have k:=S.e _ a
 have c:∀l∈(lns++[aV ns (lns.getD d [])]).set d (aW ns (lns.getD d [])),∀q∈l,q.2<hs.length:=λl hl=>by
  rcases wcl hl with z |z
  .rcases waj.mp z with z |z
   .exact S.e l z
   .rw[wa4.mp z];exact λq a=>k q (dk a)
  .rw[z];exact λq a=>k q (dk a)
 refine{{by rw[r,A5,j],?_,λz y=>?_,λl hl q a=>?_,λi l hl=>?_},by lia}
 .unfold cE;rw[r,ZI,wbS,ZP,o];rfl
 .unfold bT at y;rcases wcl y with q |q
  .rcases waj.mp q with q |q
   .exact S.p z q
   .rw[wa4.mp q];lia
  .rw[q];lia
 .rw[r];unfold cE at hl;obtain⟨m,s,rfl⟩:=ZR.mp hl;rcases A7 a with e |e
  .lia
  .have:=c m s q e
   lia
 .unfold cE at hl;rw[ZM]at hl
  cases e:((lns++[aV ns (lns.getD d [])]).set d (aW ns (lns.getD d [])))[i]? with
  |none=>rw[e]at hl;cases hl
  |some m=>
   rw[e]at hl;cases hl;have D:=c m (ZT e);rw[show lns.length=ws.length by lia,m3 f m (λq a=>by rw[j];exact D q a)]
   by_cases g:i=d
   .subst g;rw[wcN (by rw[ZP];lia)]at e;cases e;rw[qi f];exact B
   .rw[wcj (λz=>g z.symm)]at e
    by_cases t:i<lns.length
    .rw[wai t]at e;rw[nY (by lia) g];exact S.b i m e
    .have u:i=lns.length:=by
      have:=(ZO.mp e).1;rw[ZP]at this;simp at this
      lia
     subst u;rw[waf (ZS _),wbn]at e;cases e;rw[show lns.length=ws.length by lia,qj f];exact C
theorem jt:∀{hs:List Str} {lns:List (List (Str×Nat))} {i:Nat} {l:List (Str×Nat)},hs[i]?=some p->lns[i]?=some l->l.count z<=gg p z hs lns
 |y::hs,x::lns,0,l,a,b=>by
  cases a;cases b;show _<=(if p=p then x.count z else 0)+_;rw[if_pos rfl]
  lia
 |h::hs,x::lns,i+1,l,a,b=>by
  have:=jt (z:=z) (hs:=hs) (lns:=lns) (i:=i) (by simpa using a) (by simpa using b);show _<=_+gg p z hs lns
  lia
 |[],_,_,_,a,_=>by simp at a
 |_::_,[],_,_,_,b=>by simp at b
theorem uO.split{B:Str->List (Str×Str)}(h:uO B hs lns)(hl:lns.length=hs.length)(he:∀l∈lns,∀q∈l,q.2<hs.length)(hd:d<hs.length)(ns:List Int):uO B (cm hs d) (cE lns d ns):=by
 intro p w e
 have t:lns.getD d []∈lns:=by
  rw[ZL,ZJ (by lia)];exact wah _
 have k:∀l∈(lns++[aV ns (lns.getD d [])]).set d (aW ns (lns.getD d [])),∀q∈l,q.2<lns.length:=λl b=>by
  rw[hl];rcases wcl b with z |z
  .rcases waj.mp z with z |z
   .exact he l z
   .rw[wa4.mp z];exact λq c=>he _ t q (dk c)
  .rw[z];exact λq c=>he _ t q (dk c)
 have n:(hs++[hs.getD d ""]).getD d ""=hs.getD d "":=by
  rw[ZL,wai hd,<-ZL]
 have o:(lns++[aV ns (lns.getD d [])]).getD d []=lns.getD d []:=by
  rw[ZL,wai (by lia),<-ZL]
 unfold cm cE;rw[yw p (z':=(w,if e=lns.length then d else e)) _ _ λl b=>qk (by lia) w e l (k l b)];have r:=yv p (w,if e=lns.length then d else e) (aW ns (lns.getD d [])) (hs++[hs.getD d ""]) (lns++[aV ns (lns.getD d [])]) d (by rw[ZP,ZP];simp[hl]) (by rw[ZP];lia);rw[n,o,vL p _ _ _ hs lns hl.symm]at r;have u:=mZ (λi=>decide ((i:Int)∈ns)) (w,if e=lns.length then d else e) 0 (lns.getD d []);have y:(aW ns (lns.getD d [])).count (w,if e=lns.length then d else e)+(aV ns (lns.getD d [])).count (w,if e=lns.length then d else e)=(lns.getD d []).count (w,if e=lns.length then d else e):=u;have v:=h p w (if e=lns.length then d else e)
 have x:gg p (w,if e=lns.length then d else e) (hs++[hs.getD d ""]) ((lns++[aV ns (lns.getD d [])]).set d (aW ns (lns.getD d [])))=gg p (w,if e=lns.length then d else e) hs lns:=by
  by_cases j:hs.getD d ""=p
  .rw[if_pos j,if_pos j,if_pos j]at r
   lia
  .rw[if_neg j,if_neg j,if_neg j]at r
   lia
 rw[x,v]
 have m:p∈hs++[hs.getD d ""]↔p∈hs:=by
  rw[waj,wa4];refine{λz=>z.elim id λz=>?_,.inl};rw[z,ZL,ZJ hd];exact wah _
 have a:(hs++[hs.getD d ""]).length=hs.length+1:=by rw[ZP];rfl
 by_cases f:e=lns.length
 .rw[if_pos f]
  have s:(hs++[hs.getD d ""]).getD e ""=hs.getD d "":=by
   rw[f,hl,ZL,waf (ZS _),wbn];rfl
  rw[s,a];refine Oz {λz=>{by lia,m.mpr z.2.1,z.2.2},λz=>{hd,m.mp z.2.1,z.2.2}}
 .rw[if_neg f]
  by_cases g:e<hs.length
  .have s:(hs++[hs.getD d ""]).getD e ""=hs.getD e "":=by
    rw[ZL,wai g,<-ZL]
   rw[s,a];refine Oz {λz=>{by lia,m.mpr z.2.1,z.2.2},λz=>{g,m.mp z.2.1,z.2.2}}
  .rw[if_neg (λz=>g z.1),if_neg (λz=>by have:=z.1;lia)]
theorem vV(h:∀d∈S,d∈T):∀g:List (Str×Nat),(cu S g).length<=(cu T g).length
 |[]=>ZS _
 |q::g=>by
  have a:=vV h g;unfold cu at a ⊢
  by_cases hs:q.2∈S
  .rw[waC (by exact decide_eq_true hs),waC (by exact decide_eq_true (h _ hs))];exact wdO a
  .rw[waJ (by simpa using hs)]
   by_cases b:q.2∈T
   .rw[waC (by exact decide_eq_true b)];exact Nat.le_succ_of_le a
   .rw[waJ (by simpa using b)];exact a
theorem tK{f:Nat->Int}:∀ns:List Nat,(∀n∈ns,f n<=h)->x∈ns->f x<h->(ns.map f).sum<(ns.length:Int)*h
 |[],_,a,_=>nomatch a
 |n::ns,c,a,b=>by
  have h0:=c n (ZZ ..);rw[wab,wb5,wan,wda,wfx];show _<_+1*h;rcases wao.mp a with e |a
  .have g:=n7 ns λp d=>c p (ZW _ d);rw[e]at b
   lia
  .have g:=tK ns (λp d=>c p (ZW _ d)) a b
   lia
theorem Fx:∀{a b:List Nat},nI a=nI b->a=b
 |[],[],_=>rfl
 |[],_::_,h=>nomatch h
 |_::_,[],h=>nomatch h
 |x::a,y::b,h=>by
  unfold nI at h;rw[wab,wab]at h;injection h with d c
  rw[Fx (a:=a) (b:=b) c,show x=y by lia]
theorem tL{ls g:List Str}{f:Str->Int}(h:∀p∈ls,0<=f p):∀p∈ls,0<=cF g f p:=λp a=>by
 unfold cF;split
 .exact h p a
 .grind
theorem yJ{ls g:List Str}{f:Str->Int}(h:∀p∈ls,0<=f p):∀p∈ls,cF g f p<=f p:=λp a=>by
 unfold cF;split
 .grind
 .exact h p a
theorem D2{ls g:List Str}{f:Str->Int}(h:∀p∈ls,0<=f p):(ls.map (cF g f)).sum<=(ls.map f).sum:=tm ls (yJ h)
theorem D3{ls:List Str}{f:Str->Int}{g:List Nat}(h:∀p∈ls,0<=f p)(hl:∀d∈g,d<(au ls f).length)(j:g≠[]):0<(ls.map (cF (g.map λd=>(au ls f).getD d "") f)).sum:=by
 cases g with
 |nil=>exact absurd rfl j
 |cons d g=>
  have hd:=hl d (ZZ ..)
  have a:(au ls f).getD d ""∈au ls f:=by
   grind
  obtain⟨b,c⟩:=wa6.mp a;refine tq ls (tL h) b ?_;unfold cF;rw[if_pos (ZR.mpr {d,ZZ ..,rfl})];exact of_decide_eq_true c
theorem vW(a b:List Nat):nG ((nI a).map V.int) ((nI b).map V.int)=decide (a=b):=by
 rw[vP];exact decide_eq_decide.mpr {Fx,λe=>by rw[e]}
theorem yK:∀{m:Nat},i0<m->(restOf m i0).length=m-1
 |m+1,h=>by
  unfold restOf;rw[wd8,wbk,ZP]
  by_cases e:i0=m
  .subst e;have b:(wak i0).filter (λn=>decide (n≠i0))=wak i0:=waD.mpr λn hn=>decide_eq_true (by grind);rw[b,waJ (by simp),wau];rfl
  .have a:=yK (i0:=i0) (m:=m) (by lia);unfold restOf at a;rw[a,waC (by grind)];show m-1+1=_
   lia
theorem yL(h:i0<m)(hk:k+1<=m):(numsOf m i0 k).length=k+1:=by
 grind [numsOf,wan,yK]
theorem vX(S:ib many hs ws lns)(D:Down ws lns h d i g q):many<=(g.length:Int):=by
 have a:g∈lns:=ZT D.l;have c:=S.b d g D.l;have f:=n6 (ws:=ws) (h:=h) g λp j=>D.t _ (iS (by rw[S.w];exact S.e g a p j));rw[D.e]at c;have k:1<=h:=S.p h D.m;exact wex (wdp c f) (by lia)
noncomputable def xk(s:rV):gL:=.tup [.at (.int (s.1:Int)),ic (nI s.2.1),.at (.int s.2.2)]
structure kz(K:ZK)(C CS:Addr)(H:Hp)(x:Addr)(m:List (Str×Int))(cp:List rV)(ks:List Nat)(hs:List Str)(ws:List Int)(lns:List (List (Str×Nat))):Prop where
 ex:∃dx a b c d,H x=some (.ins C dx (rB a b c d))/\H a=some (.dK (aY m))/\b7 K H (.lst (cp.map xk)) (.ref b)/\b7 K H (ic (nI ks)) (.ref c)/\bQ K CS H d hs ws lns
theorem oi(s:a7 H g):a7 (fb H b) (fb g b):=λc o e=>by
 unfold fb at e ⊢
 by_cases h:c=b
 .rw[if_pos h]at e;cases e
 .rw[if_neg h]at e ⊢;exact s _ _ e
theorem tM:a7 (fb H b) H:=g8 λ_ _ e _=>e
theorem BK(g:H t=some (.tup [.int (d:Int),.ref l,.int w]))(j:H l=some (.lst ((nI ns).map V.int))):b7 K H (xk (d,ns,w)) (.ref t):=
 {t,_,rfl,g,_,_,rfl,⟨rfl,rfl⟩,_,_,rfl,iU j,_,_,rfl,⟨rfl,rfl⟩,rfl}
theorem dE.step{g:Str}{bw ss ls:List Str}{many:Int}{n:Nat}{f:Str->Int}{cp:List rV}{hs:List Str}{ws:List Int}{lns:List (List (Str×Nat))}(h:dE g bw ss ls many n f cp hs ws lns){d:Nat}{ns:List Nat}{w:Int}(ok:cK ws lns many (d:Int) (nI ns) w=true)(hn:ns.length<=1000) :
 dE g bw ss ls many n f (cp++[(d,ns,w)]) (cm hs d) (bT ws d w) (cE lns d (nI ns)):=by
 obtain⟨b,hd⟩:=h.b.split ok;have hw:=h.b.w;have hl:=h.b.l;refine{.snoc h.rn ok hn,b,h.cv.split hl h.b.e hd (nI ns),?_,?_,λp a=>?_}
 .rw[A6 (by lia)];exact h.sm
 .have:=h.sl;unfold cm;rw[ZP,ZP];show cp.length+1+_=hs.length+1
  lia
 .unfold cm at a;rcases waj.mp a with a |a
  .exact h.sb p a
  .rw[wa4.mp a,ZL,ZJ hd];exact h.sb _ (wah hd)
theorem dE.len{f:Str->Int}(h:dE g bw ss ls many n f cp hs ws lns):(hs.length:Int)<=(ls.map f).sum:=by
 have:=tD h.b.p;have a:=h.sm;have c:=h.b.w
 lia
def D4(g:Str)(bw ss:List Str)(many:Int)(n:Nat):Prop:=∀j:Nat,1<=j->(j:Int)<=24->¬gG g bw ss (j*n) "" < many^j
theorem Ib(h:k∈ks):(nI ks)[ks.idxOf k]?=some (k:Int)/\∀j:Nat,j<ks.idxOf k->(nI ks)[j]?≠some (k:Int):=by
 have hl:ks.idxOf k<ks.length:=waR.mpr h;unfold nI;refine{by grind,λj c e=>?_};have a:j<ks.length:=by lia
 rw[ZM,ZJ a]at e;have b:ks[j]=k:=by grind
 have:=tE a;rw[b]at this
 lia
theorem tN{p:Str}{z:Str×Nat}:∀{hs:List Str} {lns:List (List (Str×Nat))} {i j:Nat} {l m:List (Str×Nat)},i<j->hs[i]?=some p->hs[j]?=some p->lns[i]?=some l->lns[j]?=some m->l.count z+m.count z<=gg p z hs lns
 |[],_,_,_,_,_,_,h,_,_,_=>nomatch h
 |_,[],_,_,_,_,_,_,_,h,_=>nomatch h
 |h::hs,k::lns,0,j+1,l,m,_,a,b,c,d=>by
  cases a;cases c;have:=jt (z:=z) (p:=p) (hs:=hs) (lns:=lns) (i:=j) (by simpa using b) (by simpa using d);show _<=(if p=p then k.count z else 0)+_;rw[if_pos rfl]
  lia
 |h::hs,k::lns,i+1,j+1,l,m,q,a,b,c,d=>by
  have:=tN (z:=z) (hs:=hs) (lns:=lns) (i:=i) (j:=j) (l:=l) (m:=m) (by lia) (by simpa using a) (by simpa using b) (by simpa using c) (by simpa using d);show _<=(if h=p then k.count z else 0)+_
  lia
theorem uO.most{B:Str->List (Str×Str)}{hs:List Str}{lns:List (List (Str×Nat))}(h:uO B hs lns)(p:Str)(z:Str×Nat):gg p z hs lns<=1:=by
 have:=h p z.1 z.2;rw[show (z.1,z.2)=z from rfl]at this;rw[this];split<;>lia
theorem uO.cnt{B:Str->List (Str×Str)}{hs:List Str}{lns:List (List (Str×Nat))}(h:uO B hs lns)(hl:lns.length=hs.length){d:Nat}(hd:d<hs.length)(q:Str×Nat):(lns.getD d []).count q<=1:=
 wa0 (jt (getD_some ("":Str) hd) (getD_some [] (show d<lns.length by lia))) (h.most _ q)
theorem tO{l:List (Str×Nat)}{w:Str}{d t e:Nat}(hl:∀q∈l,q.2<t)(h:(w,e)∈eB d t l):(w,rD d t e)∈l:=by
 unfold eB at h;obtain⟨q,a,h⟩:=wd3.mp h;have:=hl q a;unfold rD
 by_cases c:q.2=d
 .rw[if_pos c]at h;rcases wao.mp h with z |z
  .rw[<-z]at a this;rw[if_neg (show ¬e=t from wa8 this)];exact a
  .have z:=wa4.mp z;obtain⟨rfl,rfl⟩:=wc1 z;rw[if_pos rfl,<-c];exact a
 .rw[if_neg c]at h;have z:=wa4.mp h;rw[<-z]at a this;rw[if_neg (show ¬e=t from wa8 this)];exact a
theorem lN{lns:List (List (Str×Nat))}{d i e:Nat}{ns:List Int}{w:Str}(hd:d<lns.length)(hi:i<lns.length+1)(he:∀l∈lns,∀q∈l,q.2<lns.length)(h:(w,e)∈(cE lns d ns).getD i []) :
 (w,rD d lns.length e)∈lns.getD (rD d lns.length i) []/\(i=d->(w,rD d lns.length e)∈aW ns (lns.getD d []))/\(i=lns.length->(w,rD d lns.length e)∈aV ns (lns.getD d [])):=by
 have g:∀j,∀q∈lns.getD j [],q.2<lns.length:=λj q f=>by
  by_cases z:j<lns.length
  .exact he _ (ZT (getD_some [] z)) q f
  .rw[ZL,wcb ()]at f;cases f
 rw[CH hd hi]at h
 by_cases a:i=d
 .rw[if_pos a]at h;have c:=tO (λq f=>g d q (dk f)) h;refine{?_,λ_=>c,λz=>absurd z ()};have:rD d lns.length i=d:=by unfold rD;rw[if_neg ()];exact a
  rw[this];exact dk c
 .rw[if_neg a]at h
  by_cases b:i=lns.length
  .rw[if_pos b]at h;have c:=tO (λq f=>g d q (dk f)) h;refine{?_,λz=>absurd z a,λ_=>c};have:rD d lns.length i=d:=by unfold rD;rw[if_pos b]
   rw[this];exact dk c
  .rw[if_neg b]at h;refine{?_,λz=>absurd z a,λz=>absurd z b};have:rD d lns.length i=i:=by unfold rD;rw[if_neg b]
   rw[this];exact tO (g i) h
theorem pP{lns:List (List (Str×Nat))}{d i e:Nat}{ns:List Int}{w:Str}(hd:d<lns.length)(hi:i<lns.length+1)(he:∀l∈lns,∀q∈l,q.2<lns.length)(h:(w,e)∈(cE lns d ns).getD i []):e<lns.length+1:=by
 have a:=(lN hd hi he h).1
 by_cases z:e=lns.length
 .lia
 .have:rD d lns.length e=e:=by unfold rD;rw[if_neg z]
  rw[this]at a;have b:rD d lns.length i<lns.length:=by unfold rD;split<;>lia
  have:=he _ (ZT (getD_some [] b)) _ a;have:e<lns.length:=this
  lia
theorem xm{lns:List (List (Str×Nat))}{d:Nat}{ns:List Int}(hd:d<lns.length)(he:∀l∈lns,∀q∈l,q.2<lns.length):∀(ws:List Str) (i:Nat),i<lns.length+1->yA (cE lns d ns) i ws->yA lns (rD d lns.length i) ws
 |[],_,_,_=>trivial
 |w::ws,i,hi,⟨e,h,r⟩=>{rD d lns.length e,(lN hd hi he h).1,xm hd he ws e (pP hd hi he h) r}
theorem Fy{lns:List (List (Str×Nat))}{ks:List Nat}{m d:Nat}{q:Str×Nat}(h:q∈(dg lns ks m).getD d []):d<ks.length:=by
 refine wdb λz=>?_;rw[ZL,wcb (by rw[pI];omega)]at h;cases h
theorem xn{lns:List (List (Str×Nat))}{ks:List Nat}{m d e:Nat}{w:Str}(h:(w,e)∈(dg lns ks m).getD d []):e<ks.length/\(w,ks.getD e 0)∈lns.getD (ks.getD d 0) []:=by
 rw[JA (Fy h)]at h;unfold dZ at h;obtain⟨q,b,c⟩:=ZR.mp h;obtain⟨f,a⟩:=wa6.mp (we8 b);have a:=of_decide_eq_true a;obtain⟨rfl,rfl⟩:=wc1 c;have hl:=waR.mpr a;refine{hl,?_};have:ks.getD (ks.idxOf q.2) 0=q.2:=by rw[ZL,ZJ hl];exact wbM hl
 rw[this];exact f
theorem xo{lns:List (List (Str×Nat))}{ks:List Nat}{m:Nat}:∀(ws:List Str) (d:Nat),yA (dg lns ks m) d ws->yA lns (ks.getD d 0) ws
 |[],_,_=>trivial
 |_::ws,_,⟨e,h,r⟩=>{ks.getD e 0,(xn h).2,xo ws e r}
theorem vY:∀{l:List (Str×Nat)},(∀q,l.count q<=1)->l.Nodup
 |[],_=>wco
 |a::l,h=>by
  refine waZ.mpr {λz=>?_,vY λq=>wa0 (List.count_le_count_cons ..) (h q)};have b:=h a;rw[List.count_cons_self]at b;have:=wbB.mpr z
  lia
theorem Fz{g:Str}:∀(n:Nat) (r:Str),r∈GH g n->∀c∈ch r,c∈ch g
 |0,r,h,c,hc=>by
  rw[wa4.mp h]at hc;exact nomatch hc
 |n+1,r,h,c,hc=>by
  obtain⟨p,a,h⟩:=wd3.mp h;obtain⟨d,hd,rfl⟩:=ZR.mp h;rw[bx]at hc;rcases waj.mp hc with z |z
  .exact Fz n p a c z
  .rw[wa4.mp z];exact hd
section
variable{g:Str}{ws ss:List Str}
theorem KY(n:Nat):∀p,0<=gG g ws ss n p:=by
 induction n with
 |zero=>intro p;show (0:Int)<=1;decide
 |succ n a=>intro p;exact sZ λe _=>a e
end
theorem Au{m j N:Nat}{many wide:Int}{g:Str}{bw ss:List Str}(l:eU m many wide)(b:(j:Int)<=24)(c:gG g bw ss N "" < many^j):(gG g bw ss N "").natAbs.log2<1920:=by
 have h0:0<=gG g bw ss N "":=KY N "";obtain⟨k,hk⟩:∃k:Nat,many=k:={many.toNat,by have:=l.a;lia};have d:k<=8:=by have:=l.b;lia
 rw[hk,<-wbT]at c;have e:k^j<=8^24:=wa0 (Nat.pow_le_pow_left d j) (wfY ⋯ (by lia))
 have f:(gG g bw ss N "").natAbs<2^72:=by
  grind
 have h:=Nat.log2_lt (n:=(gG g bw ss N "").natAbs) (k:=72)
 by_cases z:(gG g bw ss N "").natAbs=0
 .rw[z];decide
 .grind
end Bs
namespace Sx
inductive Ic(vs:List V)(H:Hp)(Q:VK)(eC:XK):Prop
 |mk (a b) (_:vs=[.str a,.str b]) (_:a.length<=1000) (_:∀H',a7 H H'->Q (.bl ((ch a).all λc=>decide (c∈ch b))) H')
inductive Nr(vs:List V)(H:Hp)(Q:VK)(eC:XK):Prop
 |mk (x) (_:vs=[.str x]) (_:vT x) (_:∀H',a7 H H'->Q (.bl true) H')
inductive Nt(vs:List V)(H:Hp)(Q:VK)(eC:XK):Prop
 |mk (t g) (_:vs=[.str t,.str g]) (_:uP g t) (_:∀H',a7 H H'->Q (.bl true) H')
structure aT(C:Addr)(H:Hp)(x:Addr)(g:Str)(ws ss ls:List Str):Prop where
 ex:∃(dx b d q:Addr) (mv:List (Str×Addr)),H x=some (.ins C dx (Ag g b d q))/\H b=some (.lst (ws.map V.str))/\H d=some (.dK (bY mv))/\mv.map (·.1)=ss/\(∀m∈mv,H m.2=some (.dK (rowOf g ws ss m.1)))/\H q=some (.lst (ls.map V.str))
 pm:ss.Perm (bJ ws "" ws)
 so:wfZ ss=true
 lv:Cm ss (rowOf g ws ss) ls
theorem aT.same(B:aT C H x g ws ss ls)(s:a7 H j):aT C j x g ws ss ls:=by
 obtain⟨⟨a,b,d,q,c,e,f,h,i,k,n⟩,p,o,l⟩:=B;exact{{a,b,d,q,c,s _ _ e,s _ _ f,s _ _ h,i,λm r=>s _ _ (k m r),s _ _ n},p,o,l}
inductive FA(C:Addr)(vs:List V)(H:Hp)(Q:VK)(eC:XK):Prop
 |mk (x g ws ss ls) (_:vs=[.ref x]) (_:aT C H x g ws ss ls) (_:∀(l:Addr) (H':Hp),a7 H H'->H l=none->H' l=some (.lst (ss.map V.str))->Q (.ref l) H')
theorem aT.nd(B:aT C H x g ws ss ls):ss.Nodup:=B.pm.nodup_iff.mpr (qo ws)
inductive Ie(C:Addr)(vs:List V)(H:Hp)(Q:VK)(eC:XK):Prop
 |mk (x g ws ss ls) (_:vs=[.ref x]) (_:aT C H x g ws ss ls) (_:∀(l:Addr) (H':Hp),a7 H H'->H l=none->H' l=some (.lst (ls.map V.str))->Q (.ref l) H')
inductive Ql(C:Addr)(vs:List V)(H:Hp)(Q:VK)(eC:XK):Prop
 |mk (x p g ws ss ls) (_:vs=[.ref x,.str p]) (_:aT C H x g ws ss ls) (_:p∈ss) (_:Q .non H)
inductive Nu(C:Addr)(vs:List V)(H:Hp)(Q:VK)(eC:XK):Prop
 |mk (x p c g ws ss ls) (_:vs=[.ref x,.str p,.str ⟨#[c]⟩]) (_:aT C H x g ws ss ls) (_:p∈ss) (_:c∈ch g) (_:Q (uF ws ss p c) H)
theorem D5(h:(eD g)[i]?=some y):∃c,(ch g)[i]?=some c/\y=.str {#[c]}/\i<(ch g).length/\c∈ch g/\(ch g).take (i+1)=(ch g).take i++[c]:=by
 unfold eD at h;rw[ZM]at h
 cases e:(ch g)[i]? with
 |none=>rw[show g.cps.toList[i]?=none from e]at h;cases h
 |some z=>
  rw[show g.cps.toList[i]?=some z from e]at h;exact{z,rfl,(ZU h).symm,(ZO.mp e).1,ZT e,by rw[waw,e];rfl}
theorem Av(g:Str):(eD g).length=g.length:=by grind [eD,aJ]
theorem aT.few(B:aT C H x g ws ss ls)(hl:ws.length<=6)(hw:∀w∈ws,uP g w):ss.length<=25:=by
 have:=lM (ws:=ws) (e:="") (us:=ws) λw a=>(hw w a).hi;rw[B.pm.length_eq];lia
inductive Aw(C:Addr)(vs:List V)(H:Hp)(Q:VK)(eC:XK):Prop
 |mk (x p g ws ss ls) (_:vs=[.ref x,.str p]) (_:aT C H x g ws ss ls) (_:p∈ss) (_:g.length<=10) (_:∀(l:Addr) (H':Hp),a7 H H'->H l=none->H' l=some (.lst ((gu g ws ss p).map V.str))->Q (.ref l) H')
inductive D6(C:Addr)(vs:List V)(H:Hp)(Q:VK)(eC:XK):Prop
 |mk (x g ws ss ls) (_:vs=[.ref x]) (_:aT C H x g ws ss ls) (_:g.length<=10) (_:ss.length<=900) (_:∀(d:Addr) (ev:List (Str×Addr)) (H':Hp),a7 H H'->H d=none->H' d=some (.dK (bY ev))->ev.map (·.1)=ss->(∀m∈ev,H' m.2=some (.lst ((gu g ws ss m.1).map V.str)))->(∀m∈ev,H m.2=none)->Q (.ref d) H')
inductive Ig(C:Addr)(vs:List V)(H:Hp)(Q:VK)(eC:XK):Prop
 |mk (x n g ws ss ls) (_:vs=[.ref x,.int n]) (_:aT C H x g ws ss ls) (_:g.length<=10) (_:ss.length<=900) (_:0<=n) (_:n<=100000) (_:∀(l:Addr) (ts:List Addr) (H':Hp),a7 H H'->H l=none->H' l=some (.lst (ts.map V.ref))->ts.length=n.toNat+1->(∀i t,ts[i]?=some t->H' t=some (.dK (KW g ws ss i)))->Q (.ref l) H')
inductive Ih(C:Addr)(vs:List V)(H:Hp)(Q:VK)(eC:XK):Prop
 |mk (x n g ws ss ls) (_:vs=[.ref x,.int n]) (_:aT C H x g ws ss ls) (_:g.length<=10) (_:ss.length<=900) (_:0<=n) (_:n<=100000) (_:∀H',a7 H H'->Q (.int (gG g ws ss n.toNat "")) H')
inductive D7(C:Addr)(vs:List V)(H:Hp)(Q:VK)(eC:XK):Prop
 |mk (x n g ws ss ls) (_:vs=[.ref x,.int n]) (_:aT C H x g ws ss ls) (_:g.length<=10) (_:0<=n) (_:n<=10) (_:Q (.int ((g.length:Int)^n.toNat)) H)
inductive yM(C:Addr)(vs:List V)(H:Hp)(Q:VK)(eC:XK):Prop
 |mk (x many wide g ws ss ls) (_:vs=[.ref x,.int many,.int wide]) (_:aT C H x g ws ss ls) (_:g.length<=10) (_:eU g.length many wide) (_:Q (.bl true) H)
inductive Qm(C:Addr)(vs:List V)(H:Hp)(Q:VK)(eC:XK):Prop
 |mk (x p g ws ss ls) (_:vs=[.ref x,.str p]) (_:aT C H x g ws ss ls) (_:p∈ls) (_:Q .non H)
inductive FC(C:Addr)(vs:List V)(H:Hp)(Q:VK)(eC:XK):Prop
 |mk (x l rs qs g ws ss ls) (_:vs=[.ref x,.ref l]) (_:aT C H x g ws ss ls) (_:dN H l rs qs) (_:(∀q∈qs,q.2∈ss/\q.1.length<=100)) (_:qs.length<=100) (_:g.length<=10) (_:∀(l':Addr) (Qn:List Addr) (H':Hp),a7 H H'->H l'=none->dN H' l' Qn (fo g ws ss qs)->Q (.ref l') H')
inductive FD(C:Addr)(vs:List V)(H:Hp)(Q:VK)(eC:XK):Prop
 |mk (x:Addr) (p:Str) (n:Nat) (g:Str) (ws ss ls:List Str) (_:vs=[.ref x,.str p,.int (n:Int)]) (_:aT C H x g ws ss ls) (_:p∈ls) (_:g.length^n<=100) (_:n<=10) (_:2<=g.length) (_:g.length<=10) (_:∀(l':Addr) (Qn:List Addr) (H':Hp),a7 H H'->H l'=none->dN H' l' Qn (aN g ws ss ls n p)->Q (.ref l') H')
inductive yN(C:Addr)(vs:List V)(H:Hp)(Q:VK)(eC:XK):Prop
 |mk (x:Addr) (n:Nat) (g:Str) (ws ss ls:List Str) (_:vs=[.ref x,.int (n:Int)]) (_:aT C H x g ws ss ls) (_:g.length^n<=100) (_:n<=10) (_:2<=g.length) (_:g.length<=10) (_:ss.length<=900) (_:∀(d:Addr) (ev:List (Str×Addr)) (H':Hp),a7 H H'->H d=none->H' d=some (.dK (bY ev))->ev.map (·.1)=ls->(∀m∈ev,H' m.2=some (.lst (((aN g ws ss ls n m.1).map (·.2)).map V.str)))->(∀m∈ev,H m.2=none)->Q (.ref d) H')
inductive KZ(C:Addr)(vs:List V)(H:Hp)(Q:VK)(eC:XK):Prop
 |mk (x d:Addr) (many:Int) (n:Nat) (m:List (Str×Int)) (f:Str->Int) (g:Str) (ws ss ls:List Str) (_:vs=[.ref x,.int many,.int (n:Int),.ref d]) (_:aT C H x g ws ss ls) (_:2<=g.length) (_:g.length<=10) (_:ss.length<=900) (_:eU g.length many n) (_:Rd H d (.dK (aY m))) (_:HB m ls f) (_:∀H',a7 H H'->Q (.bl (Fl g ws ss ls many n f)) H')
inductive FE(C:Addr)(vs:List V)(H:Hp)(Q:VK)(eC:XK):Prop
 |mk (x p n g ws ss ls) (_:vs=[.ref x,.str p,.int n]) (_:aT C H x g ws ss ls) (_:p∈ss) (_:g.length<=10) (_:ss.length<=900) (_:0<=n) (_:n<=100000) (_:∀H',a7 H H'->Q (.int (gG g ws ss n.toNat p)) H')
inductive D8(vs:List V)(H:Hp)(Q:VK)(eC:XK):Prop
 |mk (de dw many n o ev f g ws ss ls) (_:vs=[.ref de,.int many,.ref dw]) (_:H de=some (.frz o (.dK (bY ev)))) (_:ev.map (·.1)=ls) (_:(∀m∈ev,H m.2=some (.lst (((aN g ws ss ls n m.1).map (·.2)).map V.str)))) (_:g.length^n<=100) (_:ls.Nodup) (_:ls.length<=900) (_:2<=many) (_:many<=8) (_:Rd H dw (.dK (aY (bE f ls)))) (_:∀(d:Addr) (H':Hp),a7 H H'->H d=none->H' d=some (.dK (aY (bE (ku g ws ss ls many n f) ls)))->Q (.ref d) H')
structure m4(g:Str)(ws ss ls:List Str)(many:Int)(n:Nat)(most:Int)(f:Str->Int):Prop where
 nn:∀p∈ls,0<=f p
 le:∀p∈ls,f p<=most
 fit:CT g ws ss ls many n f
 top:∀h:Str->Int,(∀p∈ls,h p<=most)->CT g ws ss ls many n h->∀p∈ls,h p<=f p
inductive Ii(C:Addr)(vs:List V)(H:Hp)(Q:VK)(eC:XK):Prop
 |mk (x:Addr) (many:Int) (n:Nat) (most:Int) (g:Str) (ws ss ls:List Str) (_:vs=[.ref x,.int many,.int (n:Int),.int most]) (_:aT C H x g ws ss ls) (_:2<=g.length) (_:g.length<=10) (_:ss.length<=900) (_:eU g.length many n) (_:0<=most) (_:∀(d:Addr) (f:Str->Int) (H':Hp),a7 H H'->H d=none->H' d=some (.dK (aY (bE f ls)))->m4 g ws ss ls many n most f->Q (.ref d) H')
set_option genInjectivity true in
inductive OD(g:Str)(ws ss:List Str)(many:Int)(n:Nat)(most:Int):V->Prop where
 |some (k:Nat) (a:1<=k) (b:(k:Int)<=most) (c:gG g ws ss (k*n) "" < many^k) (d:∀j:Nat,1<=j->j<k->¬gG g ws ss (j*n) "" < many^j):OD g ws ss many n most (.int (k:Nat))
 |none (a:∀j:Nat,1<=j->(j:Int)<=most->¬gG g ws ss (j*n) "" < many^j):OD g ws ss many n most .non
inductive D9(C:Addr)(vs:List V)(H:Hp)(Q:VK)(eC:XK):Prop
 |mk (x many wide most g ws ss ls) (_:vs=[.ref x,.int many,.int wide,.int most]) (_:aT C H x g ws ss ls) (_:g.length<=10) (_:ss.length<=900) (_:eU g.length many wide) (_:0<=most) (_:most<=100) (_:∀v H',a7 H H'->OD g ws ss many wide.toNat most v->Q v H')
inductive FG(K:ZK)(vs:List V)(H:Hp)(Q:VK)(eC:XK):Prop
 |mk (r a ws) (_:vs=[.str r,.ref a]) (_:aK K H a (ws.map V.str)) (_:ws.length<=1000) (_:∀H',a7 H H'->Q (.bl (!bears ws r)) H')
inductive Ij(K:ZK)(vs:List V)(H:Hp)(Q:VK)(eC:XK):Prop
 |mk (a:Addr) (ns:List Int) (_:vs=[.ref a]) (_:aK K H a (ns.map V.int)) (_:∀(p lw:Addr) (g:Str) (ws:List Str) (H':Hp),a7 H H'->H p=none->H lw=none->H' p=some (.tup [.str g,.ref lw])->H' lw=some (.lst (ws.map V.str))->vT g->ws.length<=6->(∀w∈ws,uP g w)->Q (.ref p) H')
inductive L1(K:ZK)(vs:List V)(H:Hp)(Q:VK)(eC:XK):Prop
 |mk (r a ws ss) (_:vs=[.str r,.ref a]) (_:aK K H a (ws.map V.str)) (_:ss.Perm (bJ ws "" ws)) (_:(∀w∈ws,w.length<=5)) (_:ws.length<=100) (_:bears ws r=false) (_:r.length<=1000) (_:∀H',a7 H H'->Q (.str (lend ss r)) H')
inductive FH(K:ZK)(vs:List V)(H:Hp)(Q:VK)(eC:XK):Prop
 |mk (v qs) (_:vs=[v]) (_:b7 K H (bG qs) v) (_:qs.length<=10000) (_:∀y H',a7 H H'->b7 K (aG H H') (bG qs) y->Q y H')
inductive FI(K:ZK)(C:Addr)(vs:List V)(H:Hp)(Q:VK)(eC:XK):Prop
 |mk (x dx u v w hs ws lns) (_:vs=[.ref x,u,v,w]) (_:H x=some (.ins C dx [])) (_:b7 K H (jK hs) u) (_:b7 K H (ic ws) v) (_:b7 K H (fT lns) w) (_:hs.length<=10000) (_:ws.length<=10000) (_:lns.length<=10000) (_:(∀l∈lns,l.length<=10000)) (_:∀a b c H',H' x=some (.ins C dx (A4 a b c))->b7 K (aG H H') (jK hs) (.ref a)->b7 K (aG H H') (ic ws) (.ref b)->b7 K (aG H H') (fT lns) (.ref c)->(∀b o,H b=some o->b≠x->H' b=some o)->Q .non H')
inductive Ik(K:ZK)(C CS:Addr)(vs:List V)(H:Hp)(Q:VK)(eC:XK):Prop
 |mk (x d:Addr) (many:Int) (n:Nat) (m:List (Str×Int)) (f:Str->Int) (g:Str) (ws ss ls:List Str) (_:vs=[.ref x,.int many,.int (n:Int),.ref d]) (_:aT C H x g ws ss ls) (_:2<=g.length) (_:g.length<=10) (_:ss.length<=900) (_:eU g.length many n) (_:Rd H d (.dK (aY m))) (_:HB m ls f) (_:∀(y:Addr) (H':Hp),a7 H H'->bQ K CS (aG H H') y (au ls f) ((au ls f).map f) (bz g ws ss ls n (au ls f))->Q (.ref y) H')
inductive L4(K:ZK)(CS CN:Addr)(vs:List V)(H:Hp)(Q:VK)(E:XK):Prop
 |mk (x many v w hs ws lns qs) (_:vs=[.ref x,.int many,v,.int w]) (_:bQ K CS H x hs ws lns) (_:b7 K H (bG qs) v) (_:qs.length<=10000) (_:(∀q∈qs,q.2<ws.length)) (_:0<=many) (_:many<=1000) (_:((eG ws many qs w=true/\∀H',a7 H H'->Q .non H')\/(eG ws many qs w=false/\∀H',a7 H H'->E (.ref CN) none H')))
inductive Il(K:ZK)(vs:List V)(H:Hp)(Q:VK)(eC:XK):Prop
 |mk (v:V) (d t:Nat) (qs:List (Str×Nat)) (_:vs=[v,.int (d:Int),.int (t:Int)]) (_:b7 K H (bG qs) v) (_:qs.length<=5000) (_:∀y H',a7 H H'->b7 K (aG H H') (bG (eB d t qs)) y->Q y H')
inductive Im(K:ZK)(CS CN:Addr)(vs:List V)(H:Hp)(Q:VK)(E:XK):Prop
 |mk (x a many rA w ns hs ws lns) (_:vs=[.ref x,.int many,.int rA,.ref a,.int w]) (_:bQ K CS H x hs ws lns) (_:aK K H a (ns.map V.int)) (_:ns.length<=10000) (_:Jw hs ws lns) (_:0<=many) (_:many<=1000) (_:((cK ws lns many rA ns w=true/\∀y H',a7 H H'->bQ K CS (aG H H') y (cm hs rA.toNat) (bT ws rA.toNat w) (cE lns rA.toNat ns)->Q (.ref y) H')\/(cK ws lns many rA ns w=false/\∀H',a7 H H'->E (.ref CN) none H')))
inductive L5(K:ZK)(vs:List V)(H:Hp)(Q:VK)(eC:XK):Prop
 |mk (v a ds qs) (_:vs=[v,.ref a]) (_:b7 K H (bG qs) v) (_:aK K H a ((nI ds).map V.int)) (_:qs.length<=10000) (_:∀y H',a7 H H'->b7 K (aG H H') (bG (cu ds qs)) y->Q y H')
inductive L6(K:ZK)(C:Addr)(vs:List V)(H:Hp)(Q:VK)(eC:XK):Prop
 |mk (x hs ws lns) (_:vs=[.ref x]) (_:bQ K C H x hs ws lns) (_:ws.length=lns.length) (_:(∀l∈lns,∀q∈l,q.2<ws.length)) (_:ws≠[]) (_:(∀h∈ws,(∀w∈ws,w<=h)->∃d i qs q,Down ws lns h d i qs q)) (_:∀(t:Addr) (h:Int) (d i:Nat) (qs:List (Str×Nat)) (q:Str×Nat) (H':Hp),a7 H H'->H' t=some (.tup [.int (d:Int),.int (i:Int)])->Down ws lns h d i qs q->Q (.ref t) H')
inductive Nv(K:ZK)(vs:List V)(H:Hp)(Q:VK)(eC:XK):Prop
 |mk (a b:Addr) (many:Int) (wl:List Int) (nums:List Nat) (_:vs=[.ref a,.ref b,.int many]) (_:aK K H a (wl.map V.int)) (_:aK K H b ((nI nums).map V.int)) (_:1<=many) (_:many<=1000) (_:(nums.length:Int)=many) (_:(∀n∈nums,n<wl.length)) (_:∀(l:Addr) (i j:Nat) (H':Hp),a7 H H'->H l=none->i<j->j<=nums.length->(((nums.take j).drop i).map λn=>wl.getD n 0).sum%many=0->H' l=some (.lst ((nI ((nums.take j).drop i)).map V.int))->Q (.ref l) H')
inductive FJ(C:Addr)(vs:List V)(H:Hp)(Q:VK)(eC:XK):Prop
 |mk (x d:Addr) (many:Int) (n:Nat) (f:Str->Int) (g:Str) (ws ss ls:List Str) (_:vs=[.ref x,.int many,.int (n:Int),.ref d]) (_:aT C H x g ws ss ls) (_:(∀w∈ws,1<=w.length)) (_:(ch g).Nodup) (_:2<=g.length) (_:g.length<=10) (_:ss.length<=900) (_:eU g.length many n) (_:H d=some (.dK (aY (bE f ls)))) (_:(∀p∈ls,0<=f p)) (_:CT g ws ss ls many n f) (_:0<(ls.map f).sum) (_:∀(dl:Addr) (f':Str->Int) (H':Hp),(∀c o,H c=some o->c≠d->H' c=some o)->H dl=none->H' dl=some (.dK (aY (bE f' ls)))->(∀p∈ls,0<=f' p)->CT g ws ss ls many n f'->0<(ls.map f').sum->(∀p∈ls,f' p<=f p)->(ls.map f').sum<=(ls.map f).sum->Q (.ref dl) H')
inductive FK(K:ZK)(C:Addr)(vs:List V)(H:Hp)(Q:VK)(eC:XK):Prop
 |mk (x hs ws lns) (_:vs=[.ref x]) (_:bQ K C H x hs ws lns) (_:hs.length<=10000) (_:ws.length<=10000) (_:lns.length<=10000) (_:(∀l∈lns,l.length<=10000)) (_:∀y H',a7 H H'->bQ K C (aG H H') y hs ws lns->Q (.ref y) H')
inductive Io(K:ZK)(C CS:Addr)(vs:List V)(H:Hp)(Q:VK)(eC:XK):Prop
 |mk (x dx d z:Addr) (u v:V) (m:List (Str×Int)) (cp:List rV) (ks:List Nat) (hs:List Str) (ws:List Int) (lns:List (List (Str×Nat))) (_:vs=[.ref x,.ref d,u,v,.ref z]) (_:H x=some (.ins C dx [])) (_:Rd H d (.dK (aY m))) (_:b7 K H (.lst (cp.map xk)) u) (_:b7 K H (ic (nI ks)) v) (_:bQ K CS H z hs ws lns) (_:hs.length<=10000) (_:ws.length<=10000) (_:lns.length<=10000) (_:(∀l∈lns,l.length<=10000)) (_:cp.length<=10000) (_:∀a b c y H',H' x=some (.ins C dx (rB a b c y))->H a=none->H' a=some (.dK (aY m))->b7 K (aG H H') (.lst (cp.map xk)) (.ref b)->b7 K (aG H H') (ic (nI ks)) (.ref c)->bQ K CS (aG H H') y hs ws lns->(∀b o,H b=some o->b≠x->H' b=some o)->Q .non H')
inductive Dc(K:ZK)(C CS:Addr)(vs:List V)(H:Hp)(Q:VK)(eC:XK):Prop
 |mk (x m cp ks hs ws lns) (_:vs=[.ref x]) (_:kz K C CS H x m cp ks hs ws lns) (_:hs.length<=10000) (_:ws.length<=10000) (_:lns.length<=10000) (_:(∀l∈lns,l.length<=10000)) (_:∀y H',a7 H H'->bQ K CS (aG H H') y hs ws lns->Q (.ref y) H')
def Qo(CX:Addr)(g:Str)(bw ss:List Str)(many:Int)(n:Nat)(H:Hp)(E:XK):Prop:=∀(k:Nat) (d:Addr) (H':Hp),OD g bw ss many n 24 (.int (k:Nat))->a7 H H'->H d=none->H' d=some (.xd [("length",.int (k:Nat)),("rows",.int (gG g bw ss (k*n) ""))])->E (.ref CX) (some d) H'
inductive Ip(C CX:Addr)(vs:List V)(H:Hp)(Q:VK)(E:XK):Prop
 |mk (x:Addr) (many:Int) (n:Nat) (g:Str) (bw ss ls:List Str) (_:vs=[.ref x,.int many,.int (n:Int)]) (_:aT C H x g bw ss ls) (_:g.length<=10) (_:ss.length<=900) (_:eU g.length many n) (_:(D4 g bw ss many n->∀H',a7 H H'->Q .non H')) (_:Qo CX g bw ss many n H E)
inductive Iq(K:ZK)(vs:List V)(H:Hp)(Q:VK)(eC:XK):Prop
 |mk (v b many ks qs) (_:vs=[v,.ref b,.int many]) (_:b7 K H (bG qs) v) (_:aK K H b ((nI ks).map V.int)) (_:ks.length<=1000) (_:qs.length<=10000) (_:0<=many) (_:∀y H',a7 H H'->b7 K (aG H H') (bG (dZ ks many.toNat qs)) y->Q y H')
inductive Ir(C:Addr)(vs:List V)(H:Hp)(Q:VK)(eC:XK):Prop
 |mk (x g bw ss ls) (_:vs=[.ref x]) (_:aT C H x g bw ss ls) (_:bw.length<=1000) (_:(∀w∈bw,w.length<=1000)) (_:∀(M:Int) (H':Hp),a7 H H'->Fg bw M->Q (.int M) H')
inductive FL(C:Addr)(vs:List V)(H:Hp)(Q:VK)(eC:XK):Prop
 |mk (x:Addr) (n:Nat) (g:Str) (bw ss ls:List Str) (_:vs=[.ref x,.int (n:Int)]) (_:aT C H x g bw ss ls) (_:1<=n) (_:n<=10) (_:(∀w∈bw,w.length<=900)) (_:bw.length<=1000) (_:∀(b:Nat) (H':Hp),a7 H H'->iT bw n b->Q (.int (b:Int)) H')
inductive FN(C CB:Addr)(vs:List V)(H:Hp)(Q:VK)(eC:XK):Prop
 |mk (x xb dx:Addr) (fs:List (Str×V)) (n:Nat) (g:Str) (bw ss ls:List Str) (_:vs=[.ref x]) (_:H x=some (.ins C dx fs)) (_:fs.lookup ("band":Str)=some (.ref xb)) (_:fs.lookup ("wide":Str)=some (.int (n:Int))) (_:aT CB H xb g bw ss ls) (_:1<=n) (_:n<=10) (_:(∀w∈bw,w.length<=900)) (_:bw.length<=1000) (_:∀(b:Nat) (H':Hp),a7 H H'->iT bw n b->Q (.int (b:Int)) H')
section
variable{w:World}{K:ZK}
inductive Iu(K:ZK)(vs:List V)(H:Hp)(Q:VK)(eC:XK):Prop
 |mk (r a ws) (_:vs=[.str r,.ref a]) (_:aK K H a (ws.map V.str)) (_:ws.length<=1000) (_:∀H',a7 H H'->Q (.bl (bears ws r)) H')
inductive Iv(K:ZK)(vs:List V)(H:Hp)(Q:VK)(eC:XK):Prop
 |mk (a:Addr) (g:Str) (ws:List Str) (_:vs=[.ref a,.str g]) (_:aK K H a (ws.map V.str)) (_:ws.length<=6) (_:(∀w∈ws,uP g w)) (_:∀H',a7 H H'->Q .non H')
inductive FO(K:ZK)(vs:List V)(H:Hp)(Q:VK)(eC:XK):Prop
 |mk (a ws) (_:vs=[.ref a]) (_:aK K H a (ws.map V.str)) (_:ws.length<=6) (_:(∀w∈ws,w.length<=5)) (_:∀(l:Addr) (ss:List Str) (H':Hp),a7 H H'->H l=none->H' l=some (.lst (ss.map V.str))->ss.Perm (bJ ws "" ws)->wfZ ss=true->Q (.ref l) H')
inductive Iw(K:ZK)(vs:List V)(H:Hp)(Q:VK)(eC:XK):Prop
 |mk (p g a b ws ps) (_:vs=[.str p,.str g,.ref a,.ref b]) (_:aK K H a (ws.map V.str)) (_:aK K H b (ps.map V.str)) (_:("":Str)∈ps) (_:p.length<=100) (_:g.length<=10) (_:(ch g).Nodup) (_:ws.length<=1000) (_:∀(d:Addr) (H':Hp),a7 H H'->H d=none->H' d=some (.dK (rowOf g ws ps p))->Q (.ref d) H')
inductive L8(K:ZK)(C:Addr)(vs:List V)(H:Hp)(Q:VK)(eC:XK):Prop
 |mk (x dx g a ws) (_:vs=[.ref x,.str g,.ref a]) (_:H x=some (.ins C dx [])) (_:aK K H a (ws.map V.str)) (_:vT g) (_:ws.length<=6) (_:(∀w∈ws,uP g w)) (_:∀(ss ls:List Str) (H':Hp),aT C H' x g ws ss ls->(∀b o,H b=some o->b≠x->H' b=some o)->Q .non H')
theorem Dd(hw:∀w∈ws,w.length<=5):∀k∈bJ ws "" ws,k.length<=5:=by
 have h1:∀(w:Str),w.length<=5->∀(n:Nat) (ks:List Str),(∀k∈ks,k.length<=5)->∀k∈upTo ws w ks n,k.length<=5:=by
  intro w Ax n
  induction n with
  |zero=>intro ks h;exact h
  |succ n ih=>
   intro ks h k hk;rw[fR]at hk;unfold pM xh at hk;split at hk
   .exact ih ks h k hk
   .split at hk
    .exact ih ks h k hk
    .rcases waj.mp hk with z |z
     .exact ih ks h k z
     .have:k=cH w (1+n):=by simpa using z
      rw[this];exact wa0 (CL _ _) Ax
 have h2:∀(us ks:List Str),(∀w∈us,w.length<=5)->(∀k∈ks,k.length<=5)->∀k∈us.foldl (addW ws) ks,k.length<=5:=by
  intro us
  induction us with
  |nil=>intro ks _ h;exact h
  |cons w us ih=>intro ks hu h;exact ih _ (λv hv=>hu v (ZW _ hv)) (h1 w (hu w (ZZ ..)) _ ks h)
 exact h2 ws [""] hw (λk hk=>by have:k="":=by simpa using hk
                                subst this
                                decide+kernel)
end
end Sx
namespace K40
section
variable{w:World}
noncomputable def top(i:Nat):Stmt:=pw0.main.body.getD i (.Pass ⟨0,0,0,0⟩)
theorem cZ{X:Cx}{f}:(X.mL f).K=X.K:=rfl
theorem lT{t u:TS}{D:Ends}{σ:St}{H:Hp}(h:∀R:St->Hp->Prop,(∀σ H,u D σ H->R σ H)->t (D.Jo R) σ H):Km t u D σ H:=h _ λ_ _ x=>x
theorem b0{x p y q e}:(wcX [.Name x p,.Name y q] e).length=2:=rfl
theorem b4{x p y q z r e}:(wcX [.Name x p,.Name y q,.Name z r] e).length=3:=rfl
structure Txt(mg:Str->Option Value):Prop where
 «all»:mg "all"=none
 «any»:mg "any"=none
 «bool»:mg "bool"=none
 «dict»:mg "dict"=none
 «enum»:mg "enumerate"=none
 «int»:mg "int"=none
 «De»:mg "isinstance"=none
 «len»:mg "len"=none
 «list»:mg "list"=none
 «max»:mg "max"=none
 «min»:mg "min"=none
 «range»:mg "range"=none
 «set»:mg "set"=none
 «sorted»:mg "sorted"=none
 «str»:mg "str"=none
 «sum»:mg "sum"=none
 «tuple»:mg "tuple"=none
structure FP(K:ZK)(C:Addr):Prop where
 cl:zx K C
 dH:bX K C "homes"
 bK:bX K C "weights"
 cf:bX K C "lines"
structure Iy(K:ZK)(C:Addr):Prop where
 cl:zx K C
 bK:bX K C "weights"
 kA:bX K C "splits"
 tP:bX K C "kept"
 Ay:bX K C "last"
structure Iz(K:ZK)(C:Addr):Prop where
 cl:zx K C
 rX:bX K C "signs"
 yO:bX K C "barred"
 lO:bX K C "moves"
 pR:bX K C "lasting"
inductive Vj(g:Str)(ws ss:List Str)(ev:List (Str×Addr))(o:Obj)(x de lt:Addr)(n:Int)(H:Hp)(i:Nat)(σ:St)(H4:Hp):Prop
 |mk (ts:List Addr) (dc:Addr) (v4 v6 v7:Option V) (_:σ=[some (.ref x),some (.int n),some (.ref de),some (.ref dc),v4,some (.ref lt),v6,v7]) (_:ts.length=i+1) (_:ts[i]?=some dc) (_:H4 lt=some (.lst (ts.map V.ref))) (_:∀j t,ts[j]?=some t->H4 t=some (.dK (KW g ws ss j))) (_:H4 de=some (.frz o (.dK (bY ev)))) (_:∀m∈ev,H4 m.2=some (.lst ((gu g ws ss m.1).map V.str))) (_:a7 H H4)
noncomputable def BL(sz:Nat)(e:Str):V->V:=λv=>match v with
 |.str w=>.bl (decide ((w.length:Int)>(sz:Int))&&decide (V.str (cH w sz)=V.str e))
 |_=>.non
theorem Az(sz:Nat)(e:Str)(he:e.length=sz)(ws:List Str):(ws.map V.str).map (BL sz e)=(ws.map λw=>decide (e.length<w.length)&&wdw w e).map V.bl:=by
 rw[ZV,ZV];refine waK λw _=>?_;subst he;show V.bl _=V.bl (decide (e.length<w.length)&&wdw w e);congr 1
 by_cases h:e.length<w.length
 .rw[decide_eq_true h,decide_eq_true (show (w.length:Int)>(e.length:Int) by omega),wcg,wcg,wcC,decide_eq_true_iff,ng];have a:ch (cH w e.length)=(ch w).take e.length:=by unfold cH;rw[yD]
  constructor
  .intro z;have b:cH w e.length=e:=V.str.inj z;rw[<-b,a];exact wdN _ _
  .intro z;have:(ch w).take (ch e).length=ch e:=(wf5.mp z).symm;rw[aJ]at this;exact congrArg V.str (cY (by rw[a,this]))
 .rw[decide_eq_false h,decide_eq_false (show ¬(w.length:Int)>(e.length:Int) by omega)];rfl
def Fw(many:Int)(H:List Str)(W:List Int)(L:List (List (Str×Nat))):List Str->List Int->List (List (Str×Nat))->List rV->Prop
 |hs,ws,lns,[]=>hs=H/\ws=W/\lns=L
 |hs,ws,lns,(d,ns,w)::r=>cK ws lns many (d:Int) (nI ns) w=true/\ns.length<=1000/\Fw many H W L (cm hs d) (bT ws d w) (cE lns d (nI ns)) r
theorem Fw.snoc{many:Int}{H:List Str}{W:List Int}{L:List (List (Str×Nat))}{d:Nat}{ns:List Nat}{w:Int}(ok:cK W L many (d:Int) (nI ns) w=true)(hn:ns.length<=1000):∀{l:List rV} {hs:List Str} {ws:List Int} {lns:List (List (Str×Nat))},Fw many H W L hs ws lns l->Fw many (cm H d) (bT W d w) (cE L d (nI ns)) hs ws lns (l++[(d,ns,w)])
 |[],_,_,_,⟨rfl,rfl,rfl⟩=>⟨ok,hn,rfl,rfl,rfl⟩
 |(_,_,_)::l,_,_,_,⟨a,b,c⟩=>{a,b,Fw.snoc ok hn c}
theorem IA{many:Int}{h0:List Str}{g:List Int}{j:List (List (Str×Nat))}{l:List rV}{hs:List Str}{ws:List Int}{lns:List (List (Str×Nat))}(h:Runs many h0 g j l hs ws lns):Fw many hs ws lns h0 g j l:=by
 induction h with
 |nil=>exact⟨rfl,rfl,rfl⟩
 |snoc _ ok nl a=>exact Fw.snoc ok nl a
theorem pT:∀g:List (Str×Nat),je (g.map gj)<=1
 |[]=>wal _
 |q::g=>by
  show max (dep (gj q)) (je (g.map gj))<=1;exact whh.mpr {ZS 1,pT g}
theorem tQ:∀lns:List (List (Str×Nat)),je (lns.map bG)<=2
 |[]=>wal _
 |l::lns=>by
  show max (dep (bG l)) (je (lns.map bG))<=2;refine whh.mpr {?_,tQ lns};show je (l.map gj)+1<=2;have:=pT l;omega
theorem xq{α:Type}(f:α->V):∀g:List α,je (g.map λz=>gL.at (f z))<=0
 |[]=>ZS _
 |z::g=>by
  show max (dep (gL.at (f z))) (je (g.map λz=>gL.at (f z)))<=0;exact whh.mpr {ZS 0,xq f g}
theorem AA(hs:List Str)(ws:List Int)(lns:List (List (Str×Nat))):je [jK hs,ic ws,fT lns]<=50:=by
 show max (dep (jK hs)) (max (dep (ic ws)) (max (dep (fT lns)) 0))<=50;have a:dep (jK hs)<=1:=wdO (xq V.str hs);have b:dep (ic ws)<=1:=wdO (xq V.int ws);have c:dep (fT lns)<=3:=wdO (tQ lns);omega
theorem IB{bw:List Str}{n b:Nat}(h:iT bw n b)(hw:∀w∈bw,1<=w.length){M:Int}(g:M∈(bw.map λw:Str=>(w.length:Int))++[1])(j:∀a∈(bw.map λw:Str=>(w.length:Int))++[1],a<=M):(M-1+(n:Int)-1)/(n:Int)=(b:Int):=by
 obtain⟨_,N,⟨u,a⟩,e⟩:=h;have m1:=j 1 (war _ (wa4.mpr rfl))
 have:(if 0>N-1 then 0 else N-1)=M-1:=by
  rcases a with⟨a1,a2⟩ |⟨w,c,a⟩
  .rw[a2]at g;have:M=1:=wa4.mp g;rw[if_pos (by lia)]
   lia
  .have f:=hw w c;have i:=j _ (waG _ (ZR.mpr ⟨w,c,rfl⟩))
   have k:M<=N:=by
    rcases waj.mp g with h |h
    .obtain⟨z,d,rfl⟩:=ZR.mp h;exact u z d
    .rw[wa4.mp h];lia
   rw[if_neg (by lia)]
   lia
 rw[e,this]
theorem Nw:∀st:Fin 36,∀sp∈[1,5,7,11,13,35],∀n∈[2,3,4],((kr st sp n).Nodup/\∀c∈kr st sp n,c∈ch fk):=∅
theorem yP{st sp n:Nat}{x:Str}(j:st<36)(hs:sp∈[1,5,7,11,13,35])(hn:n∈[2,3,4])(g:ch x=kr st sp n):vT x:=by
 obtain⟨a,b⟩:=Nw ⟨st,j⟩ sp hs n hn;have hl:x.length=n:=by grind [aJ,kr,ZI]
 have c:n=2\/n=3\/n=4:=by simpa using hn
 exact{by lia,by lia,by rw[g];exact a,by rw[g];exact b}
theorem La:∀d:Int,0<=d->d<8->∃n:Nat,uG ([.int 2,.int 2,.int 2,.int 3,.int 2,.int 4,.int 2,.int 3]:List V) d=some (.int (n:Int))/\n∈[2,3,4]:=under 8 λk=>{[2,2,2,3,2,4,2,3].getD k.val 0,by revert k;decide,by revert k;decide}
theorem Lb:∀d:Int,0<=d->d<6->∃n:Nat,uG ([.int 1,.int 5,.int 7,.int 11,.int 13,.int 35]:List V) d=some (.int (n:Int))/\n∈[1,5,7,11,13,35]:=under 6 λk=>{[1,5,7,11,13,35].getD k.val 0,by revert k;decide,by revert k;decide}
theorem Lc:∀d:Int,0<=d->d<8->∃n:Nat,uG ([.int 0,.int 1,.int 2,.int 3,.int 1,.int 2,.int 3,.int 6]:List V) d=some (.int (n:Int))/\n<=6:=under 8 λk=>{[0,1,2,3,1,2,3,6].getD k.val 0,by revert k;decide,by revert k;decide}
theorem Ld:∀d:Int,0<=d->d<8->∃n:Nat,uG ([.int 2,.int 3,.int 4,.int 2,.int 3,.int 4,.int 1,.int 5]:List V) d=some (.int (n:Int))/\1<=n/\n<=5:=under 8 λk=>{[2,3,4,2,3,4,1,5].getD k.val 0,by revert k;decide,by revert k;decide}
theorem IC{xs:List Int}(h:xs.length=4):∃a b c d,xs=[a,b,c,d]:=by
 match xs,h with
 |[a,b,c,d],_=>exact⟨a,b,c,d,rfl⟩
theorem FQ{n:Nat}{many wide:Int}(r:2<=n)(l:n<=4)(p:2<=many)(m8:many<=8)(g:1<=wide)(j:wide<=6)(h:2<n->wide<=3):eU n many wide:=by
 have key:∀(m:Fin 5) (k:Fin 7),(2<m.val->k.val<=3)->(m.val:Int)^k.val<=64:=⋯;obtain⟨k,rfl⟩:=wf3 (wdp ⋯ g);exact{p,m8,g,j,key {n,wgK l} {k,wgK (Int.ofNat_le.mp j)} λz=>Int.ofNat_le.mp (h z)}
noncomputable def Qp:List (Int×Int):=[(2,2),(2,3),(4,3),(3,3),(2,4),(3,2),(5,3),(8,5),(2,1),(6,4),(7,5),(7,6)]
theorem Le:∀d:Int,0<=d->d<12->∃p,Qp[d.toNat]?=some p/\2<=p.1/\p.1<=8/\1<=p.2/\p.2<=6:=under 12 λk=>{Qp.getD k.val (0,0),by revert k;decide}
theorem vZ(ws:List Str):nG (ws.map V.str) (ws.map V.str)=true:=by
 induction ws with
 |nil=>rfl
 |cons w ws a=>
  show (k9 (.str w) (.str w)&&nG _ _)=true;rw[a,wg5];exact decide_eq_true rfl
end
theorem d1{CX P w K mg base N q g f cd A o s H E}:(sE CX P w K mg base N q g f cd A o s H E).K=K:=rfl
section
variable{K:ZK}
inductive Df(K:ZK)(vs:List V)(H:Hp)(Q:VK)(eC:XK):Prop
 |mk (i) (_:vs=[.int i]) (_:Q (.bl true) H)
end
end K40
namespace Bs
theorem tR{α:Type}[DecidableEq α]:∀{ks l:List α},ks.Nodup->(∀k∈ks,k∈l)->ks.length<=l.length
 |[],l,_,_=>wal _
 |k::ks,l,nd,h=>by
  rw[waZ]at nd;have hk:=h k (ZZ ..);have:=tR (l:=l.erase k) nd.2 λj a=>(List.mem_erase_of_ne (λz=>nd.1 (by rw[<-z];exact a))).mpr (h j (ZW _ a));rw[List.length_erase_of_mem hk]at this;have:0<l.length:=List.length_pos_of_mem hk;rw[wan]
  lia
theorem tS(p:Str)(z:Str×Nat)(f:Str->List (Str×Nat)):∀hs:List Str,hs.Nodup->gg p z hs (hs.map f)=if p∈hs then(f p).count z else 0
 |[],_=>rfl
 |h::hs,nd=>by
  rw[waZ]at nd;show (if h=p then(f h).count z else 0)+gg p z hs (hs.map f)=_;rw[tS p z f hs nd.2]
  by_cases e:h=p
  .grind
  .grind
theorem AB{g:List (Str×Str)}{hs:List Str}(nd:g.Nodup)(hn:hs.Nodup)(w:Str)(e:Nat) :
 (((g.filter λq=>decide (q.2∈hs)).map λq=>(q.1,hs.idxOf q.2)):List (Str×Nat)).count (w,e)=if e<hs.length/\(w,hs.getD e "")∈g then 1 else 0:=by
 have inj:∀q∈g.filter (λq=>decide (q.2∈hs)),((q.1,hs.idxOf q.2):Str×Nat)=(w,e)↔(e<hs.length/\q=(w,hs.getD e "")):=λq a=>by
  grind
 have gen:∀L:List (Str×Str),L.Nodup->(∀q∈L,((q.1,hs.idxOf q.2):Str×Nat)=(w,e)↔(e<hs.length/\q=(w,hs.getD e "")))->(L.map λq=>((q.1,hs.idxOf q.2):Str×Nat)).count (w,e)=if e<hs.length/\(w,hs.getD e "")∈L then 1 else 0:=by
  intro L
  induction L with
  |nil=>grind
  |cons q L b=>
   grind
 rw[gen _ (nd.filter _) inj];refine Oz {λz=>{z.1,(wa6.mp z.2).1},λz=>{z.1,wa6.mpr {z.2,decide_eq_true ?_}}};rw[ZL,ZJ z.1];exact wah _
theorem AD(ws:List Int)(g:List (Str×Nat)){ns:List Nat}(nd:ns.Nodup)(j:∀n∈ns,n<g.length):b8 ws (aW (ns.map λn:Nat=>(n:Int)) g)=(ns.map λi=>ws.getD (g.getD i ("",0)).2 0).sum:=by
 unfold aW;rw[vN];refine F4 (List.Perm.map _ (A8 ((List.nodup_range' ..).filter _) nd λx=>?_));rw[wa6,wgG,decide_eq_true_eq,ZR];constructor
 .grind
 .grind
theorem Dg{many h w:Int}{hs:List Str}{ws:List Int}{lns:List (List (Str×Nat))}(S:ib many hs ws lns){d i0:Nat}{g:List (Str×Nat)}{ns:List Nat}(T:∀w∈ws,w<=h)(hd:lns[d]?=some g)(hw:ws.getD d 0=h)(m1:1<=many)
 (nd:ns.Nodup) (t:∀n∈ns,n<g.length) (C:ns≠[]) (J:(ns.length:Int)<=many) (r:(ns.length:Int)=many->i0∈ns) (I:ws.getD (g.getD i0 ("",0)).2 0<h)
 (j:(ns.map λi=>ws.getD (g.getD i ("",0)).2 0).sum=many*w):cK ws lns many (d:Int) (ns.map λn:Nat=>(n:Int)) w=true:=by
 have k:=S.w;have q:=S.l;have s:d<lns.length:=(ZO.mp hd).1;have m:lns.getD d []=g:=by rw[ZL,hd];rfl
 have o:g∈lns:=ZT hd
 have a:∀i,i<g.length->ws.getD (g.getD i ("",0)).2 0∈ws:=λi hi=>by
  have e:g.getD i ("",0)=g[i]:=by rw[ZL,ZJ hi];rfl
  rw[e];exact iS (by rw[k];exact S.e g o _ (wah hi))
 have c:∀n∈ns,1<=ws.getD (g.getD n ("",0)).2 0:=λn hn=>S.p _ (a n (t n hn));have f:∀n∈ns,ws.getD (g.getD n ("",0)).2 0<=h:=λn hn=>T _ (a n (t n hn));have u:=tf ns c C;rw[j]at u
 have x:1<=w:=by
  by_cases z:1<=w
  .exact z
  .have:=Int.mul_nonpos_of_nonneg_of_nonpos (show 0<=many by lia) (show w<=0 by lia)
   lia
 have H:1<=h:=by rw[<-hw];exact S.p _ (iS (by lia))
 have L:w<h:=by
  have lt:many*w<many*h:=by
   rw[<-j]
   by_cases z:(ns.length:Int)=many
   .have:=tK ns f (r z) I;rw[z]at this;exact this
   .have y:=n7 ns f;have A:((ns.length:Int)+1)*h<=many*h:=Int.mul_le_mul_of_nonneg_right (by lia) (by lia);rw[wfx]at A
    lia
  exact Int.lt_of_mul_lt_mul_left lt (by lia)
 have c1:=AD ws g nd t;rw[j]at c1;have M:=CF ws (ns.map λn:Nat=>(n:Int)) g;have b:=S.b d g hd;rw[hw]at b
 have B:many*(h-w)<=b8 ws (aV (ns.map λn:Nat=>(n:Int)) g):=by
  rw[Int.mul_sub]
  lia
 have part:∀(l:List (Str×Nat)) (v:Int),1<=v->many*v<=b8 ws l->eG ws many l v=true:=λl v D hl=>by
  have hn:l≠[]:=λz=>by
   rw[z]at hl;have y:many*v<=0:=hl;have:=Int.mul_pos (show 0<many by lia) (show 0<v by lia)
   lia
  unfold eG;rw[decide_eq_true D,decide_eq_true hl]
  cases l with
  |nil=>exact absurd rfl hn
  |cons _ _=>rfl
 unfold cK;rw[wae,m,hw,part _ w x (Int.le_of_eq c1.symm),part _ (h-w) (by lia) B];have E:eM (d:Int) lns.length=true:=by unfold eM;rw[decide_eq_true (by lia),decide_eq_true (by lia)];rfl
 have G:(ns.map λn:Nat=>(n:Int)).all (λi=>eM i g.length)=true:=waq.mpr λi hi=>by
  obtain⟨n,hn,rfl⟩:=ZR.mp hi;have:=t n hn;unfold eM;rw[decide_eq_true (by lia),decide_eq_true (by lia)];rfl
 rw[E,G];rfl
theorem kB{n:Nat}{g:List Nat}(nd:g.Nodup)(h:∀r∈g,r<n):g.length<=n:=by
 have:=tR nd λr a=>waM.mpr (h r a);rwa[wau]at this
theorem AF{many:Int}{p:Nat->Int}{n:Nat}(h0:0<many)(hn:(n:Int)=many)(hd:∀i k,i<k->k<=n->p i%many≠p k%many):False:=by
 have nd:((wak (n+1)).map λi=>(p i%many).toNat).Nodup:=nodup_map_on weV λa ha b c e=>by
  have ha:=waM.mp ha;have c:=waM.mp c;have a0:=wbi (p a) (show many≠0 by lia);have f:=wbi (p b) (show many≠0 by lia);have g:p a%many=p b%many:=by grind
  rcases weI a b with h |h |h
  .grind
  .exact h
  .grind
 have:=kB (n:=n) nd λr d=>by
  obtain⟨i,_,rfl⟩:=ZR.mp d;have a0:=wbi (p i) (show many≠0 by lia);have a1:=wb8 (p i) h0;show (p i%many).toNat<n
  lia
 rw[ZI,wau]at this
 lia
structure rY(g:Str)(ws ss ls:List Str)(many:Int)(n:Nat)(f:Str->Int):Prop where
 gr:∃most:Int,1<=most/\most<=8/\m4 g ws ss ls many n most f/\∀(m:Int) (h:Str->Int),1<=m->m<most->m4 g ws ss ls many n m h->(ls.map h).sum=0
 ps:0<(ls.map f).sum
 le:(ls.map f).sum<=40
def xr(g:Str)(ws ss ls:List Str)(many:Int)(n:Nat):Prop:=∃most:Int,1<=most/\most<=9/\(∀(m:Int) (h:Str->Int),1<=m->m<most->m4 g ws ss ls many n m h->(ls.map h).sum=0)/\(most=9\/∃f,m4 g ws ss ls many n most f/\40<(ls.map f).sum)
theorem Dh{f h:Str->Int}(a:m4 g ws ss ls many n most f)(b:m4 g ws ss ls many n most h):∀p∈ls,f p=h p:=λp c=>by
 have d:=a.top h b.le b.fit p c;have e:=b.top f a.le a.fit p c
 lia
theorem Di{f h:Str->Int}(a:m4 g ws ss ls many n most f)(b:m4 g ws ss ls many n most h):(ls.map f).sum=(ls.map h).sum:=congrArg List.sum (waK λp c=>Dh a b p c)
theorem yQ{α:Type}[DecidableEq α]{l a:List α}(h:a.Sublist l):l.Nodup->l.filter (λx=>decide (x∈a))=a:=by
 induction h with
 |slnil=>exact λ_=>rfl
 |@cons a l x h b=>
  intro nd;rw[waZ]at nd;rw[waJ (by simpa using λz=>nd.1 (h.subset z))];exact b nd.2
 |@cons_cons a l x h b=>
  intro nd;rw[waZ]at nd;rw[waC (by simp)];refine congrArg (x :: ·) (wcU (weH λy d=>?_) (b nd.2));have c:y≠x:=λz=>nd.1 (z ▸ d);simp[c]
theorem sub_one{α:Type}[DecidableEq α]{l a b:List α}(ha:a.Sublist l)(g:b.Sublist l)(nd:l.Nodup)(h:∀x,x∈a↔x∈b):a=b:=by
 have e:(λx=>decide (x∈a))=(λx=>decide (x∈b)):=funext λx=>decide_eq_decide.mpr (h x);rw[<-yQ ha nd,e,yQ g nd]
section
variable{g:Str}
theorem w4(nd:(ch g).Nodup):∀n,(KU g n).Nodup
 |0=>waZ.mpr {λz=>(nomatch z),wco}
 |n+1=>by
  show ((ch g).flatMap λc=>(KU g n).map λr=>({#[c]}:Str)++r).Nodup;have l:=w4 nd n
  have key:∀f:List Nat,f.Nodup->(f.flatMap λc=>(KU g n).map λr=>({#[c]}:Str)++r).Nodup:=by
   intro f
   induction f with
   |nil=>intro _;exact wco
   |cons c f i=>
    intro hn;rw[waZ]at hn;rw[wdD];refine weG.mpr {?_,i hn.2,λa ha b m z=>?_}
    .refine List.Pairwise.map _ ?_ l;intro a b j z;have:=congrArg ch z;rw[bx,bx]at this;exact j (cY (List.append_cancel_left this))
    .obtain⟨r,_,rfl⟩:=ZR.mp ha;obtain⟨d,hd,k⟩:=wd3.mp m;obtain⟨q,_,rfl⟩:=ZR.mp k;have:=congrArg ch z;rw[bx,bx,Fh,Fh]at this
     have e:c=d:=by
      have h:=this;rw[wfI,wfI]at h;exact(wdJ h).1
     exact hn.1 (by rw[e];exact hd)
  exact key _ nd
end
end Bs
namespace L2
open PySem.Spec PyProof.Rows PySem.Calls
section
variable{prog:wad}{w:World}{A:Around}
theorem qt:∀ns:List Int,preSum (λi=>ns.getD i 0) ns.length=ns.sum
 |[]=>rfl
 |n::ns=>by
  show preSum (λi=>(n::ns).getD i 0) (ns.length+1)=n+ns.sum;rw[PySem.W.kdu_shift,<-qt ns];rfl
theorem gk{h h':Heap}{p:Addr}{g:Array Value}(e:h.IsList p g)(hk:∀b o,h.get? b=some o->h'.get? b=some o):h'.IsList p g:=let ⟨o,a,r⟩:=e;{o,hk _ _ a,r}
noncomputable abbrev JF(t:Tok):List (Str×Value):=[(wbU "start",.int 1 t)]
theorem FR(l:Addr)(t:Tok):checkTypeCall "enumerate" {[.ref l],JF t}=pure .unit:=by kernel_rfl
theorem FT(l:Addr)(t:Tok):wdP "enumerate.__new__" {[.type "enumerate",.ref l],JF t}=pure .unit:=by kernel_rfl
theorem AG(o l:Addr)(t:Tok):argsOk "object.__init__" {[.ref o,.ref l],JF t}:=by unfold argsOk;kernel_rfl
theorem AH{P:Nat->Value->Prop}{St:Nat->Heap->Prop}(D:Draws prog w A it g n P St):Draws prog w A it g (n+1) (λj v=>∃i,j=i+1/\P i v) (λj h=>∃i,j=i+1/\St i h) where
 live:=λ_ _ {i,_,st}=>D.live i _ st
 frame:=λ_ h a ⟨i,e,st⟩ hk=>{i,e,D.frame i h a st hk}
 item:=λ_ s Q E k ⟨i,e,st⟩ b=>D.item i s Q E (by lia) st λx a c d hs sb=>b x a c ⟨i,e,d⟩ {i+1,by lia,hs} sb
 done:=λs Q E ⟨i,e,st⟩ f=>D.done s Q E ((show n=i by lia) ▸ st) f
theorem Dj(g:A.handled=none)(it l:Addr)(items:Array Value)(i:Nat)(p:items[i]?=none):Draws prog w A it [it,l] (i+1) (λ_ _=>False) (λj h=>j=i+1/\h.IsListIter it l i/\h.IsList l items) where
 live:=λ_ _ {_,st,_}=>let ⟨o,a,_⟩:=st;⟨o,a⟩
 frame:=λ_ _ _ ⟨e,st,sl⟩ hk=>{e,st.at λo q=>hk it (by simp) o q,sl.at λo q=>hk l (by simp) o q}
 item:=λ_ _ _ _ b {e,_} _=>absurd e (wa8 b)
 done:=λ_ _ _ {_,st,sl} c=>wpAny_nextOf_list_end g st sl p c
noncomputable def FU(K:ZK)(a:Addr):It:=
 {λi H=>∃xs x,aK K H a xs/\xs[i]?=some x,λi H x H'=>∃T xv,H T=none/\x=.ref T/\H'=upd H T (.tup [.int ((i+1:Nat):Int),xv])/\∀xs,aK K H a xs->xs[i]?=some xv,λi H=>∃xs,aK K H a xs/\xs.length<=i}
def Lf(K:ZK)(ta:TA):TI:=λσ H R=>ta σ H λvs H1=>∃a xs,vs=[.ref a]/\aK K H1 a xs/\R (FU K a) H1
theorem Dk{K:ZK}{a:Addr}{xs:List V}{g:TG}{C:TS}{D:Ends}{σ:St}{H:Hp}(Pv:Nat->St->Hp->Prop)(h0:Pv 0 σ H)(hl:∀i σ H,i<=xs.length->Pv i σ H->aK K H a xs)
 (hs:∀i x σ H T,xs[i]?=some x->Pv i σ H->H T=none->g (.ref T) σ (upd H T (.tup [.int ((i+1:Nat):Int),x])) λj t=>C (D.lp (Pv (i+1))) j t) (hd:∀σ H,Pv xs.length σ H->D.nx σ H) :
 ∃W:Nat->Nat->St->Hp->Prop,(∃m,W 0 m σ H)/\∀i m σ H,W i m σ H ->
  ((FU K a).stop i H/\D.nx σ H)\/((FU K a).go i H/\∃N:St->Hp->Prop,(∀l r,N l r->∃I,I<m/\W (i+1) I l r)/\∀x r,(FU K a).uC i H x r->g x σ r λj t=>C (D.lp N) j t):=by
 refine{λi m σ H=>m=xs.length-i/\i<=xs.length/\Pv i σ H,{xs.length,by simp,wal _,h0},?_};rintro i m σ H ⟨rfl,hi,p⟩;have q:=hl i σ H hi p
 by_cases b:i<xs.length
 .refine .inr {{xs,xs[i],q,by simp[b]},Pv (i+1),λl r c=>{xs.length-(i+1),by lia,rfl,b,c},λx r y=>?_};obtain⟨T,d,f,h,k,y⟩:=y;subst h k;exact hs i d σ _ T (y xs q) p f
 .have e:i=xs.length:=by lia
  subst e;exact .inl {{xs,q,ZS _},hd σ H p}
end
section
variable{t:TA}
def Nx(K:ZK)(t:TA):TE:=λσ H Q=>t σ H λvs H1=>∃(a:Addr) (ps:List Addr),vs=[.ref a]/\aK K H1 a (ps.map V.ref)/\ps≠[]/\(∀q∈ps,∃ys,aK K H1 q ys)/\∀q∈ps,Q (.ref q) H1
theorem AI{P:wad}{w:World}{K:ZK}{r:List Expr}{k:Nat}{pos:Pos}(a e it:Addr)(g:e≠it)(J:a≠it):Turn P w K (.Tuple r k pos) (FU K a) [e,it] e (λi h=>(∃old,IsEnum h e it ((i+1:Nat):Int) old)/\h.IsListIter it a i) where
 mem:=by simp
 obj:=λi h st b n=>by
  obtain⟨⟨old,c⟩,o,l,hc,hd⟩:=st;rcases wao.mp n with z |n
  .exact{_,z ▸ c,λv q=>by
    have q':wfq _=wgp v:=q
    cases q'}
  .exact{o,wa4.mp n ▸ l,λv q=>by rw[hd]at q;cases q}
 keep:=λi h V st k=>{st.1.imp λold c=>k e (by simp) _ c,st.2.at λo q=>k it (by simp) o q}
 item:=by
  intro X G hw L hc i t s σ H E I M st N;subst G hw L;obtain⟨xs,x,D,O⟩:=N;obtain⟨d,Q,p,hz⟩:=I.list D;obtain⟨u,Y,ru⟩:=Q.get O;obtain⟨⟨old,c⟩,hit⟩:=st
  have R:e≠a:=λz=>by
   obtain⟨o,l,S,_⟩:=p.isList;have f:=c;rw[z]at f;rw[f]at l;cases l;have q:wdY "enumerate"=.type "list":=S;injection q with q
   exact absurd q ⋯
  have Vk:i<d.length:=(ZO.mp Y).1;refine wpAny_pyNext_enum_itemD (i:=i+1) (AH (Draws.list (A:=X.A.in1) (I.ok.hd hc) it a J d.toArray)) c ⟨i,rfl,hit,p.isList⟩ (by rw[wa3];lia) g (by simp[g,R]) λy V tk m l T hT hsz hk=>?_;obtain⟨Z,e1,m⟩:=m;obtain⟨i2,e2,B,Vl⟩:=T;have e1:Z=i:=by lia
  have e2:i2=i+1:=by lia
  subst e1 e2
  have ey:y=u:=by
   rw[List.getElem?_toArray,Y]at m;exact(ZU m).symm
  subst ey;refine{_,rfl,wew l λVb f j=>?_};obtain⟨_,U,_⟩:=id hit;have C:e<s.heap.objs.size:=ZX c;obtain⟨fr,I1,hn⟩:=ym (y:=.int ((Z+1:Nat):Int)) (tk+1) I M (λb o h q=>(j.2 b (Ch h).1).trans (hk b o (Ch h).1 (Ch h).2 q)) ((j.2 _ (wc3 C)).trans hT) {_,rfl} ru (MA C (ZX U));exact{.ref s.heap.objs.size,_,I1,rfl,{s.heap.objs.size,x,fr,rfl,rfl,λys m=>by rw[I.sH m D];exact O},{{y,by simpa using f},B.at λo q=>(j.2 it (wb4 g)).trans q},hn}
 done:=by
   intro X G hw L hc i t s σ H E I M st N;subst G hw L;obtain⟨xs,D,O⟩:=N;obtain⟨d,Q,p,hz⟩:=I.list D;have hl:=Q.length;obtain⟨⟨old,c⟩,hit⟩:=st;obtain⟨g0,g1,g2,g3,g4,g5⟩:=M it (by simp);exact wpAny_pyNext_enum_endD (Dj (A:=X.A.in1) (I.ok.hd hc) it a d.toArray i (wfu (by simp;lia))) c ⟨rfl,hit,p.isList⟩ λV eb=>{rfl,I.turned (t':=s.toks) (λb o n e=>eb b o n e) g0 g1 g3 g4 g5}
 self:=λ_ _ _ _ _ st h=>let ⟨⟨_,c⟩,_⟩:=st;wdB c h
end
section
variable{prog:wad}{w:World}{A:Around}{s:Shared}{l I S:Addr}{vs:List Value}{R:wdF->Shared->Prop}
theorem xt(kf:Nat->Int)(hh:A.handled=none)(hl:s.heap.IsList l vs.toArray)(hI:I=s.heap.objs.size)(Lg:S≠I)(Vm:s.heap.objs.size<=S)
 (turn:∀(i:Nat) (v:Value),vs[i]?=some v->∃p items,v=.ref p/\s.heap.IsList p items/\(items.size:Int)=kf i/\(items.size:Int)<2^63)
 (hR:∀(v:Value) (h':Heap) (AJ:Nat),v∈vs->(∀b o,s.heap.get? b=some o->h'.get? b=some o)->R (.ok (.ret v)) {s with heap:=h',toks:=AJ}) :
 ∀(r j i:Nat) (h:Heap) (tk:Nat) (vb:Value) (tb:Tok) (c:Nat),vs.length-(j+1)=r->j+1<=vs.length->(∀b o,s.heap.get? b=some o->h.get? b=some o) ->
  h.get? S=some (seqObj "list" #[vb,.int (kf i) tb] c)->h.IsListIter I l (j+1)->vs[i]?=some vb ->
  codeAny (model prog w) A (.builtin "min.loop" {[.ref I,.builtin "len",.ref S],[]}) R {s with heap:=h,toks:=tk}:=by
 have yR:(toString "min"++toString ".loop":String)="min.loop":=⋯;have zz:l<s.heap.objs.size:=let ⟨o,ho,_⟩:=hl;ZX ho
 have Ny:l≠I:=by rw[hI];exact wa8 zz
 have W:=weL (prog:=prog) (w:=w) (A:=A.in1) hh I l Ny vs.toArray;have hsz:vs.toArray.size=vs.length:=wa3 ..
 have old:∀{b:Addr} {o:Obj},s.heap.get? b=some o->b≠S/\b≠I:=λ{b o} e=>by
  have hb:b<s.heap.objs.size:=ZX e;exact{wa8 (wa7 hb Vm),by rw[hI];exact wa8 hb}
 intro r
 induction r with
 |zero=>
  intro j i h tk vb tb c hr hj mono nS hit Qq;have Vn:j+1=vs.length:=();refine wbg wdH ?_;rw[wb7 wbp _];show wpAny _ A.in1 (wdV (.ref S) >>= _) _ _ _;refine ZN (wcq nS rfl ?_);show wpAny _ A.in1 (tryCatch (pyNext (.ref I)) _ >>= _) _ _ _;refine ZN (wbq (W.done _ _ _ {by rw[hsz,<-Vn];exact hit,gk hl mono} λh' AJ GI=>?_));have Vo:=GI S _ (by simpa using Lg) nS;have s1:=wef h' S (wci λ_=>(#[]:Array Value));show wpAny _ A.in1 (wgy S (λ_=>#[]) >>= _) _ _ _;refine ZN ?_;refine wcJ Vo rfl (ZN (wcP (waa ?_)));exact hR vb _ _ (ZT Qq) λb o e=>(s1.2 b (old e).1).trans (GI b o (by simpa using(old e).2) (mono b o e))
 |succ r ih=>
  intro j i h tk vb tb c hr hj mono nS hit Qq;have Lh:j+1<vs.length:=();refine wbg wdH ?_;rw[wb7 wbp _];show wpAny _ A.in1 (wdV (.ref S) >>= _) _ _ _;refine ZN (wcq nS rfl ?_);show wpAny _ A.in1 (tryCatch (pyNext (.ref I)) _ >>= _) _ _ _;refine ZN (wbq (W.item (j+1) _ _ _ (by rw[hsz];exact Lh) {hit,gk hl mono} λv h' AJ hP IE GI=>?_));have hv:vs[j+1]?=some v:=by simpa using hP
  have w6:∀b o,s.heap.get? b=some o->h'.get? b=some o:=λb o e=>GI b o (by simpa using(old e).2) (mono b o e);have M3:=GI S _ (by simpa using Lg) nS;obtain⟨p,items,rfl,hp,Qr,Li⟩:=turn (j+1) v hv;show wpAny _ A.in1 (tryCatch (holding [ZY p] (call (.builtin "len") [.ref p])) _ >>= _) _ _ _;refine ZN (wbq (wb0 (wed (gk hp w6) Li ?_)));rw[Qr];show wpAny _ A.in1 (tryCatch (holding [ZY p,.int (kf (j+1)) _] (richCompare .Lt (.int (kf (j+1)) _) (.int (kf i) tb) >>= _)) _ >>= _) _ _ _;refine ZN (wbq (wb0 (ZN (CmpOf.ints_lt (prog:=prog) (w:=w) (A:=A.in1) (P:=λi v=>∃t,v=.int (kf i) t) kf (λi v h=>h) (j+1) i _ _ _ _ _ {_,rfl} ⟨tb,rfl⟩ ?_))));refine ZN (wb0 (wb2 ?_));refine ZN (wcP (waa ?_))
  by_cases FV:kf (j+1)<kf i
  .simp only[FV,decide_true,if_true];refine ZN ?_;refine wcJ M3 rfl (ZN (wcP ?_));rw[yR];have s1:=wef h' S (wci λ_=>#[ZY p,.int (kf (j+1)) (AJ+1)]);obtain⟨c2,Qs⟩:∃c2,(h'.update S (wci λ_=>#[ZY p,.int (kf (j+1)) (AJ+1)])).get? S=some (seqObj "list" #[ZY p,.int (kf (j+1)) (AJ+1)] c2):={_,get?_update_seq M3 λ_=>#[ZY p,.int (kf (j+1)) (AJ+1)]};refine waa {wbI wbp _,ih (j+1) (j+1) _ _ _ _ c2 () Lh (λb o e=>(s1.2 b (old e).1).trans (w6 b o e)) Qs ?_ hv};obtain⟨Qt,Lj,Qu⟩:=id IE.1;exact{Qt,(s1.2 I Lg.symm).trans Lj,Qu}
  .simp only[FV,decide_false,wbw,if_false];refine ZN (wcP ?_);rw[yR];exact waa {wbI wbp _,ih (j+1) i _ _ vb tb c () Lh w6 M3 IE.1 Qq}
end
end L2
namespace AC
section
variable{W:List (List Nat)}{P:List Nat->Bool}{l:List Nat}{c:Nat}
def Good(W:List (List Nat))(l:List Nat):Prop:=∀w∈W,¬w <:+: l
noncomputable def ju(P:List Nat->Bool):List Nat->List Nat
 |[]=>[]
 |a::l=>if P (a::l)=true then a::l else ju P l
theorem iV:∀l,ju P l <:+ l
 |[]=>weZ _
 |a::l=>by
  unfold ju;split
  .exact weZ _
  .exact(iV l).trans (List.suffix_cons a l)
theorem tT(h0:P []=true):∀l,P (ju P l)=true
 |[]=>h0
 |a::l=>by
  unfold ju;split
  .assumption
  .exact tT h0 l
theorem AK(h:w <:+: l++[c]):w <:+: l\/w <:+ l++[c]:=by
 obtain⟨a,b,e⟩:=h;rcases wfJ b with f |⟨g,d,f⟩
 .grind
 .grind [wh3]
end
section
variable{W:List (List Nat)}{p l u:List Nat}{c:Nat}{P:List Nat->Bool}{q:List Nat}
def Pl(W:List (List Nat))(p:List Nat):Prop:=p=[]\/((∃w∈W,p <+: w/\p.length<w.length)/\Good W p)
theorem FW(g:p <:+ q)(j:q <:+ p):p=q:=g.eq_of_length (whf g.length_le j.length_le)
end
section
variable{W:List (List Nat)}{l m:List Nat}
theorem Good.sub(h:Good W l)(hs:m <:+: l):Good W m:=λw hw hi=>h w hw (hi.trans hs)
end
section
variable{W:List (List Nat)}{u:List Nat}{c:Nat}{P:List Nat->Bool}{l q:List Nat}
theorem Pl.init(h:Pl W (u++[c])):Pl W u:=by
 rcases h with h |⟨⟨w,hw,a,hl⟩,b⟩
 .simp at h
 .by_cases e:u=[]
  .exact .inl e
  .refine .inr {{w,hw,(wdq u [c]).trans a,?_},b.sub (wdq u [c]).isInfix};rw[ZP]at hl;simp at hl
   lia
theorem iW(g:P q=true):∀{l},q <:+ l->q <:+ ju P l
 |[],h=>h
 |a::l,h=>by
  unfold ju;split
  .exact h
  .rename_i hn;rcases List.suffix_cons_iff.mp h with e |h
   .grind
   .exact iW g h
end
section
variable{l q u:List Nat}{c:Nat}
theorem yS:∀{q l:List Nat},q <:+ l++[c]->q=[]\/∃u,q=u++[c]/\u <:+ l:=λ{q l} h=>by
 rcases wfJ q with e |⟨u,d,e⟩
 .exact .inl e
 .right
  rw[List.concat_eq_append]at e;obtain⟨t,a⟩:=h;subst e;rw[<-waX]at a;have b:=wh3 a rfl;have hd:d=c:=by grind
  exact{u,by rw[hd],t,b.1}
end
section
variable{W:List (List Nat)}{P:List Nat->Bool}{l:List Nat}{c:Nat}
theorem Dl(r:∀x,P x=true↔Pl W x)(j:Good W l)(g:∀w∈W,w≠[]):Good W (ju P l++[c])↔Good W (l++[c]):=by
 have hs:=iV (P:=P) l;constructor
 .intro h w hw hi;rcases AK hi with z |z
  .exact j w hw z
  .rcases yS z with e |⟨u,rfl,d⟩
   .exact g w hw e
   .have a:Pl W u:=by
     by_cases e:u=[]
     .exact .inl e
     .exact .inr {{_,hw,wdq u [c],by simp},j.sub d.isInfix}
    have:=iW ((r u).mpr a) d;obtain⟨t,b⟩:=this;exact h _ hw (show u++[c] <:+ ju P l++[c] from {t,by rw[<-waX,b]}).isInfix
 .intro h;obtain⟨t,b⟩:=hs;exact h.sub (show ju P l++[c] <:+ l++[c] from {t,by rw[<-waX,b]}).isInfix
theorem AO(g:∀x,P x=true↔Pl W x)(j:Good W l):ju P (ju P l++[c])=ju P (l++[c]):=by
 have hs:=iV (P:=P) l;have h0:P []=true:=(g []).mpr (.inl rfl)
 have b:ju P l++[c] <:+ l++[c]:=by
  obtain⟨t,d⟩:=hs;exact{t,by grind}
 refine FW (iW (tT h0 _) ((iV _).trans b)) (iW (tT h0 _) ?_);rcases yS (iV (P:=P) (l++[c])) with e |⟨u,e,f⟩
 .rw[e];exact List.nil_suffix
 .have a:=(g _).mp (tT h0 (l++[c]));rw[e]at a ⊢;obtain⟨t,d⟩:=iW ((g u).mpr a.init) f;exact{t,by grind}
end
end AC
open AC
namespace Bs
theorem cP(ws:List Str)(r:Str):bears ws r=false↔Good (wl ws) (ch r):=by simp_all [bears,Good,wl,wez,HS,ch]
theorem mem_keys:k∈bJ ws "" ws↔Pl (wl ws) (ch k):=by
 rw[iC];constructor
 .rintro(rfl |⟨w,hw,i,hi,e,a⟩)
  .exact .inl rfl
  .right
   refine{{ch w,ZR.mpr ⟨w,hw,rfl⟩,?_,?_},(cP ws k).mp a}
   .rw[e,jn];exact wdN _ _
   .rw[e,jn,wa5,aJ];omega
 .rintro(h |⟨⟨v,b,c,hl⟩,d⟩)
  .exact .inl (cY h)
  .by_cases h0:ch k=[]
   .exact .inl (cY h0)
   obtain⟨w,hw,rfl⟩:=ZR.mp b
   right
   rw[aJ,aJ]at hl;have f:k.length≠0:=λz=>h0 (tF z);refine{w,hw,k.length-1,(),cY ?_,(cP ws k).mpr d};rw[jn,show 1+(k.length-1)=k.length by omega,<-aJ k];exact(wf5.mp c)
theorem FX(g:ss.Perm (bJ ws "" ws))(l:List Nat):Nn ss l=true↔Pl (wl ws) l:=by
 have e:ch ⟨l.toArray⟩=l:=rfl;rw[<-e,jo,g.mem_iff,mem_keys]
theorem w9{P:List Nat->Bool}(h0:P []=true):∀{l:List Nat} {n:Nat},P (l.drop n)=true->(∀m,m<n->P (l.drop m)=false)->ju P l=l.drop n
 |[],n,_,_=>by simp[ju]
 |a::l,0,b,_=>by
  unfold ju;rw[wel]at b;rw[if_pos b];rfl
 |a::l,n+1,b,c=>by
  have:=c 0 (by lia);rw[wel]at this;unfold ju;rw[this,if_neg (by simp),List.drop_succ_cons];exact w9 h0 (by grind) λm d=>by grind
theorem lP(he:("":Str)∈ss)(r:Str):ch (lend ss r)=ju (Nn ss) (ch r):=by
 have c:∃n,n<=r.length/\bD r n∈ss/\∀m,m<n->bD r m∉ss:=by
  have f:∃n,bD r n∈ss:={r.length,by rw[gO];exact he}
  have key:∀k,(∃n,n<k/\bD r n∈ss/\∀m,m<n->bD r m∉ss)\/∀m,m<k->bD r m∉ss:=by
   intro k
   induction k with
   |zero=>right;intro m a;lia
   |succ k d=>
    rcases d with⟨n,hn,h⟩ |h
    .exact .inl {n,by lia,h}
    .by_cases hk:bD r k∈ss
     .exact .inl {k,by lia,hk,h}
     .right
      intro m a
      by_cases e:m=k
      .rw[e];exact hk
      .exact h m (by lia)
  rcases key (r.length+1) with⟨n,hn,h⟩ |h
  .exact{n,by lia,h}
  .exact absurd (by rw[gO];exact he) (h r.length (by lia))
 obtain⟨n,hn,a,hl⟩:=c;unfold lend;rw[nV a hl hn,fm];refine(w9 (jo (k:="").mpr he) ?_ λm b=>?_).symm
 .rw[<-fm];exact jo.mpr a
 .rw[<-fm];have:=hl m b;rw[<-jo]at this;simpa using this
theorem tU(he:("":Str)∈ss)(r:Str):lend ss r∈ss:=by
 rw[<-jo,lP he];exact tT (jo (k:="").mpr he) _
theorem Dm(hw:∀w∈ws,1<=w.length):bears ws ""=false:=by
 refine(cP ws "").mpr λw a hi=>?_;obtain⟨v,b,rfl⟩:=ZR.mp a;have d:=hw v b;have c:=hi.length_le;rw[aJ]at c;have:(ch ("":Str)).length=0:=rfl
 lia
theorem AQ(he:("":Str)∈ss)(h:r∈pO g ws ss q):r.2∈ss/\r.1.length=q.1.length+1:=by
 unfold pO at h;obtain⟨c,_,e⟩:=wdc.mp h;split at e
 .cases e
 .cases e;exact{tU he _,len_app _ _}
theorem tV(he:("":Str)∈ss)(j:p∈ss):∀n,∀r∈tJ g ws ss p n,r.2∈ss/\r.1.length=n
 |0,r,h=>by
  rw[wa4.mp h];exact⟨j,rfl⟩
 |n+1,r,h=>by
  obtain⟨q,a,b⟩:=wd3.mp h;have:=AQ he b;have:=(tV he j n q a).2;exact{‹r.2∈ss/\_›.1,by lia}
theorem uO.line{B:Str->List (Str×Str)}(h:uO B hs lns)(hl:lns.length=hs.length)(g:∀p,(B p).length<=b):∀l∈lns,l.length<=b*hs.length:=by
 intro l j;obtain⟨i,hi,e⟩:=wbt j;have f:lns[i]?=some l:=by rw[ZJ hi,e]
 have a:hs[i]?=some (hs[i]'()):=ZJ _;generalize hs[i]'()=p at a
 have one:∀z,l.count z<=1:=λz=>by
  have c:=jt (z:=z) a f;have d:=h p z.1 z.2;rw[show ((z.1,z.2):Str×Nat)=z from rfl]at d;rw[d]at c;split at c<;>omega
 have nd:l.Nodup:=wg0.mpr one
 have sub:∀z∈l,z∈((B p).map (·.1)).flatMap λw=>(wak hs.length).map λe=>(w,e):=λz k=>by
  have c:=jt (z:=z) a f;have d:=h p z.1 z.2;rw[show ((z.1,z.2):Str×Nat)=z from rfl]at d;rw[d]at c;have m:0<l.count z:=wbB.mpr k
  by_cases hc:z.2<hs.length/\p∈hs/\(z.1,hs.getD z.2 "")∈B p
  .exact wd3.mpr {z.1,ZR.mpr {_,hc.2.2,rfl},ZR.mpr {z.2,waM.mpr hc.1,rfl}}
  .rw[if_neg hc]at c;omega
 have c:=tR nd sub
 have d:(((B p).map (·.1)).flatMap λw=>(wak hs.length).map λe=>(w,e)).length<=(B p).length*hs.length:=by
  have:=sW (λw=>(wak hs.length).map λe=>((w,e):Str×Nat)) hs.length ((B p).map (·.1)) λw _=>by rw[ZI,wau];exact ZS _
  rwa[ZI]at this
 exact wa0 c (wa0 d (we7 _ (g p)))
structure Above(lns:List (List (Str×Nat)))(many:Int)(ks:List Nat):Prop where
 sub:ks.Sublist (wak lns.length)
 top:∀S,BE lns many S->∀d∈S,d∈ks
theorem Above.start(lns:List (List (Str×Nat)))(many:Int):Above lns many (wak lns.length):={weE _,λS h d hd=>waM.mpr (h d hd).1}
theorem Above.next(h:Above lns many ks):Above lns many (t9 lns many ks):=by
 refine{wcu.trans h.sub,λS a d hd=>wa6.mpr {h.top S a d hd,decide_eq_true ?_}};have b:=(a d hd).2;have c:=vV (h.top S a) (lns.getD d [])
 lia
theorem Above.stays(h:Above lns many ks)(e:t9 lns many ks=ks):BE lns many ks:=λd hd=>by
 refine{waM.mp (h.sub.subset hd),?_};rw[<-e]at hd;exact of_decide_eq_true (wa6.mp hd).2
structure nh(lns:List (List (Str×Nat)))(many:Int)(ks:List Nat):Prop where
 ab:Above lns many ks
 st:BE lns many ks
theorem yT{many h:Int}{hs:List Str}{ws:List Int}{lns:List (List (Str×Nat))}(S:ib many hs ws lns)(K:nh lns many [])(t:h∈ws)(C:∀w∈ws,w<=h)(m1:1<=many) :
 ∃(d i:Nat) (g:List (Str×Nat)) (q:Str×Nat),lns[d]?=some g/\g[i]?=some q/\ws.getD d 0=h/\ws.getD q.2 0<h:=by
 have f:=S.w;have v:=S.l
 by_cases s:∃(d i:Nat) (g:List (Str×Nat)) (q:Str×Nat),lns[d]?=some g/\g[i]?=some q/\ws.getD d 0=h/\ws.getD q.2 0<h
 .exact s
 exfalso
 have all:∀(d:Nat) (g:List (Str×Nat)),lns[d]?=some g->ws.getD d 0=h->∀q∈g,ws.getD q.2 0=h:=λd g hd hw q c=>by
  obtain⟨i,hi,e⟩:=wbt c;have x:¬ws.getD q.2 0<h:=λz=>s {d,i,g,q,hd,by rw[ZJ hi,e],hw,z};have o:=C _ (iS (ws:=ws) (i:=q.2) (by rw[f];exact S.e g (ZT hd) q c))
  lia
 obtain⟨y,j,A⟩:=wbt t;have x:1<=h:=S.p h t
 have r:BE lns many ((wak ws.length).filter λd=>decide (ws.getD d 0=h)):=λd hd=>by
  obtain⟨u,n⟩:=wa6.mp hd;have u:=waM.mp u;have n:ws.getD d 0=h:=of_decide_eq_true n;have k:d<lns.length:=by lia
  have c:lns[d]?=some (lns.getD d []):=by rw[ZL,ZJ k];rfl
  refine{k,?_};have m:=all d _ c n;have B:cu ((wak ws.length).filter λd=>decide (ws.getD d 0=h)) (lns.getD d [])=lns.getD d []:=waD.mpr λq a=>decide_eq_true (wa6.mpr {waM.mpr (by rw[f];exact S.e _ (ZT c) q a),decide_eq_true (m q a)});rw[B];have o:=S.b d _ c;have D:=n6 (lns.getD d []) λq a=>Int.le_of_eq (m q a);rw[n]at o;have E:many*h<=((lns.getD d []).length:Int)*h:=wdp o D;exact wex E (by lia)
 have:=K.ab.top _ r y (wa6.mpr {waM.mpr j,decide_eq_true (by rw[ZL,ZJ j,A];rfl)});cases this
theorem IG{many h:Int}{hs:List Str}{ws:List Int}{lns:List (List (Str×Nat))}(S:ib many hs ws lns)(m1:1<=many){d i0:Nat}{g:List (Str×Nat)}{q:Str×Nat}(D:Down ws lns h d i0 g q){i j:Nat}(p:i<j)(C:j<=(numsOf g.length i0 (many-1).toNat).length)
 (r:((((numsOf g.length i0 (many-1).toNat).take j).drop i).map λn=>(g.map λq=>ws.getD q.2 0).getD n 0).sum%many=0) :
 cK ws lns many (d:Int) (nI (((numsOf g.length i0 (many-1).toNat).take j).drop i)) (((((numsOf g.length i0 (many-1).toNat).take j).drop i).map λn=>(g.map λq=>ws.getD q.2 0).getD n 0).sum/many)=true:=by
 have b:i0<g.length:=(ZO.mp D.s).1;have hl:=vX S D;have u:=yL (k:=(many-1).toNat) b (by lia);have c:=Aa g.length i0 (many-1).toNat;have f:=xf (k:=(many-1).toNat) b;have m:i0∈numsOf g.length i0 (many-1).toNat:=ZZ ..;generalize numsOf g.length i0 (many-1).toNat=a at *;have sub:((a.take j).drop i).Sublist a:=(wgL _ _).trans (waB _ _);have len:((a.take j).drop i).length=j-i:=by rw[waN,wa5];lia
 have o:∀n∈(a.take j).drop i,n<g.length:=λn hn=>f n (sub.subset hn);have e:((a.take j).drop i).map (λn=>(g.map λq=>ws.getD q.2 0).getD n 0)=((a.take j).drop i).map λn=>ws.getD (g.getD n ("",0)).2 0:=waK λn hn=>KG ws (o n hn);rw[e]at r ⊢;have v:g.getD i0 ("",0)=q:=by rw[ZL,D.s];rfl
 refine Dg S (i0:=i0) D.t D.l D.e m1 (c.sublist sub) o (λz=>?_) ?_ (λz=>?_) (by rw[v];exact D.lt) ?_
 .rw[z]at len;have:(0:Nat)=j-i:=len
  lia
 .rw[len];lia
 .have w:(a.take j).drop i=a:=sub.eq_of_length (by grind);rw[w];exact m
 .have:=wfK ((((a.take j).drop i).map λn=>ws.getD (g.getD n ("",0)).2 0).sum) many
  lia
theorem dE.whole{f:Str->Int}(h:dE g bw ss ls many n f cp hs ws lns)(r:(ls.map f).sum<=40)(j:g.length^n<=64):Jw hs ws lns:=by
 have hl:=h.len;refine{h.b.w,h.b.l,h.b.e,by lia,λl a=>?_};have c:=h.cv.line h.b.l (b:=64) (λp=>wa0 (dP g bw ss ls n p) j) l a;have d:64*hs.length<=64*40:=wd6 _ (by lia)
 lia
theorem uO.word(h:uO (aN g bw ss ls n) hs lns)(hl:lns.length=hs.length)(j:∀p∈hs,p∈ss)(he:("":Str)∈ss):∀l∈lns,∀q∈l,q.1.length=n:=by
 intro l d q f;obtain⟨i,hi,e⟩:=wbt d;have a:i<hs.length:=by lia
 have b:0<gg hs[i] (q.1,q.2) hs lns:=by
  have k:hs[i]?=some hs[i]:=ZJ a;have m:lns[i]?=some l:=by rw[ZJ hi,e]
  have:=jt (z:=(q.1,q.2)) k m;have hc:0<l.count (q.1,q.2):=wbB.mpr f
  lia
 rw[h hs[i] q.1 q.2]at b
 by_cases c:q.2<hs.length/\hs[i]∈hs/\(q.1,hs.getD q.2 "")∈aN g bw ss ls n hs[i]
 .exact(tV he (j _ (wah a)) n _ (wa6.mp c.2.2).1).2
 .rw[if_neg c]at b
  lia
theorem Cm.one{ks:List Str}{j:Str->List (Key×V)}{a b:List Str}(nd:ks.Nodup)(ha:Cm ks j a)(g:Cm ks j b):a=b:=
 sub_one ha.sub g.sub nd λx=>{λh=>g.most a (λk hk=>{ha.sub.subset hk,ha.uJ k hk}) x h,λh=>ha.most b (λk hk=>{g.sub.subset hk,g.uJ k hk}) x h}
theorem aT.one{C p:Addr}{H r:Hp}{x t:Addr}{g:Str}{ws ss j ls l:List Str}(A:aT C H x g ws ss ls)(B:aT p r t g ws j l):ss=j/\ls=l:=by
 have e:ss=j:=An A.so B.so A.pm B.pm;subst e;exact{rfl,Cm.one A.nd A.lv B.lv}
theorem uO.one{B:Str->List (Str×Str)}{hs:List Str}{lns:List (List (Str×Nat))}(h:uO B hs lns)(hl:lns.length=hs.length){d d':Nat}(hd:d<hs.length)(g:d'<hs.length)(e:hs.getD d ""=hs.getD d' ""){q:Str×Nat}(j:q∈lns.getD d [])(l:q∈lns.getD d' []):d=d':=by
 have c1:=wbB.mpr j;have f:=wbB.mpr l;have a:=getD_some ("":Str) hd;have b:=getD_some ("":Str) g;rw[<-e]at b;have m:=h.most (hs.getD d "") q;have l1:=getD_some [] (show d<lns.length by lia);have c:=getD_some [] (show d'<lns.length by lia);rcases weI d d' with z |z |z
 .have:=tN (z:=q) z a b l1 c;lia
 .exact z
 .have:=tN (z:=q) z b a c l1;lia
theorem iT.one(h:iT bw n b)(h':iT bw n g):b=g:=by
 obtain⟨_,M,⟨u,a⟩,e⟩:=h;obtain⟨_,N,⟨v,c⟩,f⟩:=h'
 have:M=N:=by
  rcases a with⟨a1,a2⟩ |⟨w,hw,a⟩<;>rcases c with⟨c1,i⟩ |⟨j,d,c⟩
  .lia
  .rw[a2]at d;cases d
  .rw[i]at hw;cases hw
  .have:=u j d;have:=v w hw;lia
 rw[this]at e
 lia
section
variable{ws ss:List Str}{r:Str}{c:Nat}
theorem pU(g:ss.Perm (bJ ws "" ws))(j:bears ws r=false):lend ss (lend ss r++{#[c]})=lend ss (r++{#[c]}):=by
 have a:("":Str)∈ss:=g.mem_iff.mpr (cb ws);refine cY ?_;rw[lP a,bx,lP a,lP a,bx];exact AO (FX g) ((cP ws r).mp j)
theorem ni(g:ss.Perm (bJ ws "" ws))(j:bears ws r=false)(hw:∀w∈ws,1<=w.length):bears ws (lend ss r++{#[c]})=bears ws (r++{#[c]}):=by
 have b:("":Str)∈ss:=g.mem_iff.mpr (cb ws)
 have a:∀w∈wl ws,w≠[]:=by
  intro w d z;obtain⟨v,e,rfl⟩:=ZR.mp d;have:=hw v e;rw[<-aJ,z]at this;simp at this
 have:=Dl (c:=c) (FX g) ((cP ws r).mp j) a;rw[show [c]=ch ({#[c]}:Str) from rfl,<-lP b,<-bx,<-bx,<-cP,<-cP]at this;cases f:bears ws (lend ss r++⟨#[c]⟩)<;>cases h:bears ws (r++⟨#[c]⟩)<;>simp[f,h]at this ⊢
theorem lQ(h:ch a <:+: ch b)(g:bears ws b=false):bears ws a=false:=(cP ws a).mpr (((cP ws b).mp g).sub h)
theorem tW(j:ss.Perm (bJ ws "" ws))(l:bears ws e=false)(g:e.length≠0):jm ws e=true↔e∈ss:=by
 rw[j.mem_iff,mem_keys];unfold jm;rw[wbL];constructor
 .rintro⟨w,hw,h⟩;rw[waV,decide_eq_true_iff,ng]at h;exact .inr {{ch w,ZR.mpr ⟨w,hw,rfl⟩,h.2,by rw[aJ,aJ];exact h.1},(cP ws e).mp l}
 .rintro(h |⟨⟨v,b,c,a⟩,_⟩)
  .rw[<-aJ,h]at g;exact absurd rfl g
  .obtain⟨w,hw,rfl⟩:=ZR.mp b;refine{w,hw,?_};rw[waV,decide_eq_true_iff,ng];exact{by rw[aJ,aJ]at a;exact a,c}
theorem yU(g:ss.Perm (bJ ws "" ws))(hw:∀w∈ws,w.length<=5)(j:bears ws r=false)(h0:n0<=r.length-5)(hn:n<=r.length)(hl:∀m,n0<=m->m<n->jm ws (bD r m)=false)(h:n=r.length\/jm ws (bD r n)=true):lend ss r=bD r n:=by
 have d:("":Str)∈ss:=g.mem_iff.mpr (cb ws);have f:∀m,bears ws (bD r m)=false:=λm=>lQ (by rw[fm];exact(wh1 _ _).isInfix) j;have len:∀m,(bD r m).length=r.length-m:=λm=>by rw[<-aJ,fm,waN,aJ]
 unfold lend;rw[nV (n:=n) ?_ ?_ hn]
 .rcases h with rfl |h
  .rw[gO];exact d
  .by_cases e:n=r.length
   .subst e;rw[gO];exact d
   .exact(tW g (f n) (by rw[len];omega)).mp h
 .intro m i a
  by_cases b:n0<=m
  .have:=hl m b i;rw[(tW g (f m) (by rw[len];omega)).mpr a]at this;cases this
  .rw[g.mem_iff,mem_keys]at a;rcases a with z |⟨⟨v,k,o,l⟩,_⟩
   .have:=congrArg wcO z;rw[aJ,len]at this;simp at this;omega
   .obtain⟨w,c,rfl⟩:=ZR.mp k;rw[aJ,aJ,len]at l;have:=hw w c;omega
theorem nj(j:ss.Perm (bJ ws "" ws))(hw:∀w∈ws,1<=w.length)(h:p∈ss):bears ws p=false/\lend ss p=p:=by
 have a:("":Str)∈ss:=j.mem_iff.mpr (cb ws);constructor
 .rcases mem_keys.mp (j.mem_iff.mp h) with z |z
  .have:p="":=cY (by rw[z];exact(tF rfl).symm);rw[this];exact Dm hw
  .exact(cP ws p).mpr z.2
 .refine cY ?_;rw[lP a];have b:Nn ss (ch p)=true:=jo.mpr h;exact FW (iV _) (iW b (weZ _))
end
section
variable{g:Str}{ws ss ls:List Str}{p:Str}
theorem FY(h:bears ws (p++a)=true):jr ws ss p (a++c)=none:=by
 unfold jr;rw[if_pos]
 cases e:bears ws (p++(a++c)) with
 |true=>rfl
 |false=>
  have:=lQ (a:=p++a) (b:=p++(a++c)) (by rw[<-gP,bx (p++a) c];exact{[],ch c,by simp}) e;rw[h]at this;cases this
theorem we(l:ss.Perm (bJ ws "" ws))(hw:∀w∈ws,1<=w.length)(h:bears ws (p++r)=false):∀j:List Nat,(j.filterMap λc=>if bears ws (lend ss (p++r)++{#[c]})=true then none else some (r++({#[c]}:Str),lend ss (lend ss (p++r)++({#[c]}:Str))))=(j.map λc=>r++({#[c]}:Str)).filterMap (jr ws ss p)
 |[]=>rfl
 |c::j=>by
  rw[wab,waU,waU,we l hw h j]
  have e:(if bears ws (lend ss (p++r)++{#[c]})=true then none else some (r++({#[c]}:Str),lend ss (lend ss (p++r)++({#[c]}:Str))))=jr ws ss p (r++{#[c]}):=by
   unfold jr;rw[ni l h hw,pU l h,gP]
  rw[e]
theorem yV(j:ss.Perm (bJ ws "" ws))(hw:∀w∈ws,1<=w.length):∀L:List Str,fo g ws ss (L.filterMap (jr ws ss p))=(L.flatMap λr=>(ch g).map λc=>r++({#[c]}:Str)).filterMap (jr ws ss p)
 |[]=>rfl
 |r::L=>by
  rw[wdD,wfL,<-yV j hw L,waU]
  cases h:bears ws (p++r) with
  |true=>
   have e:jr ws ss p r=none:=by unfold jr;rw[if_pos h]
   rw[e,t5 (l:=(ch g).map λc=>r++({#[c]}:Str)) λa ha=>by grind [FY]];rfl
  |false=>
   have e:jr ws ss p r=some (r,lend ss (p++r)):=by unfold jr;rw[if_neg (by rw[h];exact wa2)]
   rw[e,<-we j hw h];exact wdD ..
theorem tX(l:ss.Perm (bJ ws "" ws))(hw:∀w∈ws,1<=w.length)(j:p∈ss):∀n,tJ g ws ss p n=(GH g n).filterMap (jr ws ss p)
 |0=>by
  obtain⟨b,a⟩:=nj l hw j;show [(("":Str),p)]=[("":Str)].filterMap (jr ws ss p);have e:jr ws ss p ""=some (("":Str),p):=by unfold jr;rw[o9,a,if_neg (by grind)]
  rw[waU,e];rfl
 |n+1=>by
  show fo g ws ss (tJ g ws ss p n)=((GH g n).flatMap λr=>(ch g).map λc=>r++({#[c]}:Str)).filterMap (jr ws ss p);rw[tX l hw j n,yV l hw]
theorem AR(l:ss.Perm (bJ ws "" ws))(hw:∀w∈ws,1<=w.length)(j:p∈ss)(n:Nat):(GH g n).filterMap (HX ws ss ls p)=aN g ws ss ls n p:=by
 unfold aN;rw[tX l hw j]
 have:∀L:List Str,L.filterMap (HX ws ss ls p)=(L.filterMap (jr ws ss p)).filter λq=>decide (q.2∈ls):=by
  intro L
  induction L with
  |nil=>rfl
  |cons r L a=>
   rw[waU,waU,a];unfold HX jr
   cases h:bears ws (p++r) with
   |true=>rfl
   |false=>
    rw[if_neg wa2,if_neg wa2]
    by_cases hl:lend ss (p++r)∈ls
    .rw[if_pos hl,waC (by exact decide_eq_true hl)]
    .rw[if_neg hl,waJ (by simpa using hl)]
 exact this _
end
theorem xu(nd:(ch g).Nodup)(l:ss.Perm (bJ ws "" ws))(hw:∀w∈ws,1<=w.length)(j:p∈ss)(n:Nat):((aN g ws ss ls n p).map (·.1)).Nodup:=by
 rw[<-AR l hw j n];refine List.Nodup.sublist (iB (λr x e=>?_) _) (by rw[rW];exact w4 nd n);unfold HX at e;split at e
 .cases e
 .grind
theorem uO.first{g:Str}{ws ss ls:List Str}{n:Nat}{hs:List Str}(nd:(ch g).Nodup)(l:ss.Perm (bJ ws "" ws))(hw:∀w∈ws,1<=w.length)(j:∀p∈hs,p∈ss)(hn:hs.Nodup):uO (aN g ws ss ls n) hs (bz g ws ss ls n hs):=by
 intro p w e;unfold bz;rw[tS p (w,e) _ hs hn]
 by_cases h:p∈hs
 .rw[if_pos h];unfold fS;rw[AB (xa (xu nd l hw (j p h) n)) hn];exact Oz {λz=>⟨z.1,h,z.2⟩,λz=>⟨z.1,z.2.2⟩}
 .rw[if_neg h,if_neg (λz=>h z.2.1)]
theorem ib.first{f:Str->Int}(hn:∀p∈ls,0<=f p)(j:CT g ws ss ls many n f):ib many (au ls f) ((au ls f).map f) (bz g ws ss ls n (au ls f)):=by
 have a:∀p∈au ls f,p∈ls/\0<f p:=λp b=>{(wa6.mp b).1,of_decide_eq_true (wa6.mp b).2};refine{ZI _,ZI _,λw hw=>?_,λl hl q c=>?_,λi l hl=>?_}
 .obtain⟨p,b,rfl⟩:=ZR.mp hw;have:=(a p b).2
  lia
 .obtain⟨p,b,rfl⟩:=ZR.mp hl;obtain⟨z,d,rfl⟩:=ZR.mp c;exact List.idxOf_lt_length_of_mem (of_decide_eq_true (wa6.mp d).2)
 .unfold bz at hl;rw[ZM]at hl
  cases e:(au ls f)[i]? with
  |none=>rw[e]at hl;cases hl
  |some p=>
   rw[e]at hl;cases hl;rw[Fm hn,ZL,ZM,e];exact j p (a p (ZT e)).1
theorem dE.start{f:Str->Int}(nd:(ch g).Nodup)(j:ss.Perm (bJ bw "" bw))(hw:∀w∈bw,1<=w.length)(l:∀p∈ls,p∈ss)(hl:ls.Nodup)(hn:∀p∈ls,0<=f p)(r:CT g bw ss ls many n f) :
 dE g bw ss ls many n f [] (au ls f) ((au ls f).map f) (bz g bw ss ls n (au ls f)):=
 {.nil,ib.first hn r,uO.first nd j hw (λp j=>l p (wa6.mp j).1) (hl.filter _),vM hn,wgx _,λp j=>(wa6.mp j).1}
noncomputable def lU(p b:Addr)(many wide:Int)(h l:Addr)(o:Str)(i:Int):List (Str×V):=[("scheme",.ref p),("band",.ref b),("many",.int many),("wide",.int wide),("homes",.ref h),("lines",.ref l),("opening",.str o),("first",.int i)]
section
variable(p b h l:Addr)(many wide i:Int)(o:Str)
theorem Nz:cx "first" (.int i) (M0 p b many wide h l o)=lU p b many wide h l o i:=eZ (by show ("first":Str)∉[("scheme":Str),"band","many","wide","homes","lines","opening"];decide+kernel)
theorem fu:(lU p b many wide h l o i).lookup ("scheme":Str)=some (.ref p):=dO (fs:=[]) ∅
theorem AU:(lU p b many wide h l o i).lookup ("band":Str)=some (.ref b):=dO (fs:=KH p) (by show ("band":Str)∉[("scheme":Str)];decide+kernel)
theorem AV:(lU p b many wide h l o i).lookup ("wide":Str)=some (.int wide):=dO (fs:=KI p b many) (by show ("wide":Str)∉[("scheme":Str),"band","many"];decide+kernel)
theorem qu:(lU p b many wide h l o i).lookup ("homes":Str)=some (.ref h):=dO (fs:=Jy p b many wide) (by show ("homes":Str)∉[("scheme":Str),"band","many","wide"];decide+kernel)
theorem yW:(lU p b many wide h l o i).lookup ("lines":Str)=some (.ref l):=dO (fs:=Jz p b many wide h) (by show ("lines":Str)∉[("scheme":Str),"band","many","wide","homes"];decide+kernel)
theorem uQ:(lU p b many wide h l o i).lookup ("opening":Str)=some (.str o):=dO (fs:=Fb p b many wide h l) (by show ("opening":Str)∉[("scheme":Str),"band","many","wide","homes","lines"];decide+kernel)
theorem yX:(lU p b many wide h l o i).lookup ("first":Str)=some (.int i):=dO (fs:=M0 p b many wide h l o) (by show ("first":Str)∉[("scheme":Str),"band","many","wide","homes","lines","opening"];decide+kernel)
theorem aZ(hn:n∉[("scheme":Str),"band","many","wide","homes","lines","opening","first"]):(lU p b many wide h l o i).lookup n=none:=kn hn
end
section
variable{ws ss:List Str}
theorem wg(g:ss.Perm (bJ ws "" ws))(hw:∀w∈ws,w.length<=5)(j:bears ws r=false)(h0:n0<=r.length-4)(hn:n<=r.length)(hl:∀m,n0<=m->m<n->jm ws (bD r m)=false)(h:n=r.length\/jm ws (bD r n)=true):lend ss r=bD r n:=by
 by_cases d:r.length<=4
 .exact yU g hw j (n0:=0) (wal _) hn (λm _ a=>hl m (by lia) a) h
 .refine yU g hw j (n0:=r.length-5) (ZS _) hn (λm c a=>?_) h
  by_cases e:m=r.length-5
  .subst e;unfold jm;rw[wez];intro w b;have dl:(bD r (r.length-5)).length=5:=by rw[<-aJ,fm,waN,aJ];lia
   have:=hw w b;rw[dl,decide_eq_false (by lia)];exact λz=>nomatch z
  .exact hl m (by lia) a
end
end Bs
namespace L2
open PySem.Spec PyProof.Rows
section
variable{X:Cx}{H:Hp}{scope:wct}{x x2 x3:Str}{ys:List Str}{ix:List Nat}{cl:List (Str×Addr)}{L:Addr}
theorem AW(he:("":Str)∈ss)(h:t∈gu g ws ss p):t∈ss:=by grind [gu,tU]
theorem gW{ss:List Str}(nd:ss.Nodup){i:Nat}{p:Str}(h:ss[i]?=some p):p∉ss.take i:=by
 intro b;obtain⟨j,c,a⟩:=wcV.mp b;rw[weJ]at a;rw[wa5]at c;have d:=(ZO.mp h).2;have:=(wbK nd).mp (a.trans d.symm)
 lia
theorem yY(hc:X.calm=true)(B:bP X scope x ys ix)(g:bP X scope x2 ys ix)(j:x≠x2)(cl L s H ex pn):PG (bA X scope ([x,x2]++ys) cl L s H ex pn) (.Tuple [.Name x p,.Name x2 l] r pt) (E7 X.K 2 (k8 (eI 0) (k8 (eI 1) E6))):=by
 have c:(relabel scope X.env).names.lookup x=some .local:=wbR B.var;have a:(relabel scope X.env).names.lookup x2=some .local:=wbR g.var
 have b:(x::x2::ys).Nodup:=by
  have:=B.nd;have:=g.nd
  grind
 exact fj hc (aU (jf b rfl (.inl c) (.inr c)) (aU (jf b rfl (.inl a) (.inr a)) dG))
theorem fv(hc:X.calm=true)(B:bP X scope x ys ix)(T:bP X scope x2 ys ix)(g:x≠x2)(hi:PI X (.Tuple [.Name x U,.Name x2 j] kt pt) iter wi)
 (ht:∀cl L s H ex pn,GC (bA X scope (x::x2::ys) cl L s H ex pn) p t) (he:∀cl L s H ex pn,PE (bA X scope (x::x2::ys) cl L s H ex pn) r I)
 (hs:∀v,wbr iter X.env v=pure v:=by intro _;rfl):PE X (.ListComp r [{.Tuple [.Name x U,.Name x2 j] kt pt,iter,p,0}] scope pos) (Kt X.K wi ix t I):=
 sT (C:=λJ l a H Q=>iA X.K J l a t I H Q) (xs:=[x,x2]) hc B (yY hc B T g) (λ_ _ _ _ _=>yo) hi ht he hs
theorem FZ(hc:X.calm=true)(B:bP X scope x ys ix)(g:bP X scope x2 ys ix)(j:bP X scope x3 ys ix)(l:x≠x2/\x≠x3/\x2≠x3)(cl L s H ex pn):PG (bA X scope ([x,x2,x3]++ys) cl L s H ex pn) (.Tuple [.Name x t,.Name x2 p,.Name x3 r] C pt) (E7 X.K 3 (k8 (eI 0) (k8 (eI 1) (k8 (eI 2) E6)))):=by
 have d:(relabel scope X.env).names.lookup x=some .local:=wbR B.var;have b:(relabel scope X.env).names.lookup x2=some .local:=wbR g.var;have c:(relabel scope X.env).names.lookup x3=some .local:=wbR j.var
 have a:(x::x2::x3::ys).Nodup:=by
  have:=B.nd;have:=g.nd;have:=j.nd
  grind
 exact fj hc (aU (jf a rfl (.inl d) (.inr d)) (aU (jf a rfl (.inl b) (.inr b)) (aU (jf a rfl (.inl c) (.inr c)) dG)))
theorem G0(hc:X.calm=true)(B:bP X scope x ys ix)(U:bP X scope x2 ys ix)(B3:bP X scope x3 ys ix)(g:x≠x2/\x≠x3/\x2≠x3)(hi:PI X (.Tuple [.Name x px,.Name x2 j,.Name x3 p] kt pt) iter wi)
 (ht:∀cl L s H ex pn,GC (bA X scope (x::x2::x3::ys) cl L s H ex pn) r I) (he:∀cl L s H ex pn,PE (bA X scope (x::x2::x3::ys) cl L s H ex pn) t T)
 (hs:∀v,wbr iter X.env v=pure v:=by intro _;rfl):PE X (.ListComp t [{.Tuple [.Name x px,.Name x2 j,.Name x3 p] kt pt,iter,r,0}] scope pos) (Ku X.K wi ix I T):=
 sT (C:=λJ l a H Q=>sQ X.K J l a I T H Q) (xs:=[x,x2,x3]) hc B (FZ hc B U B3 g) (λ_ _ _ _ _=>EH) hi ht he hs
end
section
variable{X:Cx}{e:Expr}{te:TE}{pos p:Pos}
theorem bu.same(t:bu H j g)(s:a7 H l):bu l j g:=t.keep λr a h=>s _ _ h
theorem Rd.same(h:Rd H a u)(s:a7 H g):Rd g a u:=by
 rcases h with h |⟨o,h⟩
 .exact .inl (s _ _ h)
 .exact .inr {o,s _ _ h}
theorem AX(g:X.mg "len"=none)(h:PE X e te)(j:Gl X "len":=by rfl)(he:starEach [e] X.env=(false,eval e X.env)::starEach [] X.env:=by rfl)(hpl:(backTo pos (starEach [] X.env)).any (·.1)=false:=by rfl) :
 PE X (.Call (.Name "len" p) [e] [] pos) (Ox (λxs H Q=>∃z,xs=[.str z]/\z.length<=sizeLine/\Q (.int z.length) H) (q0 te wI)):=aI wR j g wdx (a8 h fM he) (he:=he) (hpl:=hpl)
theorem AY(g:X.mg "len"=none)(h:PE X e te)(j:Gl X "len":=by rfl)(he:starEach [e] X.env=(false,eval e X.env)::starEach [] X.env:=by rfl)(hpl:(backTo pos (starEach [] X.env)).any (·.1)=false:=by rfl) :
 PE X (.Call (.Name "len" p) [e] [] pos) (Ox (λxs H Q=>∃p ys,xs=[.ref p]/\(aK X.K H p ys\/fJ X.K H p ys)/\Q (.int ys.length) H) (q0 te wI)):=aI nP j g wdx (a8 h fM he) (he:=he) (hpl:=hpl)
end
section
variable{P:wad}{w:World}{K:ZK}{mg:Str->Option Value}{base:Heap}{x qual:Str}{st:Stmt}{f:Addr}{fd:wb3}{N ps:List Str}{k:Nat}{sp:Sp}
theorem xX.dF(F:xX K x qual st f fd)
 (l:∀(j:Value) (A:Around) (outer:List Env) (s:Shared) (H:Hp) (vs:List V) (Q:VK) (E:XK),N.Nodup->cU k (A.deeper (envOfC qual (aD st) s.heap.objs.size f j))->sp vs H Q E ->
   ∃t,uE (sE cI P w K mg base N qual (aD st) f j A outer s H E).Jf (bU st) t/\t (Ends.fn Q) (start N vs) H)
 (a:(aD st).kind=.function:=by rfl) (b:(aD st).isCoroutine=false:=by rfl) (c:(aD st).isGenerator=false:=by rfl) (nd:N.Nodup:=by decide+kernel) (e:N.take ps.length=ps:=by rfl)
 (g:∀x∈ps,(aD st).names.lookup x=some .local\/(aD st).names.lookup x=some .cell:=by decide+kernel) (h:∀y∈(aD st).names,y.2≠.free:=by decide+kernel)
 (len:∀vs H Q E,sp vs H Q E->vs.length=ps.length:=by intro _ _ _ _ h;cases h;subst_vars;rfl):aQ P w K mg base cI (k+1) f fd ps sp:=
 F.ok ⟨a,b,c,nd,e,g,h⟩ len λj A outer s H vs Q E=>l j A outer s H vs Q E nd
theorem xX.Dn(F:xX K x qual st f fd)
 (l:∀(j:Value) (A:Around) (outer:List Env) (s:Shared) (H:Hp) (vs:List V) (Q:VK) (E:XK),N.Nodup->cU k (A.deeper (envOfC qual (aD st) s.heap.objs.size f j))->sp vs H Q E ->
   ∃t,uE (sE (yc P w) P w K mg base N qual (aD st) f j A outer s H E) (bU st) t/\t (Ends.fn Q) (start N vs) H)
 (a:(aD st).kind=.function:=by rfl) (b:(aD st).isCoroutine=false:=by rfl) (c:(aD st).isGenerator=false:=by rfl) (nd:N.Nodup:=by decide+kernel) (e:N.take ps.length=ps:=by rfl)
 (g:∀x∈ps,(aD st).names.lookup x=some .local\/(aD st).names.lookup x=some .cell:=by decide+kernel) (h:∀y∈(aD st).names,y.2≠.free:=by decide+kernel)
 (len:∀vs H Q E,sp vs H Q E->vs.length=ps.length:=by intro _ _ _ _ h;cases h;subst_vars;rfl):aQ P w K mg base (yc P w) (k+1) f fd ps sp:=
 F.Vi ⟨a,b,c,nd,e,g,h⟩ len λj A outer s H vs Q E=>l j A outer s H vs Q E nd
end
theorem Dp{K:ZK}{J:It}{Ok:Hp->Prop}{j:List Addr}{prs:List (V×V)}{l:Addr}{I:St}{tt:TT}{te:TE}{H:Hp}{Q:Hp->Prop}(p:V×V->Bool)(g:V×V->List V)(hJ:k4 J Ok (j.map V.ref))(hT:bu H j (prs.map jG))(hl:H l=none)(hz:j.length<=sizeLine)(T:∀t,a7 H t->Ok t)
 (ht:∀q C U,q∈prs->a7 H C->(∀t,a7 C t->U (p q) t)->tt (some q.1::some q.2::I) C U)
 (he:∀q C U,q∈prs->p q=true->a7 H C->(∀r t,a7 C t->t r=some (.tup (g q))->U (.ref r) t)->te (some q.1::some q.2::I) C U)
 (hd:∀ys t,a7 H t->t l=some (.lst (ys.map V.ref))->bu t ys ((prs.filter p).map g)->Q t):iA K J l I tt te H Q:=by
 have h:j.length=prs.length:=by rw[hT.1,ZI]
 refine{λi m B d=>m=j.length-i/\i<=j.length/\a7 H d/\∃ys:List Addr,B=ys.map V.ref/\d l=some (.lst (ys.map V.ref))/\bu d ys (((prs.take i).filter p).map g),{j.length,by simp,wal _,a7.upd hl,[],rfl,a6,by simpa using bu.nil _},?_};rintro i m B d ⟨rfl,hi,c,ys,rfl,k,n⟩;refine{k,?_}
 by_cases a:i<j.length
 .refine .inr {hJ.go i d (T _ c) (by rw[ZI];exact a),?_,λx C y=>?_}
  .rw[ZI,n.1,ZI];refine waI (waT _ _) ?_;rw[wa5];omega
  .obtain⟨e,D⟩:=hJ.uC i d x C (T _ c) (by rw[ZI];exact a) y;subst e;have E:prs[i]?=some prs[i]:=ZJ ();have G:j[i]?=some j[i]:=ZJ a;rw[ZM,G]at D;obtain rfl:V.ref j[i]=x:=ZU D;have mem:prs[i]∈prs:=wah _;have L:prs.take (i+1)=prs.take i++[prs[i]]:=by rw[waw,E];rfl
   refine{j[i],prs[i].1,prs[i].2,rfl,fJ.of (c _ _ (hT.2 i j[i] _ G (by rw[ZM,E];rfl))),ht prs[i] _ _ mem c λN f=>?_}
   cases u:p prs[i] with
   |false=>
    rw[if_neg wa2];refine{j.length-(i+1),(),rfl,a,c.trans f,ys,rfl,f _ _ k,?_}
    have e:((prs.take (i+1)).filter p).map g=((prs.take i).filter p).map g:=by
     rw[L,wbk];simp[u]
    rw[e];exact n.same f
   |true=>
    rw[if_pos rfl];refine he prs[i] _ _ mem u (c.trans f) λr O s v=>{s _ _ (f _ _ k),j.length-(i+1),(),rfl,a,λb o e=>?_,ys++[r],by rw[wa1];rfl,by rw[a6,wa1];rfl,?_}
    .rw[ae (af e hl)];exact s _ _ (f _ _ (c _ _ e))
    .have e:((prs.take (i+1)).filter p).map g=((prs.take i).filter p).map g++[g prs[i]]:=by
      rw[L,wbk];simp[u]
     rw[e];have w:=s _ _ (f _ _ k);refine bu.keep ((n.same (f.trans s)).snoc v) λR M A=>?_;rw[ae (λz=>by rw[z,w]at A;cases A)];exact A
 .have e:i=j.length:=();subst e;refine .inl {?_,hd ys d c k ?_}
  .have:=hJ.stop d (T _ c);rwa[ZI]at this
  .rw[h,wam]at n;exact n
section
variable{X:Cx}{scope:wct}{x x2:Str}{ys:List Str}{ix:List Nat}
theorem qw(hc:X.calm=true)(B:bP X scope x ys ix)(hN:X.N.Nodup)(hy:X.N[i]?=some y)(t:X.env.scope.names.lookup y=some .local)(B2:bP X scope x2 ys ix)(I:x≠x2)(hi:PI X (.Tuple [.Name x U,.Name x2 g] kt pt) iter wi)
 (ht:∀cl L s H ex pn,GC (bA X scope (x::x2::ys) cl L s H ex pn) j tt) (he:∀cl L s H ex pn,PE (bA X scope (x::x2::ys) cl L s H ex pn) p te)
 (T:wbD (.ListComp p [{.Tuple [.Name x U,.Name x2 g] kt pt,iter,j,0}] scope pos) (some (.Name y py)) r.line X.env=pure true:=by rfl)
 (hs:∀v,wbr iter X.env v=pure v:=by intro _;rfl):PS X (.Assign [.Name y py] (.ListComp p [{.Tuple [.Name x U,.Name x2 g] kt pt,iter,j,0}] scope pos) r) (Ht X.K wi ix tt te i):=
 qe (C:=λJ l a H Q=>iA X.K J l a tt te H Q) (xs:=[x,x2]) hc B hN hy t (yY hc B B2 I) (λ_ _ _ _ _=>yo) hi ht he T hs
end
end L2
namespace K40
structure Dq(K:ZK)(C:Addr):Prop where
 cl:zx K C
 gm:bX K C "scheme"
 G1:bX K C "band"
 Ln:bX K C "many"
 G2:bX K C "wide"
 dH:bX K C "homes"
 cf:bX K C "lines"
 wh:bX K C "opening"
 BM:bX K C "first"
structure Pl where
 g:Str
 bw:List Str
 ss:List Str
 ls:List Str
 many:Int
 n:Nat
 f:Str->Int
 cp:List rV
 ks:List Nat
 hs:List Str
 ws:List Int
 lns:List (List (Str×Nat))
 b:Nat
noncomputable def Pl.R(p:Pl):Wr:={p.g,p.bw,p.ss,p.ls,jl p.hs p.ks,p.many,p.n,p.b,p.cp.length,dg p.lns p.ks p.many.toNat}
noncomputable abbrev Lp(p:Pl)(x xb y:Addr)(v5 v6 v7 v8 v9:Option V):St:=[some (.ref x),some (.ref xb),some (.int p.many),some (.int (p.n:Int)),some (.ref y),v5,v6,v7,v8,v9]
noncomputable abbrev Lq(p:Pl)(x a:Addr)(v3 v4 v5:Option V):St:=[some (.ref x),some (.ref a),some (.int (p.n:Int)),v3,v4,v5]
theorem G3{X:Cx}{x:Str}{i:Nat}{g:List Expr}{ps:List (Int×Int)}{rest:List Stmt}{b:TS}{j l p:Pos}(r:X.N.Nodup)(hi:X.N[i]?=some x)(t:Loc X.env.scope x)(C:∀X,PA X g (sr ps))(I:uE X rest b)
 (hs:wbD (.List g l) (some (.Name x j)) p.line X.env=pure false:=by rfl) (J:X.fn x=true\/X.env.scope.names.lookup x=some .local:=by first |exact .inl rfl |exact .inr rfl |assumption) :
 uE X (.Assign [.Name x j] (.List g l) p::rest) (Km (Hk (MH (sr ps)) (eI i)) b):=a5 (Ez (i:=i) r hi t (cC (C _)) hs J) I
noncomputable abbrev NA(p:Pl)(a lw lh x:Addr)(v7 v8:Option V):St:=[some (.ref a),some (.str p.g),some (.ref lw),some (.int p.many),some (.int (p.n:Int)),some (.ref lh),some (.ref x),v7,v8]
inductive Qv(p:Pl)(a lw lh x:Addr)(H1:Hp)(i:Nat)(σ:St)(H':Hp):Prop
 |mk (_:a7 H1 H') (v7 v8) (_:σ=NA p a lw lh x v7 v8)
section
variable{K:ZK}
inductive Lr(K:ZK)(CS:Addr)(p:Pl)(x xb y:Addr)(H1:Hp)(i:Nat)(σ:St)(H':Hp):Prop
 |mk (_:a7 H1 H') (z hs ws lns) (_:bQ K CS H' z hs ws lns) (_:dE p.g p.bw p.ss p.ls p.many p.n p.f (p.cp.take i) hs ws lns) (_:Fw p.many p.hs p.ws p.lns hs ws lns (p.cp.drop i)) (v6 v7 v8) (_:σ=Lp p x xb y (some (.ref z)) v6 v7 v8 none)
end
end K40
namespace L2
structure dS(K:ZK)(C:Addr)(nm qual:Str)(st:Stmt)(ps:List Str)(f:Addr)(fd:wb3):Prop where
 F:xX K nm qual st f fd
 b:Binds K fd ps []
 m:Hg K C nm f
theorem wj:∀(g:List Addr) (j:List (Str×Str)),bu H g (j.map km)->aO K H (j.map Jr) (g.map V.ref)
 |[],[],_=>rfl
 |[],_::_,h=>by have:=h.1;simp at this
 |_::_,[],h=>by have:=h.1;simp at this
 |r::g,q::j,h=>by
  refine{.ref r,g.map V.ref,rfl,{r,km q,rfl,h.2 0 r (km q) rfl rfl,?_},wj g j {by have:=h.1;simpa using this,λi a b c d=>h.2 (i+1) a b c d}};exact{.str q.1,[.str q.2],rfl,⟨rfl,rfl⟩,{.str q.2,[],rfl,⟨rfl,rfl⟩,rfl}}
theorem Qw.Bs.dN.YH(R:dN H l j g):b7 K H (.lst (g.map Jr)) (.ref l):={l,_,rfl,.inl R.l,wj j g R.t}
theorem fH.rd(h:Rd H a (.lst xs)):fH K H (.ref a) (.type "list"):=by
 rcases h with e |⟨o,e⟩
 .exact .lst e
 .exact .frz e
theorem IH{X:Cx}(g:X.K=K):LY X (Mx K):=by
 subst g;exact fO
theorem Dr{Ok:Hp->Prop}{Q:Hp->Prop}(R:Nat->V->Hp->Prop)(I:∀i y T g ys,R i y T->T l=some (.lst ys)->(∀b o,T b=some o->b≠l->g b=some o)->R i y g)(U:k4 J Ok xs)(hl:H l=none)(hz:xs.length<=sizeLine)(t:∀r,a7 H r->Ok r)
 (he:∀i x C ys,xs[i]?=some x->a7 H C->C l=some (.lst ys)->∃p a b c,x=.ref p/\fJ K C p [a,b,c]/\∀Q',(∀y r,a7 C r->R i y r->Q' y r)->te (some a::some b::some c::σf) C Q')
 (hd:∀ys r,a7 H r->r l=some (.lst ys)->ys.length=xs.length->(∀i y,ys[i]?=some y->R i y r)->Q r):sQ K J l σf uH te H Q:=by
 refine{λi m d g=>m=xs.length-i/\i<=xs.length/\a7 H g/\g l=some (.lst d)/\d.length=i/\∀j y,d[j]?=some y->R j y g,{xs.length,by simp,wal _,a7.upd hl,a6,rfl,λj y h=>by simp at h},?_};rintro i m d g ⟨rfl,hi,n,q,f,E⟩;refine{q,?_}
 by_cases k:i<xs.length
 .refine .inr {U.go i g (t _ n) k,by rw[f];lia,λx C y=>?_};obtain⟨e,G⟩:=U.uC i g x C (t _ n) k y;subst e;obtain⟨p,a,b,c,rfl,L,M⟩:=he i x _ d G n q;refine{p,a,b,c,rfl,L,?_};unfold uH;dsimp only;rw[if_pos rfl];refine M _ λy v w A=>{w _ _ q,xs.length-(i+1),by lia,rfl,k,λb o e=>?_,a6,by rw[ZP,f];rfl,λj z s=>?_}
  .rw[ae (af e hl)];exact w _ _ (n _ _ e)
  .have u:=w _ _ q;have kp:∀b o,v b=some o->b≠l->(upd v l (.lst (d++[y]))) b=some o:=λb o e N=>by rw[ae N];exact e
   by_cases B:j<d.length
   .rw[wai B]at s;exact I j z v _ _ (I j z _ _ _ (E j z s) q λb o e _=>w _ _ e) u kp
   .rw[waf (by lia)]at s
    have D:j-d.length=0:=by
     have:=(ZO.mp s).1;simp at this
     lia
    rw[D]at s;cases s;have:j=i:=by lia
    rw[this];exact I i y v _ _ A u kp
 .have e:i=xs.length:=by lia
  subst e;exact .inl {U.stop g (t _ n),hd d g n q f E}
end L2
namespace L2
open PySem.Spec PyProof.Rows PySem.W Builtin Builtin.ObjectAttr
section
variable{name:Str}
noncomputable abbrev Qx:List Value:=[.type "ValueError",.type "Exception",.type "BaseException",.type "object"]
noncomputable abbrev nD(CB:Addr):List Value:=.ref CB::Qx
theorem Ds{fs:List (Str×V)}{g:Str->Option Value}(r:∀f,j7 (fs.lookup f) (g f)):wdf g (fs.map (·.1)):=by grind [j7,wdf,ZZ,ZW]
theorem yZ(h:fs.lookup name=none)(f:Str):(fs++[(name,y)]).lookup f=if f=name then some y else fs.lookup f:=by
 grind
end
section
variable{prog:wad}{w:World}{A:Around}{s:Shared}{K:ZK}{x C CB f:Addr}{name:Str}{v:Value}{R:wdF->Shared->Prop}
theorem wk(X:K.In s.heap)(I:InstAt s.heap x ox C od)(hc:clsIn K C=some cd)(hm:cd.mro=.ref C::nD CB)(ha:findIn K (.ref C) name=some none)
 (h:wpAny (model prog w) A.in1 (storeInOwnDict (.ref x) (.ref C) (.str name tk) name v false)
   (λfin s'=>match fin with |.done f=>R (.ok f) s' |.again c'=>c'.quiet=true/\codeAny (model prog w) A c' R s') (λe s'=>R (.error e) s') s) :
 codeAny (model prog w) A (.call (.builtin "object.__setattr__") {[.ref x,.str name tk,v],[]}) R s:=by
 have SF:=PySem.F.store_object;have sub:Looks (model prog w) s.heap (isInstance (.ref x) (.type "object")) true:=I.type.andThen (looks_mroIn X (by unfold mroIn;rw[hc,Option.bind_some,hm];rfl));refine wck SF.slot.plain SF.entry (@check_slot (model prog w) _ _ s "object.__setattr__" "object" "__setattr__" (.ref x) [.str name tk,v] [] _ SF.kind SF.split sub (SF.args (.ref x) (.str name tk) v) ?_);have Qy:Looks (model prog w) s.heap (mroOf (.ref C)) cd.mro:=(wdC X hc).andThen .now;have L3:Looks (model prog w) s.heap (storeTaker? none) none:=.now;rw[osa_eq,refuse_eq];refine ZN (ZN (I.type.here (ZN (Qy.here ?_))));rw[hm,refuseLoop_ref,refuseLoop_ref,PySem.F.store_ValueError.passes];refine waa (ZN (I.type.here (ZN ((wek X ha).here (ZN (L3.here ?_))))));exact h
end
end L2
namespace L2
open PySem.Spec PyProof.Rows
section
variable{prog:wad}{w:World}{A:Around}{R:wdF->Shared->Prop}{h:Heap}{g:Array wcS}{d:Drawn}{t:Nat}{os:wbv}{nm q:Str}{C CB N:Addr}{bs:List Value}{hdct:Bool}{sn:List Str}{sub:List Value}{ab:Bool}{col:Option Bool}{dd:Option Addr}{k0 k1 k2 k3 k5:Option Value}
theorem II{M:Model}{E:Value->Shared->Prop}{rest:List Value}{Q:Unit->Shared->Prop}(j:h.get? C=some (wbj nm q C N bs (nD CB) hdct sn sub ab col dd k0 k1 k2 k3 k5 "ValueError.__new__"))
 (l:Q .unit ⟨h,g,d,t,os⟩):wpAny M A (wdP "ValueError.__new__" {.ref C::rest,[]}) Q E ⟨h,g,d,t,os⟩:=by
 have F:=wbJ;have a:(ZY C::nD CB).contains (.type "ValueError")=true:=rfl;have b:=F.noStar;simp only[wdP,F.newKind,F.newSplit,F.newRow]
 repeat (first |refine waO j ?_ |(refine wbu j ?_;rw[a]) |refine wpAny_staticBase_exc j ?_ |refine wpAny_madeBy_exc j ?_ |simp only[bne_self_eq_false,wbw,if_false] |wp_step)
 exact l
theorem IJ{rest:List Value}(j:h.get? C=some (wbj nm q C N bs (nD CB) hdct sn sub ab col dd k0 k1 k2 k3 k5 "ValueError.__new__"))
 (r:R (.ok (.ret (.ref (h.objs.size+1)))) {(h.push {cls:=.type "tuple",data:=.seq rest.toArray}).push
   {cls:=.ref C,data:=.fields #[.ref h.objs.size,.none,.none,.none,.bool false,.none]},g,d,t,os}) (l:rest.length<=sizeLine:=by size_fits) :
 codeAny (model prog w) A (.builtin "ValueError.__new__" {.ref C::rest,[]}) R ⟨h,g,d,t,os⟩:=by
 have F:=wbJ;have a:=F.ends;have b:(ZY C::nD CB).contains (.type "ValueError")=true:=rfl;have c:(ZY C::nD CB).contains (.type "AttributeError")=false:=rfl;have e:(ZY C::nD CB).contains (.type "NameError")=false:=rfl;refine codeAny_builtinAt F.entry ?_;unfold weh.«BaseException.__new__»;refine whi ?_;show PySem.wpAt _ _ _ (PySem.stack >>= _) _ _ _;refine whi (PySem.wpAt_stack λp f=>wgc ?_)
 wp_walk
 refine wgc ?_;rw[F.owner]
 repeat (first |with_reducible refine wpAny_madeHere_exc F.canon j ?_ |with_reducible refine waO j ?_ |(with_reducible refine wbu j ?_;first |rw[b] |rw[c] |rw[e]) |wp_step)
 show R _ _;rw[wbo];exact r
theorem qx{E:Value->Shared->Prop}{Q:Flow->Shared->Prop}(p:A.handled=none)
 (h:wpAny M A (eval x env) (λv j=>∃e l t,v=.ref e/\j.heap.get? C=some (wbj nm q C N bs (nD CB) hdct sn sub ab col dd k0 k1 k2 k3 k5 "ValueError.__new__") /\
   j.heap.get? e=some {cls:=.ref C,dict:=l,data:=.fields #[.ref t,.none,.none,.none,.bool false,.none]}/\E (.ref e) j) E s) :
 wpAny M A (exec (.Raise (some x) none pos) env) Q E s:=by
 have key:wpAny M A (raiseStmt env (some (do let v <-eval x env;standAt pos;pure v)) none) Q E s:=by
  have b:(ZY C::nD CB).contains (.type "BaseException")=true:=rfl;unfold raiseStmt;refine ZN (ZN (waF h (λv j a=>ZN (wd4 (waa ?_))) λ_ _ x=>x));obtain⟨e,l,t,rfl,c,f,i⟩:=a;obtain⟨k,g,d,m,os⟩:=j
  repeat (first |with_reducible refine waO f ?_ |with_reducible refine waO c ?_ |(with_reducible refine wbu c ?_;rw[b]) |wp_step)
  exact wpAny_raiseNew_none p i
 rw[arm_exec_Raise];exact ZN (wd4 key)
end
structure eV(K:ZK)(C CB:Addr)(nm:Str):Prop where
 lk:∃(q:Str) (N:Addr) (bs:List Value) (sn:List Str) (sub:List Value) (ab:Bool) (col:Option Bool) (dd:Option Addr) (k0 k1 k2 k3 k5:Option Value),
  K.lookup C=some (wbj nm q C N bs (nD CB) true sn sub ab col dd k0 k1 k2 k3 k5 "ValueError.__new__")
 sa:findIn K (.ref C) "__setattr__"=some (some (.builtin "object.__setattr__"))
 ga:findIn K (.ref C) "__getattribute__"=some (some (.builtin "BaseException.__getattribute__"))
 gh:findIn K (.ref C) "__getattr__"=some none
 kp:keepIn K (.ref C)=true
structure Ls(K:ZK)(CB:Addr)(nm:Str):Prop where
 lk:∃(q:Str) (N:Addr) (bs:List Value) (hd:Bool) (sn:List Str) (sub:List Value) (ab:Bool) (col:Option Bool) (dd:Option Addr) (k0 k1 k2 k3 k5:Option Value),
  K.lookup CB=some (wbj nm q CB N bs Qx hd sn sub ab col dd k0 k1 k2 k3 k5 "ValueError.__new__")
section
variable{X:Cx}{e o:Expr}{es:List Expr}{ta:TE}{t:TA}{pos apos:Pos}{C f:Addr}{q:Str}{st:Stmt}{ps:List Str}{k:Nat}{sp:Sp}
theorem fI{m:Str}{fd:wb3}{pl:Sem Bool}(he:PE X o ta)(c:zx X.K C)(g:dS X.K C m q st ps f fd)(F:aQ X.prog X.w X.K X.mg X.base cI k f fd ps sp)(l:cU k X.A:=by exact cU.mono (by assumption) ⋯)
 (r:eval (.Call (.Attribute o m apos) [] [] pos) X.env=(do
   let j <-eval o X.env
   standAt apos.atName
   let (f,first) <-holding [j] (wdT j m pl)
   callWith pos f first (backTo pos (starEach [] X.env)) (backToKw pos (wcm [] X.env))):=by rfl) :
 PE X (.Call (.Attribute o m apos) [] [] pos) (Bk C m sp [] E0 ta wI):=EX he c g.m F l g.b .nil lX r
theorem Dt{m:Str}{fd:wb3}{pl:Sem Bool}(he:PE X o ta)(c:zx X.K C)(j:dS X.K C m q st ps f fd)(F:aQ X.prog X.w X.K X.mg X.base cI k f fd ps sp)(ha:PA X (e::es) t)(r:cU k X.A:=by exact cU.mono (by assumption) ⋯)
 (g:starEach (e::es) X.env=(false,eval e X.env)::starEach es X.env:=by rfl) (hpl:(backTo pos (starEach es X.env)).any (·.1)=false:=by rfl)
 (I:eval (.Call (.Attribute o m apos) (e::es) [] pos) X.env=(do
   let l <-eval o X.env
   standAt apos.atName
   let (f,first) <-holding [l] (wdT l m pl)
   callWith pos f first (backTo pos (starEach (e::es) X.env)) (backToKw pos (wcm [] X.env))):=by rfl) :
 PE X (.Call (.Attribute o m apos) (e::es) [] pos) (Bk C m sp [] E0 ta t):=HA he c j.m F r j.b .nil lX ha g hpl I
end
section
variable{M:Model}{A:Around}{E:Value->Shared->Prop}{e C C1 CB:Addr}{nm q:Str}{N:Addr}{bs:List Value}{hdct:Bool}{sn:List Str}{sub:List Value}{ab:Bool}{col:Option Bool}{dd:Option Addr}{k0 k1 k2 k3 k5:Option Value}{Qz q':Str}{N':Addr}{Vp:List Value}{NB:Bool}{Vq:List Str}{QA:List Value}{Vr:Bool}{QB:Option Bool}{Vs:Option Addr}{Vt Vu Vv Vw Vx:Option Value}
theorem qy{h:Heap}{g:Array wcS}{d:Drawn}{t:Nat}{os:wbv}{p:Obj}{Q:Bool->Shared->Prop}(l:h.get? C=some (wbj nm q C N bs (nD CB) hdct sn sub ab col dd k0 k1 k2 k3 k5 "ValueError.__new__"))
 (he:h.get? e=some p) (j:p.cls=.ref C) (r:Q true ⟨h,g,d,t,os⟩) :
 wpAny M A (wg1 (.ref e) (.ref C)) Q E ⟨h,g,d,t,os⟩:=by
 have a:(ZY C::nD CB).contains (.type "BaseException")=true:=by grind
 have b:(ZY C::nD CB).contains (.ref C)=true:=by grind
 have f:=tc_notTuple;unfold wg1
 repeat (first |(with_reducible refine waO he ?_;rw[j]) |with_reducible refine waO l ?_ |(with_reducible refine wbu l ?_;rw[b]) |(with_reducible refine wbu l ?_;rw[a]) |wp_step)
 exact r
theorem xx{h:Heap}{g:Array wcS}{d:Drawn}{t:Nat}{os:wbv}{I:Obj}{Q:Bool->Shared->Prop}(j:h.get? C1=some (wbj Qz q' C1 N' Vp (nD CB) NB Vq QA Vr QB Vs Vt Vu Vv Vw Vx "ValueError.__new__"))
 (J:h.get? C=some (wbj nm q C N bs (nD CB) hdct sn sub ab col dd k0 k1 k2 k3 k5 "ValueError.__new__"))
 (he:h.get? e=some I) (l:I.cls=.ref C) (p:C1≠C) (r:C1≠CB) (T:Q false ⟨h,g,d,t,os⟩) :
 wpAny M A (wg1 (.ref e) (.ref C1)) Q E ⟨h,g,d,t,os⟩:=by
 have a:(ZY C1::nD CB).contains (.type "BaseException")=true:=by simp[wgz,nD]
 have b:(ZY C::nD CB).contains (.ref C1)=false:=by simp[wgz,nD,p,r]
 have f:=tc_notTuple;unfold wg1
 repeat (first |(with_reducible refine waO he ?_;rw[l]) |with_reducible refine waO j ?_ |with_reducible refine waO J ?_ |(with_reducible refine wbu J ?_;rw[b]) |(with_reducible refine wbu j ?_;rw[a]) |wp_step)
 exact T
end
end L2
namespace Sx
structure QC(K:ZK)(C CB:Addr)(nm:Str):Prop where
 lk:∃(q:Str) (N:Addr) (bs:List Value) (sn:List Str) (sub:List Value) (ab:Bool) (col:Option Bool) (dd:Option Addr) (k0 k1 k2 k3 k5:Option Value),
  K.lookup C=some (wbj nm q C N bs (nD CB) true sn sub ab col dd k0 k1 k2 k3 k5 "ValueError.__new__")
theorem BO
 (l:K.lookup C=some (wbj nm q C N bs (nD CB) true sn sub ab col dd k0 k1 k2 k3 k5 "ValueError.__new__")):QC K C CB nm:=⟨q,N,bs,sn,sub,ab,col,dd,k0,k1,k2,k3,k5,l⟩
theorem IK
 (l:K.lookup CB=some (wbj nm q CB N bs Qx hd sn sub ab col dd k0 k1 k2 k3 k5 "ValueError.__new__")):Ls K CB nm:=⟨q,N,bs,hd,sn,sub,ab,col,dd,k0,k1,k2,k3,k5,l⟩
inductive Lv(K:ZK)(C:Addr)(vs:List V)(H:Hp)(Q:VK)(eC:XK):Prop
 |mk (x many hs ws lns) (_:vs=[.ref x,.int many]) (_:bQ K C H x hs ws lns) (_:lns.length<=1000) (_:(∀l∈lns,l.length<=10000)) (_:∀(l:Addr) (ks:List Nat) (H':Hp),a7 H H'->H l=none->H' l=some (.lst ((nI ks).map V.int))->nh lns many ks->Q (.ref l) H')
inductive Lw(K:ZK)(C:Addr)(vs:List V)(H:Hp)(Q:VK)(eC:XK):Prop
 |mk (x many hs ws lns) (_:vs=[.ref x,.int many]) (_:bQ K C H x hs ws lns) (_:ib many hs ws lns) (_:nh lns many []) (_:hs≠[]) (_:hs.length<=1000) (_:(∀l∈lns,l.length<=10000)) (_:1<=many) (_:many<=1000) (_:∀(t l:Addr) (d:Nat) (ns:List Nat) (w:Int) (H':Hp),a7 H H'->H l=none->H t=none->H' t=some (.tup [.int (d:Int),.ref l,.int w])->H' l=some (.lst ((nI ns).map V.int))->cK ws lns many (d:Int) (nI ns) w=true->d<hs.length->ns.length<=1000->Q (.ref t) H')
inductive G4(C CO:Addr)(vs:List V)(H:Hp)(Q:VK)(E:XK):Prop
 |mk (x:Addr) (many:Int) (n:Nat) (g:Str) (ws ss ls:List Str) (_:vs=[.ref x,.int many,.int (n:Int)]) (_:aT C H x g ws ss ls) (_:2<=g.length) (_:g.length<=10) (_:ss.length<=900) (_:eU g.length many n) (_:(∀(d:Addr) (f:Str->Int) (H':Hp),a7 H H'->H d=none->H' d=some (.dK (aY (bE f ls)))->rY g ws ss ls many n f->Q (.ref d) H')) (_:(xr g ws ss ls many n->∀H',a7 H H'->E (.ref CO) none H'))
end Sx
namespace PySem
section
variable{P:wad}{W0:World}{B:Around}{R:wdF->Shared->Prop}{I:Addr}{fp wr:List Addr}{n:Nat}{Pr:Nat->Value->Prop}{St:Nat->Heap->Prop}
theorem uR(W:Walks P W0 B.in1 I fp wr n Pr St)(bt:Nat->Nat->Bool)(cmp:CmpOf P W0 B.in1 .Gt Pr bt)(S:Addr)(nS:S∉fp)(kw:List (Str×Value)) :
 ∀(k j:Nat) (z:Shared) (best:Value) (c:Nat),n-(j+1)=k->j+1<=n->St (j+1) z.heap->Pr (argBest bt j) best->z.heap.get? S=some {cls:=.type "list",dict:=none,data:=.seq #[best,best] c,slots:=#[]} ->
 (∀v h' tk,Pr (argBest bt (n-1)) v->(∀b o,b∉wr->b≠S->z.heap.get? b=some o->h'.get? b=some o)->R (.ok (.ret v)) {z with heap:=h',toks:=tk}) ->
 codeAny (model P W0) B (.builtin "max.loop" {[.ref I,.none,.ref S],kw}) R z:=by
 have OG:S∉wr:=λh=>nS (W.sub _ h);have nm:(toString "max"++toString ".loop":String)="max.loop":=⋯;intro k
 induction k with
 |zero=>
  intro j z best c hk hj st pb gS fin;have last:j+1=n:=();refine wbg wdQ ?_;rw[wb7 wbC _];show wpAny _ B.in1 (wdV (.ref S) >>= _) _ _ z;refine ZN (wcq gS rfl ?_);show wpAny _ B.in1 (tryCatch (pyNext (.ref I)) _ >>= _) _ _ z;refine ZN (wbq (W.done z _ _ (last ▸ st) λh' tk kp=>?_));have JG:=kp S _ OG gS;show wpAny _ B.in1 (wgy S (λ_=>#[]) >>= _) _ _ _;refine ZN (wcJ JG rfl (ZN (wcP (waa ?_))));exact fin best _ tk (by rw[<-last];exact pb) λb o h1 h2 e=>(wat _ _ (wb4 h2)).trans (kp b o h1 e)
 |succ k ih=>
  intro j z best c hk hj st pb gS fin;have more:j+1<n:=();refine wbg wdQ ?_;rw[wb7 wbC _];show wpAny _ B.in1 (wdV (.ref S) >>= _) _ _ z;refine ZN (wcq gS rfl ?_);show wpAny _ B.in1 (tryCatch (pyNext (.ref I)) _ >>= _) _ _ z;refine ZN (wbq (W.item (j+1) z _ _ more st λv h' tk hP OH kp=>?_));have JG:=kp S _ OG gS;show wpAny _ B.in1 (tryCatch (holding [v,v] (richCompare .Gt v best >>= _)) _ >>= _) _ _ _;refine ZN (wbq (wb0 (ZN (cmp (j+1) (argBest bt j) v best _ _ _ hP pb ?_))));refine ZN (wb0 (wb2 (ZN (wcP (waa ?_)))))
  cases hb:bt (j+1) (argBest bt j) with
  |true=>
   simp only[if_true];refine ZN (wcJ JG rfl (ZN (wcP ?_)));rw[nm];refine waa {wbI wbC _,ih (j+1) _ v _ () more (W.frame _ _ _ OH λb SU o e=>?_) (by simp only[argBest,hb,if_true];exact hP) (wbd _ JG rfl) λv' h2 NF NI NK=>?_}
   .exact(wat _ _ (λh:S=b=>nS (by rw[h];exact SU))).trans e
   .exact fin v' h2 NF NI λb o h1 h3 e=>NK b o h1 h3 ((wat _ _ (wb4 h3)).trans (kp b o h1 e))
  |false=>
   simp only[wbw,if_false];refine ZN (wcP ?_);rw[nm];refine waa {wbI wbC _,ih (j+1) _ best c () more OH (by simp only[argBest,hb,wbw,if_false];exact pb) JG λv' h2 NF NI NK=>?_};exact fin v' h2 NF NI λb o h1 h3 e=>NK b o h1 h3 (kp b o h1 e)
theorem tY(W:Walks P W0 B.in1 I fp wr n Pr St)(bt:Nat->Nat->Bool)(cmp:CmpOf P W0 B.in1 .Gt Pr bt)(S:Addr)(nS:S∉fp)(kw:List (Str×Value))(pos:0<n)(st:St 0 z.heap)(gS:z.heap.get? S=some {cls:=.type "list",dict:=none,data:=.seq #[] c,slots:=#[]})
 (fin:∀v h' tk,Pr (argBest bt (n-1)) v->(∀b o,b∉wr->b≠S->z.heap.get? b=some o->h'.get? b=some o)->R (.ok (.ret v)) {z with heap:=h',toks:=tk}):codeAny (model P W0) B (.builtin "max.loop" {[.ref I,.none,.ref S],kw}) R z:=by
 have OG:S∉wr:=λh=>nS (W.sub _ h);have nm:(toString "max"++toString ".loop":String)="max.loop":=⋯;refine wbg wdQ ?_;rw[wb7 wbC _];show wpAny _ B.in1 (wdV (.ref S) >>= _) _ _ z;refine ZN (wcq gS rfl ?_);show wpAny _ B.in1 (tryCatch (pyNext (.ref I)) _ >>= _) _ _ z;refine ZN (wbq (W.item 0 z _ _ pos st λv h' tk hP OH kp=>?_));have JG:=kp S _ OG gS;show wpAny _ B.in1 (wgy S (λ_=>#[v,v]) >>= _) _ _ _;refine ZN (wcJ JG rfl ?_);rw[nm];refine waa {wbI wbC _,uR W bt cmp S nS kw _ 0 _ v _ rfl pos (W.frame _ _ _ OH λb SU o e=>?_) hP (wbd _ JG rfl) λv' h2 NF NI NK=>?_}
 .exact(wat _ _ (λh:S=b=>nS (by grind))).trans e
 .exact fin v' h2 NF NI λb o h1 h3 e=>NK b o h1 h3 ((wat _ _ (wb4 h3)).trans (kp b o h1 e))
theorem uS(W:Walks P W0 B.in1 I fp wr n Pr St)(S:Addr)(nS:S∉fp)(dv:Value)(NM:n=0)(st:St 0 z.heap)(gS:z.heap.get? S=some {cls:=.type "list",dict:=none,data:=.seq #[] c,slots:=#[]})
 (fin:∀h' tk,(∀b o,b∉wr->b≠S->z.heap.get? b=some o->h'.get? b=some o)->R (.ok (.ret dv)) {z with heap:=h',toks:=tk}):codeAny (model P W0) B (.builtin "max.loop" {[.ref I,.none,.ref S],[(wbU "default",dv)]}) R z:=by
 refine wbg wdQ ?_;rw[wb7 wbC _];show wpAny _ B.in1 (wdV (.ref S) >>= _) _ _ z;refine ZN (wcq gS rfl ?_);show wpAny _ B.in1 (tryCatch (pyNext (.ref I)) _ >>= _) _ _ z;refine ZN (wbq (W.done z _ _ (NM ▸ st) λh' tk kp=>?_));have done:=fin h' tk λb o h1 _ e=>kp b o h1 e
 wp_walk
 exact done
theorem uT(a v:Value):argsOk "max" {[a],[(wbU "default",v)]}:=by unfold argsOk;kernel_rfl
end
end PySem
namespace SV
open PyProof.Rows PySem.W PySem.Calls
theorem rE:∀(ns:List Int) (vs:List Value),WellAll P h vs (ns.map WData.int)->IntsAre vs ns:=by
 intro ns
 induction ns with
 |nil=>
  intro vs w;rw[we0]at w;cases w;exact .nil
 |cons n ns c=>
  intro vs w;rw[wab]at w
  cases w with
  |cons a b=>
   cases a;exact .cons _ _ (c _ b)
theorem Du{l:wec}{n:Nat}(hn:l.most=some n){P:Params}{h:Heap}{args:List WData}{g:List Value}
 (j:l.row.toRowW.claim.pre args=true) (p:WellAll P h g args) :
 ∃a vs ns,g=[ZY a]/\args=[WData.list (ns.map WData.int)]/\h.get? a=some {cls:=.type "list",data:=.seq vs.toArray}/\IntsAre vs ns/\ns.length<=n:=by
 have i:WShape.hasAll [] args [.list .int]=true:=(pre_splitW j).1;have hc:l.pre.holds [] {args:=args}=true:=(pre_splitW j).2;obtain⟨d,r,rfl,k,m⟩:=hasAllW_cons i;obtain rfl:=hasAllW_nil m;obtain⟨w,rfl,o⟩:=hasW_list k;obtain⟨ns,rfl⟩:=items_int o
 have b:ns.length<=n:=by
  unfold OpenLaw.pre at hc
  have e:(WTm.not (.lt (.lit (.int (n:Int))) (.len (.arg 0)))).holds [] {args:=[.list (ns.map .int)]}=true:=by
   have e:=(holds_andW hc).1;rw[hn]at e;exact e
  have f:=condW_of e (w_not (w_lt w_lit (w_len_list (w_arg rfl))));rw[ZI]at f;refine wh4 λq=>?_;have s:(n:Int)<((ns.length:Nat):Int):=()
  first
   |(rw[decide_eq_true s]at f;exact absurd f ⋯)
   |(simp at f;omega)
 cases p with
 |cons t u=>
  cases u
  cases t with
  |list v c=>exact{_,_,ns,rfl,rfl,v,rE ns _ c,b}
theorem Dv(l:wec)(args:List WData):l.row.toRowW.claim.post args (.bool true) args=true:=
 postW_of (r:=l.row.toRowW) (X:=(true==true))
  (show WShape.has [] (.bool true) .bool=true by first |rfl |decide |simp[WShape.has,WShape.arms,WShape.armsAll])
  (show (WTm.eq .res (.lit (.bool true))).value [] {args:=args,res:=some (.bool true),after:=args}=some (.bool (true==true)) from w_eq_bool (w_res rfl) w_lit) rfl
theorem z4{l:wec}{n:Nat}{q:wad}{loose:List Str}{XP:(Str->Option Value)->Heap->Prop}{YP:World->Heap->Prop}{d:DefRec}
 (hn:l.most=some n) (t:d.params.defaults=[])
 (call:∀(w:World) (s₀ g:Shared) (mg C:Str->Option Value) (p:Addr) (o:Obj) (pm cd j:Value) (a:Addr) (vs:List Value) (ns:List Int),
   Ground q loose [] XP w s₀ mg C g.heap->YP w g.heap ->
   g.heap.get? p=some o->o.data=.func (docDef d.name d.params d.body d.scope pm cd j)->g.heap.CodeRec cd d.name->mg d.name=some (.ref p) ->
   g.heap.get? a=some {cls:=.type "list",data:=.seq vs.toArray}->IntsAre vs ns->ns.length<=n->g.gens=#[] ->
   codeAny (model l.prog w) callerA (.call (.ref p) {[.ref a],[]}) (λr s'=>r=.ok (.ret (.bool true))/\OldK g.heap s'.heap/\s'.os=g.os/\AllBare s'.gens) g) :
 wh5 q loose XP YP l.row.toRowW d [] (λf vs=>whj f vs):=by
 intro w s₀ g mg C G Y p o pm cd j x kV y hd i s k z args u as c v A m B;obtain rfl:x=.none:=Dflts.none s t;obtain rfl:kV=.none:=Dflts.noKw s;obtain⟨a,vs,ns,rfl,rfl,e,b,h⟩:=Du hn c m;refine enter_call (wbG (call w s₀ g mg C p o pm cd j a vs ns G Y y (fd_plain hd) i k e b h z) λr s' D=>?_);obtain⟨rfl,E,H,I⟩:=D;exact{.inl {.bool true,.bool true,[],rfl,λ_=>rfl,.bool true,Dv l _,λ_=>{List.Pairwise.nil,λ_ J=>(nomatch J)}},E,H,I}
end SV
namespace L2
open PySem.Spec PyProof.Rows Builtin Builtin.ObjectAttr
theorem eV.ne{K:ZK}{C D CB j:Addr}{nm g:Str}(U:eV K C CB nm)(l:eV K D j g)(h:¬nm=g):C≠D:=λe=>by
 subst e;obtain⟨q,N,bs,r,sub,ab,d,s,t,u,v,w,x,l1⟩:=U.lk;obtain⟨y,z,f,i,b,k,c,m,A,n,B,E,G,a⟩:=l.lk;rw[l1]at a;have:=congrArg (λo=>match o with |some (⟨_,_,.cls p,_⟩:Obj)=>p.name |_=>nm) a;exact h this
theorem eV.neT{K:ZK}{C CB g:Addr}{nm j:Str}(U:eV K C CB nm)(T:Ls K g j)(h:¬nm=j):C≠g:=λe=>by
 subst e;obtain⟨q,N,bs,r,sub,ab,d,s,t,u,v,w,x,l1⟩:=U.lk;obtain⟨y,z,f,i,k,b,l,c,m,A,n,B,D,E,a⟩:=T.lk;rw[l1]at a;have:=congrArg (λo=>match o with |some (⟨_,_,.cls p,_⟩:Obj)=>p.name |_=>nm) a;exact h this
section
variable{K:ZK}{C:Addr}
structure Lx(K:ZK)(C:Addr):Prop where
 ha:findIn K (.ref C) "__class__"=some (some (.builtin "object.__class__"))
 hn:wgA K (.builtin "object.__class__") "__get__"=some (some (.builtin "getset_descriptor.__get__"))
 nC:takesIn K (.builtin "object.__class__")=some true
end
end L2
namespace K40
structure Lk(K:ZK)(mg:Str->Option Value) where
 T:Txt mg
 (tZ u0 wm oj m6 m7 qA u3 kC om BP oo qB G5 wo nk z5 kD fU m9 kE oq ot BQ kF gv ou gX f5 kG iX ow jv qE z6 oy wq jL fz xA z7 fA jM kH kI mc kJ ie kK u5 md qF qG wt kL kM jN me oz oA jw gw gY ig mh qH u9 kN qI mi qJ qK qL qM oB oC oE mj qN:Addr)
 (ua ub wu oF ml mm qO uc kP oG BR oH qP G6 wx ud z8 kQ iY mn kR oI oJ BU kT jO oK gZ f7 kU iZ oM oN qQ z9 oO wy jP fB xB za ik jQ kW kX mq kY ip kZ ue mr qR qS wA lj lq jR mw oP oQ oR jS hE iq mx qT uf lu qU my qV qW qX qY oS oU oV mz qZ:wb3)
 nq:FnAt K mg "is_whole" (top 13) ["thing"] tZ ua
 ug:FnAt K mg "all_rows" (top 15) ["band","wide"] u0 ub
 wB:FnAt K mg "is_rate" (top 16) ["band","many","wide"] wm wu
 et:FnAt K mg "check_rate" (top 17) ["band","many","wide"] oj oF
 mB:FnAt K mg "longer_rows" (top 18) ["band","rows"] m6 ml
 iD:FnAt K mg "blocks_from" (top 19) ["band","place","wide"] m7 mm
 rg:FnAt K mg "ends_from" (top 21) ["band","place"] qA qO
 uh:FnAt K mg "all_ends" (top 22) ["band"] u3 uc
 hF:FnAt K mg "counts_up_to" (top 23) ["band","length"] kC kP
 oW:FnAt K mg "count_from" (top 24) ["band","place","length"] om oG
 BV:FnAt K mg "count" (top 25) ["band","length"] BP BR
 jx:FnAt K mg "block_ends" (top 27) ["band","wide"] oo oH
 lz:FnAt K mg "weight_of" (top 28) ["places","weights"] qB qP
 G7:FnAt K mg "fits" (top 29) ["band","many","wide","weights"] G5 G6
 wC:FnAt K mg "lowered" (top 30) ["ends","many","weights"] wo wx
 ui:FnAt K mg "greatest" (top 31) ["band","many","wide","most"] nk ud
 zb:FnAt K mg "scarce" (top 32) ["band","many","wide","most"] z5 z8
 lA:FnAt K mg "copied_steps" (top 34) ["line"] kD kQ
 g9:FnAt K mg "first_sheet" (top 36) ["band","many","wide","weights"] m9 mn
 hH:FnAt K mg "is_number_of" (top 37) ["number","things"] kE kR
 d4:FnAt K mg "check_part" (top 38) ["sheet","many","steps","weight"] oq oI
 oX:FnAt K mg "with_twins" (top 39) ["line","desk","twin"] ot oJ
 jy:FnAt K mg "split" (top 40) ["sheet","many","desk","numbers","weight"] BQ BU
 hO:FnAt K mg "copied_sheet" (top 45) ["sheet"] kF kT
 d7:FnAt K mg "check_not_scarce" (top 47) ["band","many","wide"] gX gZ
 cg:FnAt K mg "weights_of_least_most" (top 48) ["band","many","wide"] f5 f7
 lB:FnAt K mg "reached_from" (top 49) ["sheet","desk"] kG kU
 j0:FnAt K mg "closed_weights" (top 50) ["band","many","wide","weights"] iX iZ
 jz:FnAt K mg "steps_into" (top 51) ["line","desks"] ow oM
 jA:FnAt K mg "kept_desks" (top 52) ["sheet","many"] jv oN
 ri:FnAt K mg "step_down" (top 53) ["sheet"] qE qQ
 zc:FnAt K mg "run_by" (top 54) ["weights","numbers","many"] z6 z9
 oY:FnAt K mg "next_split" (top 55) ["sheet","many"] oy oO
 lR:FnAt K mg "plan_of" (top 56) ["band","many","wide"] wq wy
 jT:FnAt K mg "blocks_behind" (top 58) ["band","wide"] jL jP
 fC:FnAt K mg "steps_by_new_numbers" (top 59) ["line","kept","many"] fz fB
 IL:FnAt K mg "check_data" (top 60) ["data","many"] xA xB
 zf:FnAt K mg "walked" (top 61) ["lines","desk","data"] z7 za
 lC:FnAt K mg "all_among" (top 65) ["text","signs"] qF qR
 rj:FnAt K mg "are_signs" (top 66) ["thing"] qG qS
 wD:FnAt K mg "is_word" (top 67) ["thing","signs"] wt wA
 lD:FnAt K mg "check_barred" (top 68) ["barred","signs"] kL lj
 hU:FnAt K mg "bears_barred" (top 69) ["row","barred"] kM lq
 jU:FnAt K mg "sorted_places" (top 70) ["barred"] jN jR
 mC:FnAt K mg "longest_end" (top 71) ["row","places"] me mw
 oZ:FnAt K mg "moves_from" (top 72) ["place","signs","barred","places"] oz oP
 p0:FnAt K mg "leads_into" (top 73) ["ends","lot"] oA oQ
 p5:FnAt K mg "live_among" (top 74) ["moves"] jw oR
 ir:FnAt K mg "_law_here" (top 77) ["_law_script","_law_place_here"] qI qU
 iE:FnAt K mg "_law_shaken" (top 78) ["_law_cell","_law_many"] mi my
 rk:FnAt K mg "_law_band" (top 79) ["_law_script"] qJ qV
 rm:FnAt K mg "_law_rate" (top 80) ["_law_script","_law_signs"] qK qW
 ro:FnAt K mg "_law_told" (top 81) ["_law_signs","_law_words","_law_many","_law_wide"] qL qX
 lE:FnAt K mg "_law_good" (top 82) ["_law_row","_law_words"] qM qY
 jB:FnAt K mg "_law_place" (top 83) ["_law_row","_law_words"] oB oS
 eu:FnAt K mg "_law_whole" (top 84) ["_law_found"] oC oU
 p6:FnAt K mg "_law_steps" (top 85) ["_law_told_here","_law_desk","_law_words","_law_many","_law_wide"] oE oV
 mD:FnAt K mg "_law_walked" (top 86) ["_law_told_here","_law_band_here","_law_many","_law_wide"] mj mz
 rp:FnAt K mg "_law_lead" (top 87) ["_law_told_here","_law_words","_law_wide"] qN qZ
 av:Addr
 xC:mg "Sheet"=some (.ref av)
 ao:FP K av
 uj:Mk K av fU
 aE:Addr
 G8:mg "Plan"=some (.ref aE)
 aR:Iy K aE
 BW:Mk K aE gv
 ak:Addr
 G9:mg "Writer"=some (.ref ak)
 ag:Dq K ak
 Dw:Mk K ak fA
 aA:Addr
 Ga:mg "Band"=some (.ref aA)
 aP:Iz K aA
 BX:Mk K aA gw
 ez:dS K av "__init__" "Sheet.__init__" (inClass (top 35) 0) ["self","homes","weights","lines"] fU iY
 gx:dS K aE "__init__" "Plan.__init__" (inClass (top 46) 0) ["self","weights","splits","kept","last"] gv jO
 gH:dS K aE "sheet" "Plan.sheet" (inClass (top 46) 1) ["self"] ou oK
 iu:dS K ak "__init__" "Writer.__init__" (inClass (top 62) 0) ["self","band","many","wide"] fA ik
 eR:dS K ak "behind" "Writer.behind" (inClass (top 62) 1) ["self"] jM jQ
 hV:dS K ak "ahead" "Writer.ahead" (inClass (top 62) 2) ["self"] kH kW
 fD:dS K ak "start" "Writer.start" (inClass (top 62) 3) ["self"] kI kX
 mE:dS K ak "lead" "Writer.lead" (inClass (top 62) 4) ["self"] mc mq
 cq:dS K ak "desks" "Writer.desks" (inClass (top 62) 5) ["self"] kJ kY
 cA:dS K ak "place_at" "Writer.place_at" (inClass (top 62) 6) ["self","desk"] ie ip
 dU:dS K ak "steps" "Writer.steps" (inClass (top 62) 7) ["self","desk"] kK kZ
 Gb:dS K ak "write" "Writer.write" (inClass (top 62) 8) ["self","data"] u5 ue
 dC:dS K ak "plan" "Writer.plan" (inClass (top 62) 9) ["self"] md mr
 gy:dS K aA "__init__" "Band.__init__" (inClass (top 75) 0) ["self","signs","barred"] gw jS
 eW:dS K aA "check_place" "Band.check_place" (inClass (top 75) 2) ["self","place"] gY hE
 iw:dS K aA "check_live" "Band.check_live" (inClass (top 75) 3) ["self","place"] ig iq
 mF:dS K aA "places" "Band.places" (inClass (top 75) 5) ["self"] mh mx
 iy:dS K aA "live" "Band.live" (inClass (top 75) 6) ["self"] qH qT
 nr:dS K aA "led" "Band.led" (inClass (top 75) 8) ["self","place","sign"] u9 uf
 lF:dS K aA "longest" "Band.longest" (inClass (top 75) 9) ["self"] kN lu
 cS:Addr
 zg:mg "BandError"=some (.ref cS)
 XT:Ls K cS "BandError"
 XB:Jn K cS
 f9:Addr
 j1:mg "NoSplit"=some (.ref f9)
 j2:eV K f9 cS "NoSplit"
 M4:Lx K f9
 hX:waS K (.ref f9) "__init__"=some (some (.builtin "ValueError.__init__"))
 cj:Addr
 zh:mg "Scarce"=some (.ref cj)
 hZ:eV K cj cS "Scarce"
 NN:Lx K cj
 dI:Addr
 fE:wb3
 zi:xX K "__init__" "Scarce.__init__" (inClass (top 9) 0) dI fE
 zj:Binds K fE ["self","length","rows"] []
 Dx:waS K (.ref cj) "__init__"=some (some (.ref dI))
 Dy:weQ K (.ref dI)=true
 rF:waS K (.ref cj) "length"=some none
 uU:waS K (.ref cj) "rows"=some none
 nu:Addr
 AZ:mg "Open"=some (.ref nu)
 xD:eV K nu cS "Open"
 QD:Lx K nu
 BZ:waS K (.ref nu) "__init__"=some (some (.builtin "ValueError.__init__"))
 uk:∃t,mg "MOST_BLOCKS"=some (.int 24 t)
 um:∃t,mg "MOST_WEIGHT"=some (.int 8 t)
 k6:∃t,mg "MOST_WEIGHT_IN_ALL"=some (.int 40 t)
 known:∃t,mg "KNOWN_SIGNS"=some (.str fk t)
inductive QE(lns:List (List (Str×Nat)))(rs ys:List Nat)(x rd wl a:Addr)(d z:Nat)(H:Hp)(i:Nat)(σ:St)(H5:Hp):Prop
 |mk (ad v5 v6) (_:σ=[some (.ref x),some (.int (d:Int)),some (.ref rd),some (.ref wl),some (.ref a),v5,v6]) (_:a7 H H5) (_:H5 rd=some (.dK (dB (rs++ad)))) (_:H5 wl=some (.lst ((nI (ys++ad)).map V.int))) (_:(rs++ad).Nodup) (_:∀r∈rs++ad,r<lns.length) (_:∀q∈(lns.getD z []).take i,q.2∈rs++ad)
theorem QE.s{wl:Addr}(q:QE lns j ys x rd wl a d z H i σ g):a7 H g:=by
 obtain⟨_,_,_,_,h,_⟩:=q;exact h
section
variable{P:wad}{w:World}{K:ZK}{mg:Str->Option Value}{base:Heap}
local macro_rules|`(tactic|ac_rfl)=>`(tactic|try dsimp only[cZ,d1,b0,b4])
theorem p7(L:Lk K mg):aQ P w K mg base cI 1 L.qF L.qR ["text","signs"] Ic:=by
 have T:=L.T;refine L.lC.F.dF (N:=["text","signs"]) (λf A outer s H n Q E nd o h=>?_);obtain⟨a,b,rfl,hl,k⟩:=h;refine{_,(a9 (aw (aI (sO rfl) (by rfl) T.all KJ (aF (bV rfl (ax ["signs"] [1]) (wV (pv 0)) (λ_ _ _ _ _ _=>bb) (λ_ _ _ _ _ _=>(cV pz (pv 0) (pv 1) rfl))))))),?_}
 ac_rfl
 refine{_,rfl,a,rfl,λl e=>comp_map (Nq b) (nH a) e (by unfold eD;rw[ZI];exact ay (wa0 (wdh (aJ a)) (by lia))) (λ_ _=>trivial) (λx g p i _ q=>?_) (λj m d=>?_)}
 .obtain⟨c,_,rfl⟩:=ZR.mp i;exact{_,rfl,_,rfl,_,_,rfl,rfl,q g (a7.refl _)}
 .rw[CW]at d;refine{l,_,rfl,aK.of d,?_};have:=k j m;rw[we1];exact this
theorem jV(L:Lk K mg):aQ P w K mg base cI 1 L.kM L.lq ["row","barred"] (Iu K):=by
 have T:=L.T;refine L.hU.F.dF (N:=["row","barred"]) (λi A outer s H n Q E nd o h=>?_);obtain⟨r,a,ws,rfl,f,hl,k⟩:=h;refine{_,(a9 (aw (aI (nQ rfl) (by rfl) T.any HI (aF (bV rfl (ax ["row"] [0]) (aM (pv 1)) (λ_ _ _ _ _ _=>bb) (λ_ _ _ _ _ _=>(cV pz (pv 0) (pv 1) rfl))))))),?_}
 ac_rfl
 refine{_,rfl,a,rfl,{_,f},λl d=>comp_map (Nq r) (aL K a (ws.map V.str)) d (by rw[ZI];exact ay (by lia)) (λg e=>e.seq f) (λx j p m _ q=>?_) (λg e b=>?_)}
 .obtain⟨c,_,rfl⟩:=ZR.mp m;exact{_,rfl,_,rfl,_,_,rfl,rfl,q j (a7.refl _)}
 .rw[yF]at b;refine{l,_,rfl,aK.of b,?_};have:=k g e;rw[wde];exact this
theorem xE(L:Lk K mg):aQ P w K mg base cI 2 L.qG L.qS ["thing"] Nr:=by
 have T:=L.T;refine L.rj.F.dF (N:=["thing"]) (λd A outer s H l Q E nd m h=>?_);obtain⟨x,rfl,S,k⟩:=h;have a:x.length<=sizeLine:=ay (by have:=S.hi;lia);obtain⟨f,b⟩:=L.known
 refine{_,(a5 (bp (PW.pt (cL (bH (bB (aI bI (by rfl) T.De pK (a8 (pv 0) (aF (dY (v:=.ty "str") (by rfl) T.str Af rfl)))))) (cL (cD iO (AX T.len (pv 0)) aq) (dD (cD kl (AX T.len (pv 0)) aq))))) (a9 (aw da)) aH)
  (a9 (aw (sS (cV nM (aI yj (by rfl) T.len wdx (aF (bg (yr rfl) (by rfl) T.set Qi (aF (pv 0))))) (AX T.len (pv 0)) (gp _)) (sG (aj (p7 L) L.lC (a8 (pv 0) (aF (rR (v:=.str fk) (by rfl) b ⟨f,rfl⟩))))))))),?_}
 ac_rfl
 refine{_,rfl,_,_,_,true,rfl,fH.str x,rfl,true,rfl,?_};refine bo ?_;refine{_,rfl,x,rfl,a,_,_,rfl,rfl,_,rfl,?_};refine Ed (by have:=S.lo;simp;lia) ?_;refine{_,rfl,x,rfl,a,_,_,rfl,rfl,_,rfl,?_};refine Ed (by have:=S.hi;simp;lia) ?_;refine{_,rfl,x,rfl,?_,λp g=>?_}
 .have:=S.hi;show x.length+1<wdj;unfold wdj
  lia
 refine{p,_,rfl,a6,_,rfl,x,rfl,a,rfl,?_};refine{_,rfl,?_};refine Pp (by rw[yG S.nd];simp) ?_;refine{_,rfl,x,fk,rfl,by have:=S.hi;lia,λi j=>?_};have e:((ch x).all λc=>decide (c∈ch fk))=true:=waq.mpr λc hc=>decide_eq_true (S.sub c hc);rw[e];exact k i ((a7.upd g).trans j)
theorem B1(L:Lk K mg):aQ P w K mg base cI 2 L.wt L.wA ["thing","signs"] Nt:=by
 have T:=L.T;refine L.wD.F.dF (N:=["thing","signs"]) (λb A outer s H i Q E nd j h=>?_);obtain⟨x,g,rfl,S,k⟩:=h;have a:x.length<=sizeLine:=ay (by have:=S.hi;lia)
 refine{_,(a5 (bp (PW.pt (cL (bH (bB (aI bI (by rfl) T.De pK (a8 (pv 0) (aF (dY (v:=.ty "str") (by rfl) T.str Af rfl)))))) (cL (cD iO (AX T.len (pv 0)) aq) (dD (cD kl (AX T.len (pv 0)) aq))))) (a9 (aw da)) aH)
  (a9 (aw (aj (p7 L) L.lC (a8 (pv 0) (aF (pv 1))))))),?_}
 ac_rfl
 refine{_,rfl,_,_,_,true,rfl,fH.str x,rfl,true,rfl,?_};refine bo ?_;refine{_,rfl,x,rfl,a,_,_,rfl,rfl,_,rfl,?_};refine Ed (by have:=S.lo;simp;lia) ?_;refine{_,rfl,x,rfl,a,_,_,rfl,rfl,_,rfl,?_};refine Ed (by have:=S.hi;simp;lia) ?_;refine{_,rfl,_,rfl,x,g,rfl,by have:=S.hi;lia,λd f=>?_};have e:((ch x).all λc=>decide (c∈ch g))=true:=waq.mpr λc hc=>decide_eq_true (S.sub c hc);rw[e];exact k d f
theorem rG(L:Lk K mg):aQ P w K mg base cI 3 L.kL L.lj ["barred","signs"] (Iv K):=by
 have T:=L.T;refine L.lD.F.dF (N:=["barred","signs","number","thing"]) (λf A outer s H o Q E nd q h=>?_);obtain⟨a,g,ws,rfl,c,hl,hw,k⟩:=h
 refine{_,(a5 (bp (cD kl (AY T.len (pv 0)) aq) gK aH)
  (a9 (forA (nR (by rfl) T.enum (aF (pv 0))) (fj rfl (aU (az (i:=2)) (aU (az (i:=3)) dG))) (a9 (bp (bH (bB (aj (B1 L) L.wD (a8 (pv 3) (aF (pv 1)))))) gK aH))))),?_}
 ac_rfl
 refine{_,rfl,a,_,rfl,.inl c,_,_,rfl,rfl,_,rfl,?_};refine Ed (by grind) ?_;refine{_,rfl,a,_,rfl,c,sF (K:=K) (a:=a) (xs:=ws.map V.str) (λi σ b=>a7 H b/\∃d e,σ=[some (.ref a),some (.str g),d,e]) {a7.refl _,none,none,rfl} (λi σ b _ p=>p.1.seq c) ?_ (λσ b p=>k b p.1)};rintro i x σ b T r ⟨j,d,e,rfl⟩ l
 obtain⟨t,rfl,m⟩:∃t,x=.str t/\t∈ws:=by
  grind
 refine{T,_,rfl,fJ.of a6,rfl,_,_,rfl,_,_,rfl,rfl,?_};refine{_,rfl,_,rfl,t,g,rfl,hw t m,λu n=>{true,rfl,?_}};refine bo ?_;exact{(j.trans (a7.upd l)).trans n,_,_,rfl}
theorem pV(L:Lk K mg):aQ P w K mg base cI 2 L.jN L.jR ["barred"] (FO K):=by
 have T:=L.T;refine L.jU.F.dF (N:=["barred","found","word","length","beginning"]) (λM A outer s H vs Q E nd O h=>?_);obtain⟨a,ws,rfl,y,hl,hw,k⟩:=h;have R:=eY O
 refine{_,(a5 (ai (i:=1) (Bz (ya eE da Bp) rfl rfl (by simp) ⋯))
  (a5 (forA (aM (pv 0)) (az (i:=2)) (a9 (forA (pB rfl T.range (a8 aq (aF (AX T.len (pv 2))))) (az (i:=3)) (a5 (ai (i:=4) (df sR (pv 2) gD (cW (pv 3))))
  (a9 (bp (bH (bB (aj (jV L) L.hU (a8 (pv 4) (aF (pv 0)))))) (a9 (eQ R (pv 1) (pv 4) da rfl)) aH))))))
  (a9 (aw (aI (wW rfl) (by rfl) T.sorted HJ (aF (pv 1))))))),?_}
 ac_rfl
 intro d hd;refine{a6,[((wac "":Key),V.bl true)],rfl,⋯,?_}
 have G:a7 H (upd (upd H d (.dK [])) d (.dK (ja [] [((wac "":Key),V.bl true)]))):=by
  rw[Bg];exact a7.upd hd
 refine{_,rfl,a,rfl,{_,G.seq y},dJ (K:=K) (a:=a) (xs:=ws.map V.str) (λi σ m=>∃B c v4,σ=[some (.ref a),some (.ref d),B,c,v4]/\a7 H m/\m d=some (.dK (jH (bJ ws "" (ws.take i)))))
  ⟨none,none,none,rfl,G,a6⟩ (λi σ m _ {_,_,_,_,f,_}=>f.seq y) ?_ ?_}
 .rintro i x σ m g ⟨B,c,v4,rfl,f,t⟩;have hi:i<ws.length:=by have:=(ZO.mp g).1;rwa[ZI]at this
  obtain⟨wd,p,rfl⟩:∃wd,ws[i]?=some wd/\x=.str wd:=by
   rw[ZM]at g
   cases e:ws[i]? with
   |none=>rw[e]at g;cases g
   |some z=>rw[e]at g;exact{z,rfl,(ZU g).symm}
  have S:wd∈ws:=ZT p;have U:=hw wd S;have X:ws.take (i+1)=ws.take i++[wd]:=by rw[waw,p];rfl
  have Y:(bJ ws "" (ws.take i)).length<=30:=by
   have:=lM (ws:=ws) (e:="") (us:=ws.take i) λv Z=>hw v (we8 Z);rw[wa5]at this
   lia
  refine{_,rfl,wd,rfl,ay (by lia),1,_,rfl,{⋯,⋯,by lia,by lia},?_};have en:((wd.length:Int)-1).toNat=wd.length-1:=by lia
  refine dh (lo:=1) (n:=((wd.length:Int)-1).toNat) (λj σ u=>∃c v4,σ=[some (.ref a),some (.ref d),some (.str wd),c,v4]/\a7 H u/\u d=some (.dK (jH (upTo ws wd (bJ ws "" (ws.take i)) j))))
   ⟨c,v4,rfl,f,t⟩ ?_ ?_
  .rintro j σ u hj ⟨c,v4,rfl,q,C⟩;have ec:(1+(j:Int))=((1+j:Nat):Int):=by lia
   refine{_,rfl,_,rfl,_,rfl,wd,rfl,ay (by lia),?_};rw[ec];have OI:=tH ws wd (bJ ws "" (ws.take i)) j;refine{_,rfl,_,rfl,cH wd (1+j),a,ws,rfl,q.seq y,by lia,λH4 D=>{_,rfl,?_}};have I:=D _ _ C
   cases J:bears ws (cH wd (1+j)) with
   |true=>
    refine bo ?_;refine{_,_,rfl,q.trans D,?_};rw[I,fR];unfold pM;rw[if_pos J]
   |false=>
    refine eJ ?_;refine{_,rfl,_,rfl,d,_,rfl,kh.k (k:=wac (cH wd (1+j))) I (by rw[Ck];exact bO (by lia)),?_};refine{_,_,rfl,λb o e=>?_,?_}
    .rw[ae (af e hd)];exact D _ _ (q _ _ e)
    .rw[a6,CY,fR];unfold pM;rw[if_neg (by rw[J];exact wa2)]
  .rintro σ u ⟨c,v4,rfl,q,C⟩;refine{_,c,v4,rfl,q,?_};rw[C,X,Ak,en];rfl
 .rintro σ m ⟨B,c,v4,rfl,f,t⟩;rw[ZI,wam]at t;have SW:=lM (ws:=ws) (e:="") (us:=ws) hw;refine{_,rfl,d,_,_,rfl,t,zL _,by lia,λl ss r hp hs=>?_};exact k l ss _ (f.trans (a7.upd r)) (f.free r) a6 hp hs
theorem uo(L:Lk K mg):aQ P w K mg base cI 1 L.me L.mw ["row","places"] (KO K):=by
 refine L.mC.F.dF (N:=["row","places","cut"]) (λq A outer s H x Q E nd y h=>?_);obtain⟨r,a,ps,rfl,t,u,hl,k⟩:=h
 refine{_,(a5 (ai (i:=2) aq)
  (a5 (iN wcH (fX jd (df sR (pv 0) (cW (pv 2)) gD) (pv 1) rfl) (a9 (sL (i:=2) nd rfl (wdg rfl) aq EB)))
  (a9 (aw (df sR (pv 0) (cW (pv 2)) gD))))),?_}
 ac_rfl
 refine{λm σ c=>∃n:Nat,n<=r.length/\m=r.length-n/\σ=[some (.str r),some (.ref a),some (.int (n:Int))]/\a7 H c/\∀j,j<n->bD r j∉ps,{r.length,0,wal _,rfl,rfl,a7.refl _,λj d=>absurd d (wd9 j)},?_};rintro m σ c ⟨n,hn,rfl,rfl,f,o⟩;refine{_,rfl,_,rfl,_,rfl,r,rfl,ay (by lia),_,rfl,a,_,rfl,.inl (f.seq t),rfl,dX ps,_,rfl,?_};rw[if_pos rfl,iL]
 by_cases h:bD r n∈ps
 .have e:decide (wby r (some (n:Int)) none∈ps)=true:=decide_eq_true h;rw[e];refine bo ?_;refine{_,rfl,_,rfl,_,rfl,r,rfl,ay (by lia),?_};have:=k c f;unfold lend at this;rw[nV h o hn]at this;exact this
 .have e:decide (wby r (some (n:Int)) none∈ps)=false:=decide_eq_false h;rw[e];refine eJ ?_
  have g:n<r.length:=by
   rcases weo hn with z |z
   .exact z
   .subst z;rw[gO]at h;exact absurd u h
  refine{λb p=>∃l:Nat,l=n+1/\b=[some (.str r),some (.ref a),some (.int (l:Int))]/\a7 H p,?_,?_}
  .rintro b p ⟨l,rfl,rfl,v⟩;refine{r.length-(n+1),by lia,n+1,g,rfl,rfl,v,λj d=>?_};rcases weo (Nat.le_of_lt_succ d) with z |z
   .exact o j z
   .rw[z];exact h
  .exact{_,rfl,_,_,rfl,rfl,n+1,rfl,rfl,f}
theorem uV(L:Lk K mg):aQ P w K mg base cI 2 L.oz L.oP ["place","signs","barred","places"] (Iw K):=by
 refine L.oZ.F.dF (N:=["place","signs","barred","places","moves","sign","row"]) (λO A outer s H vs Q E nd R h=>?_);obtain⟨p,g,a,b,ws,ps,rfl,S,T,U,V,X,y,B,k⟩:=h;have Y:=eY R
 refine{_,(a5 (ai (i:=4) eL)
  (a5 (forA (wV (pv 1)) (az (i:=5)) (a5 (ai (i:=6) (aS jg (pv 0) (pv 5)))
  (a9 (eQ Y (pv 4) (pv 5) (yd (bB (aj (jV L) L.hU (a8 (pv 6) (aF (pv 2))))) iz (aj (uo L) L.mC (a8 (pv 6) (aF (pv 3))))) rfl))))
  (a9 (aw (pv 4))))),?_}
 ac_rfl
 intro d hd
 refine{_,rfl,g,rfl,kj (nH g) (λi σ f=>∃n v6,σ=[some (.str p),some (.str g),some (.ref a),some (.ref b),some (.ref d),n,v6]/\a7 H f/\f d=some (.dK (((ch g).take i).map λc=>((wac ({#[c]}:Str):Key),uF ws ps p c))))
  {none,none,rfl,a7.upd hd,a6} (λ_ _ _ _ _=>trivial) ?_ ?_}
 .rintro i x σ f l ⟨n,v6,rfl,r,u⟩
  obtain⟨c,hc,rfl⟩:∃c,(ch g)[i]?=some c/\x=.str ⟨#[c]⟩:=by
   unfold eD at l;rw[ZM]at l
   cases e:(ch g)[i]? with
   |none=>rw[show g.cps.toList[i]?=none from e]at l;cases l
   |some z=>rw[show g.cps.toList[i]?=some z from e]at l;exact{z,rfl,(ZU l).symm}
  have hi:i<(ch g).length:=(ZO.mp hc).1;have I:=aJ g;have Z:(p++({#[c]}:Str)).length=p.length+1:=by rw[<-aJ,bx,ZP,aJ];rfl
  refine{_,rfl,_,rfl,p,{#[c]},rfl,rfl,ay (by show p.length+1<=_;lia),?_}
  have fin:∀t,a7 f t->Jp (GQ 4) (GQ 5) (λ_ C Q5=>Q5 (uF ws ps p c) C) {nx:=λσ f=>∃n v6,σ=[some (.str p),some (.str g),some (.ref a),some (.ref b),some (.ref d),n,v6]/\a7 H f/\f d=some (.dK (((ch g).take (i+1)).map λc=>((wac ({#[c]}:Str):Key),uF ws ps p c))),rt:=Q}
   [some (.str p),some (.str g),some (.ref a),some (.ref b),some (.ref d),some (.str {#[c]}),some (.str (p++{#[c]}))] t:=by
   intro t m;have h4:=m _ _ u;refine{_,rfl,_,rfl,d,_,rfl,kh.k (k:=wac ({#[c]}:Str)) h4 (by rw[ZI,wa5];exact bO (by lia)),?_};refine{_,_,rfl,λb o e=>?_,?_}
   .rw[ae (af e hd)];exact m _ _ (r _ _ e)
   .rw[a6,fi]
    .have:(ch g).take (i+1)=(ch g).take i++[c]:=by rw[waw,hc];rfl
     rw[this,wa1];rfl
    .cases q:cR (((ch g).take i).map λc=>((wac (⟨#[c]⟩:Str):Key),uF ws ps p c)) (wac (⟨#[c]⟩:Str):Key) with
     |none=>rfl
     |some v=>
      have:=wU q;rw[ZV]at this;obtain⟨D,G,e⟩:=ZR.mp this;have e':({#[D]}:Str)={#[c]}:=wcL e
      have:D=c:=by
       have:=congrArg ch e';simpa [ch] using this
      subst this;obtain⟨j,hj,J⟩:=wcV.mp G;rw[weJ]at J;rw[wa5]at hj;have e1:(ch g)[i]=D:=(ZO.mp hc).2;have:=(wbK y).mp (J.trans e1.symm)
      lia
  refine{_,rfl,_,rfl,_,a,ws,rfl,r.seq S,B,λt m=>{_,rfl,?_}}
  cases M:bears ws (p++⟨#[c]⟩) with
  |true=>
   refine eJ ?_;have:=fin t m;unfold uF at this;rw[if_pos M]at this;unfold uF;exact this
  |false=>
   refine bo ?_;refine{_,rfl,_,rfl,_,b,ps,rfl,(r.trans m).seq T,U,by lia,λC s5=>?_};have:=fin C (m.trans s5);unfold uF at this;rw[if_neg (by rw[M];exact wa2)]at this;unfold uF;exact this
 .rintro σ f ⟨n,v6,rfl,r,u⟩;have e:(eD g).length=(ch g).length:=by unfold eD;rw[ZI]
  rw[e,wam]at u;exact{_,rfl,k d f r hd u}
theorem uW(L:Lk K mg):aQ P w K mg base cI 1 L.oA L.oQ ["ends","lot"] (HP K):=by
 have T:=L.T;refine L.p0.F.dF (N:=["ends","lot"]) (λm A outer s H v Q E nd y h=>?_);obtain⟨a,b,d,ls,rfl,i,n,o,p,hl,k⟩:=h;refine{_,(a9 (aw (aI (nQ rfl) (by rfl) T.any HI (aF (bV rfl (ax ["lot"] [1]) (aM (pv 0)) (λ_ _ _ _ _ _=>bb) (λ_ _ _ _ _ _=>(cV (gU (K:=K) rfl) (pv 0) (pv 1) rfl))))))),?_}
 ac_rfl
 refine{_,rfl,a,rfl,{_,i},λl f=>comp_map (Nj ls) (aL K a d) f (ay (by lia)) (λj g=>g.seq i) (λx r z t u q=>?_) (λj g c=>?_)}
 .exact{_,rfl,_,rfl,b,ls,rfl,.inl (u.seq n),waq.mp o x t,p,q r (a7.refl _)}
 .have e:d.map (Nj ls)=(d.map λe=>nK e ls).map V.bl:=by rw[ZV];rfl
  rw[e]at c;refine{l,_,rfl,aK.of c,?_};have:=k j g;rw[wde];exact this
theorem uX(L:Lk K mg):aQ P w K mg base cI 2 L.jw L.oR ["moves"] (KP K):=by
 have T:=L.T;refine L.p5.F.dF (N:=["moves","lot","left"]) (λY A outer s H vs Q E nd hr h=>?_);obtain⟨d,Z,o,rfl,hd,hl,hm,hf,Vy,k⟩:=h;have hu:=eY hr;have M5:(A.deeper (wd7 "live_among" (aD (top 74)) s.heap.objs.size L.jw Y)).units<wbf:=hr.wO
 refine{_,(a5 (ai (i:=1) (bg (mX rfl) (by rfl) T.list gA (aF (pv 0))))
  (a9 (iN wcH (bB da) (a5 (fP (i:=2) rfl (ax ["moves","lot"] [0,1]) nd rfl rfl (aM (pv 1)) (λ_ _ _ _ _ _=>fZ (bB (aj (uW L) L.p0 (a8 (bg (sP rfl) (by rfl) T.list gA (aF (wY (K:=K) rfl wdy wcs wdr pD (cJ hu (pv 1) (pv 0) (λ_ _=>rfl))))) (aF (pv 2)))))) (λ_ _ _ _ _ _=>(pv 0)))
  (a5 (bp (cD (zR M5) (pv 2) (pv 1)) (a9 (aw (pv 1))) aH)
  (a9 (ai (i:=1) (pv 2)))))))),?_}
 ac_rfl
 refine{_,rfl,d,_,rfl,hd,λl0 t=>?_}
 refine{λm σ H2=>∃(l:Addr) (ls:List Str) (v:Option V),m=ls.length/\σ=[some (.ref d),some (.ref l),v]/\a7 H H2/\H l=none/\H2 l=some (.lst (ls.map V.str))/\ls.Sublist (Z.map (·.1)) /\
  ∀b:List Str,(∀k∈b,k∈Z.map (·.1)/\ki (o k) b=true)->∀k∈b,k∈ls,
  {_,l0,Z.map (·.1),none,rfl,rfl,a7.upd t,t,by rw[a6,fK],weE _,λb h k hk=>(h k hk).1},?_}
 rintro m σ H2 ⟨l,ls,v,rfl,rfl,S,GJ,U,f,c⟩;refine{true,rfl,eJ ?_};have zz:ls.length<=1000:=by have:=f.length_le;rw[ZI]at this;lia
 let p:V->Bool:=λx=>match x with
  |.str k=>ki (o k) ls
  |_=>false
 let g:List Str:=ls.filter λk=>ki (o k) ls
 have u:(ls.map V.str).filter p=g.map V.str:=by
  rw[we9];rfl
 refine{λy r=>∃(B:Addr) (v:Option V),y=[some (.ref d),some (.ref B),v]/\a7 H r/\H B=none/\r B=some (.lst (g.map V.str))/\g.length<ls.length,?_,?_}
 .rintro y r ⟨B,v,rfl,n,C0,C,Lh⟩;refine{g.length,Lh,B,g,v,rfl,rfl,n,C0,C,(wcu).trans f,λb h k hk=>?_};have Vz:=c b h k hk;exact wa6.mpr {Vz,zM (c b h) (h k hk).2}
 .refine{_,rfl,l,rfl,{_,aK.of U},λl2 D=>di p (λx=>x) (aL K l (ls.map V.str)) D (by rw[ZI];exact ay (by lia)) (λr n=>n.seq (aK.of U)) (λx G Q' hx s3 q=>?_) (λx G Q' hx _ s3 q=>{_,rfl,q G (a7.refl _)}) (λr n C=>?_)}
  .obtain⟨X,VA,rfl⟩:=ZR.mp hx;obtain⟨a,ha,I⟩:=gJ (f.subset VA);have J:a7 H G:=S.trans s3;have OJ:=J _ _ hd;have j:=J _ _ (hm _ ha);refine{_,rfl,_,rfl,d,.ref a,rfl,?_,?_}
   .have:=eK.k (k:=(wac X:Key)) OJ;rw[I]at this;exact this
   refine{.inr (.inr (.inl {rfl,.inl {_,j}})),a,_,rfl,rfl,j,λvw M=>?_};refine{vw,a,_,rfl,a6,by rw[ae (af j M)];exact j,λl3 Hy=>?_};have s4:a7 G (upd (upd G vw (iH vw a)) l3 (.lst ((o X).map (·.2)))):=(a7.upd M).trans (a7.upd Hy);refine{_,rfl,l3,l,_,_,rfl,aK.of a6,aK.of (s4 _ _ (s3 _ _ U)),hf X,dX ls,by rw[ZI];exact Vy X,λH5 s5=>{_,rfl,?_}};exact q H5 (s4.trans s5)
  .rw[wdo,u]at C;have O:=n _ _ U;refine{_,rfl,_,rfl,l2,l,_,_,rfl,rfl,aK.of C,aK.of O,dX _,dX _,_,rfl,?_};rw[vr];have R:H l2=none:=S.free D
   by_cases e:g=ls
   .rw[decide_eq_true e];refine eJ ?_;refine{_,rfl,k l ls r (S.trans n) GJ O {f,λkk hk=>?_,c}};have:=e ▸ hk;exact(wa6.mp this).2
   .rw[decide_eq_false e];refine bo ?_;refine{_,rfl,l2,_,rfl,S.trans n,R,C,?_};rcases weo (waT (λk=>ki (o k) ls) ls) with z |z
    .exact z
    .exact absurd ((wcu (p:=λk=>ki (o k) ls)).eq_of_length z) e
theorem j3(L:Lk K mg):aQ P w K mg base cI 4 L.gw L.jS ["self","signs","barred"] (L8 K L.aA):=by
 have T:=L.T;refine L.gy.F.dF (N:=["self","signs","barred","places","place"]) (λgn A outer s H vs Q E nd hr h=>?_);obtain⟨x,t,g,a,ws,rfl,hx,hS,sg,hl,hw,k⟩:=h;have Z:∀w∈ws,w.length<=5:=λw h=>(hw w h).hi;have hu:=eY hr
 refine{_,(a5 (bp (bH (bB (aj (xE L) L.rj (aF (pv 1))))) gK aH)
  (a5 (bL (aj (rG L) L.lD (a8 (pv 2) (aF (pv 1)))))
  (a5 (cX (pv 0) (pv 1) rfl)
  (a5 (cX (pv 0) (bg ck (by rfl) T.list gA (aF (pv 2))) rfl)
  (a5 (cX (pv 0) eL rfl)
  (a5 (ai (i:=3) (aj (pV L) L.jU (aF (pv 2))))
  (a5 (forA (aM (pv 3)) (az (i:=4)) (a9 (eQ hu (aC (pv 0) rfl) (pv 4) (aj (uV L) L.oZ (a8 (pv 4) (a8 (pv 1) (a8 (pv 2) (aF (pv 3)))))) rfl)))
  (a9 (cX (pv 0) (aj (uX L) L.p5 (aF (aC (pv 0) rfl))) rfl))))))))),?_}
 ac_rfl
 refine{_,rfl,g,rfl,sg,λH1 s1=>{true,rfl,bo ?_}};refine{_,rfl,_,rfl,a,g,ws,rfl,s1.seq hS,hl,hw,λH2 s2=>?_};have D:a7 H H2:=s1.trans s2;have VB:=D _ _ hx;refine{_,rfl,_,rfl,x,L.aA,t,_,rfl,VB,L.aP.cl,L.aP.rX,⋯,?_};rw[KM];have NP:∀(o:HO) b ob,H b=some ob->b≠x->(upd H2 x o) b=some ob:=λo b ob e hb=>by rw[ae hb];exact D _ _ e
 have G:∀{H':Hp} (h:∀b o,H b=some o->b≠x->H' b=some o),aK K H' a (ws.map V.str):=λ{H'} h=>by
  have SX:∀o,H a=some o->(∀fs,o≠.ins L.aA t fs)->a≠x:=λo e ne z=>by
   subst z;rw[hx]at e;exact ne [] (ZU e).symm
  rcases hS with(e |⟨o,e⟩) |e
  .exact .inl (.inl (h _ _ e (SX _ e (λ_ z=>by cases z))))
  .exact .inl (.inr {o,h _ _ e (SX _ e (λ_ z=>by cases z))})
  .exact .inr e
 refine{_,rfl,a,_,rfl,.inl (G (NP _)),λb hb=>?_};have v:x≠b:=af a6 hb;have QF:H2 b=none:=by rw[ae v.symm]at hb;exact hb
 refine{_,rfl,x,L.aA,t,OC g,rfl,by rw[ae v,a6],L.aP.cl,L.aP.yO,(show 1<1000 by decide),?_};rw[put2];intro d hd;have r:x≠d:=af a6 hd
 have NQ:b≠d:=by
  intro z;subst z;rw[ae v.symm,a6]at hd;cases hd
 have I:H2 d=none:=by rw[ae r.symm,ae NQ.symm,ae r.symm]at hd;exact hd
 refine{_,rfl,x,L.aA,t,M1 g b,rfl,by rw[ae r,a6],L.aP.cl,L.aP.lO,(show 2<1000 by decide),?_};rw[put3];generalize J:upd (upd (upd (upd (upd H2 x (.ins L.aA t (OC g))) b (.lst (ws.map V.str))) x (.ins L.aA t (M1 g b))) d (.dK [])) x (.ins L.aA t (KL g b d))=H3;have x3:H3 x=some (.ins L.aA t (KL g b d)):=by rw[<-J,a6]
 have d3:H3 d=some (.dK []):=by rw[<-J,ae r.symm,a6]
 have b3:H3 b=some (.lst (ws.map V.str)):=by rw[<-J,ae v.symm,ae NQ,ae v.symm,a6]
 have k3:∀c o,H c=some o->c≠x->H3 c=some o:=λc o e hc=>by
  have e2:=D _ _ e;rw[<-J,ae hc,ae (af e2 I),ae hc,ae (af e2 QF),ae hc];exact e2
 clear J;refine{_,rfl,a,ws,rfl,G k3,hl,Z,λl ss H4 s4 R h4 hp VC=>?_};have QG:ss.Nodup:=hp.nodup_iff.mpr (qo ws);have B4:ss.length<=25:=by have:=lM (ws:=ws) (e:="") (us:=ws) Z;rw[hp.length_eq];lia
 have NR:∀p∈ss,p.length<=5:=λp B5=>Dd Z p (hp.mem_iff.mp B5);have QH:("":Str)∈ss:=hp.mem_iff.mpr (cb ws);have OM:l≠d:=λz=>by rw[z,d3]at R;cases R
 have YJ:l≠x:=λz=>by rw[z,x3]at R;cases R
 refine{_,rfl,l,rfl,{_,aK.of h4},dJ (K:=K) (a:=l) (xs:=ss.map V.str) (λi σ S=>∃v4 B,σ=[some (.ref x),some (.str g),some (.ref a),some (.ref l),v4]/\S d=some (.dK (bY B))/\B.map (·.1)=ss.take i/\(∀m∈B,S m.2=some (.dK (rowOf g ws ss m.1)))/\(∀m∈B,H4 m.2=none)/\(∀c o,H4 c=some o->c≠d->S c=some o))
  {none,[],rfl,s4 _ _ d3,rfl,λm u=>(nomatch u),λm u=>(nomatch u),λc o e _=>e} (λi σ S _ {_,_,_,_,_,_,_,M}=>aK.of (M _ _ h4 OM)) ?_ ?_}
 .rintro i y σ S hy ⟨v4,B,rfl,C,n,f,MN,M⟩
  obtain⟨p,U,rfl⟩:∃p,ss[i]?=some p/\y=.str p:=by
   rw[ZM]at hy
   cases e:ss[i]? with
   |none=>rw[e]at hy;cases hy
   |some z=>rw[e]at hy;exact{z,rfl,(ZU hy).symm}
  have hi:i<ss.length:=(ZO.mp U).1;have B5:p∈ss:=ZT U
  have k5:∀c o,H c=some o->c≠x->S c=some o:=λc o e hc=>M _ _ (s4 _ _ (k3 c o e hc)) (λz=>by
   subst z;have:=D _ _ e
   rw[I]at this;cases this)
  have x5:S x=some (.ins L.aA t (KL g b d)):=M _ _ (s4 _ _ x3) r;refine{_,rfl,_,rfl,_,rfl,_,rfl,p,g,a,l,ws,ss,rfl,G k5,aK.of (M _ _ h4 OM),QH,by have:=NR p B5;lia,by have:=sg.hi;lia,sg.nd,by lia,λe H6 O X h6=>?_};have d6:=O _ _ C
  have Gd:p∉B.map (·.1):=by
   rw[n];intro u;obtain⟨j,hj,ej⟩:=wcV.mp u;rw[weJ]at ej;rw[wa5]at hj;have e1:ss[i]=p:=(ZO.mp U).2;have:=(wbK QG).mp (ej.trans e1.symm)
   lia
  have Y:B.length<=25:=by have:=congrArg wcO n;rw[ZI,wa5]at this;lia
  refine{_,rfl,x,L.aA,t,_,_,rfl,O _ _ x5,L.aP.cl,L.aP.lO,kq g b d,_,rfl,d,_,rfl,kh.k (k:=wac p) d6 (by unfold bY;rw[ZI];exact bO (by lia)),?_};have Ly:e≠d:=λz=>by rw[z,C]at X;cases X
  have e4:H4 e=none:=by
   cases q:H4 e with
   |none=>rfl
   |some o=>
    have:=M _ _ q Ly;rw[this]at X;cases X
  refine{_,B++[(p,e)],rfl,?_,?_,?_,?_,?_}
  .rw[a6,fi _ (mW Gd)];unfold bY;rw[wa1];rfl
  .rw[wa1,n];have:ss.take (i+1)=ss.take i++[p]:=by rw[waw,U];rfl
   rw[this];rfl
  .intro m u;rcases waj.mp u with z |z
   .have nm:m.2≠d:=λq=>by
     have:=f m z;rw[q,C]at this;have:=MN m z;rw[q]at this;rw[s4 _ _ d3]at this;cases this
    rw[ae nm];exact O _ _ (f m z)
   .have:m=(p,e):=by simpa using z
    subst this;rw[ae Ly];exact h6
  .intro m u;rcases waj.mp u with z |z
   .exact MN m z
   .have:m=(p,e):=by simpa using z
    subst this;exact e4
  .intro c o hc SY;rw[ae SY];exact O _ _ (M c o hc SY)
 .rintro σ S ⟨v4,B,rfl,C,n,f,MN,M⟩;rw[ZI,wam]at n;have x5:S x=some (.ins L.aA t (KL g b d)):=M _ _ (s4 _ _ x3) r;have Y:B.length<=1000:=by have:=congrArg wcO n;rw[ZI]at this;lia
  refine{_,rfl,x,L.aA,t,_,_,rfl,x5,L.aP.cl,L.aP.lO,kq g b d,d,B,rowOf g ws ss,rfl,C,Y,f,λkx=>Ar g ws ss kx,λkx=>by rw[CZ];have:=sg.hi;lia,λq ls H6 O hq h6 lv=>?_};refine{_,rfl,x,L.aA,t,_,rfl,O _ _ x5,L.aP.cl,L.aP.pR,(show 3<1000 by decide),?_};rw[CJ];have QI:q≠x:=λz=>by rw[z,x5]at hq;cases hq
  have VD:∀m∈B,m.2≠x:=λm u z=>by
   have:=f m u;rw[z,x5]at this;cases this
  refine k ss ls _ {{t,b,d,q,B,a6,?_,?_,n,λm u=>?_,?_},hp,VC,by rw[n]at lv;exact lv} λc o e hc=>?_
  .rw[ae v.symm];exact O _ _ (M _ _ (s4 _ _ b3) NQ)
  .rw[ae r.symm];exact O _ _ C
  .rw[ae (VD m u)];exact O _ _ (f m u)
  .rw[ae QI];exact h6
  .rw[ae hc]
   exact O _ _ (M _ _ (s4 _ _ (k3 c o e hc)) (λz=>by
    subst z;have:=D _ _ e
    rw[I]at this;cases this))
theorem uq(L:Lk K mg):aQ P w K mg base cI 1 L.mh L.mx ["self"] (FA L.aA):=by
 have T:=L.T;refine L.mF.F.dF (N:=["self"]) (λa A outer s H j Q E nd m h=>?_);obtain⟨x,g,ws,ss,ls,rfl,B,k⟩:=h;obtain⟨⟨c,b,d,q,n,e,o,f,i,p,r⟩,_,_,_⟩:=B;refine{_,(a9 (aw (bg (mX rfl) (by rfl) T.list gA (aF (aC (pv 0) rfl))))),?_}
 ac_rfl
 refine{_,rfl,x,L.aA,c,_,_,rfl,e,L.aP.cl,L.aP.lO,n8 g b d q,d,_,rfl,f,λl hl=>?_};rw[fK,i];exact k l _ (a7.upd hl) hl a6
theorem jC(L:Lk K mg):aQ P w K mg base cI 1 L.qH L.qT ["self"] (Ie L.aA):=by
 have T:=L.T;refine L.iy.F.dF (N:=["self"]) (λa A outer s H i Q E nd j h=>?_);obtain⟨x,g,ws,ss,ls,rfl,B,k⟩:=h;obtain⟨⟨c,b,d,q,m,e,n,o,p,r,f⟩,_,_,_⟩:=B;refine{_,(a9 (aw (bg ck (by rfl) T.list gA (aF (aC (pv 0) rfl))))),?_}
 ac_rfl
 refine{_,rfl,x,L.aA,c,_,_,rfl,e,L.aP.cl,L.aP.pR,vS g b d q,q,_,rfl,.inl (aK.of f),λl hl=>?_};exact k l _ (a7.upd hl) hl a6
theorem gB(L:Lk K mg):aQ P w K mg base cI 1 L.gY L.hE ["self","place"] (Ql L.aA):=by
 have T:=L.T;refine L.eW.F.dF (N:=["self","place"]) (λc A outer s H r Q E nd e h=>?_);obtain⟨x,p,g,ws,ss,ls,rfl,B,f,k⟩:=h;obtain⟨⟨i,b,d,q,mv,j,t,l,m,u,y⟩,_,_,_⟩:=B;obtain⟨a,ha,n⟩:=gJ (mv:=mv) (k:=p) (by rw[m];exact f);have o:=eY e;refine{_,(a9 (bp (PW.pt (cL (bH (bB (aI bI (by rfl) T.De pK (a8 (pv 1) (aF (dY (v:=.ty "str") (by rfl) T.str Af rfl)))))) (dD (zO (vI o (pv 1) (aC (pv 0) rfl)))))) gK aH)),?_}
 ac_rfl
 refine{_,rfl,_,_,_,true,rfl,fH.str p,rfl,true,rfl,bo ?_};refine{_,rfl,_,rfl,x,L.aA,i,_,_,rfl,j,L.aP.cl,L.aP.lO,n8 g b d q,d,_,rfl,eK.k (k:=(wac p:Key)) l,_,rfl,?_};rw[n];exact bo k
theorem rq(L:Lk K mg):aQ P w K mg base cI 2 L.u9 L.uf ["self","place","sign"] (Nu L.aA):=by
 refine L.nr.F.dF (N:=["self","place","sign"]) (λn A outer s H y Q E nd o h=>?_);obtain⟨x,p,c,g,ws,ss,ls,rfl,B,e,hc,k⟩:=h;obtain⟨⟨f,b,d,q,mv,i,z,r,t,u,C⟩,_,_,_⟩:=id B;obtain⟨a,ha,v⟩:=gJ (mv:=mv) (k:=p) (by rw[t];exact e);have j:=eY o
 refine{_,(a5 (bL (Dt (pv 0) L.aP.cl L.eW (gB L) (aF (pv 1))))
  (a9 (aw (cJ j (cJ j (aC (pv 0) rfl) (pv 1) (λ_ _=>rfl)) (pv 2) (λ_ _=>rfl))))),?_}
 ac_rfl
 refine{_,rfl,x,f,_,rfl,i,GD _ _ _ _ ∅ ∅ ∅ ∅,_,rfl,x,p,g,ws,ss,ls,rfl,B,e,?_};have l:=eK.k (k:=(wac p:Key)) r;rw[v]at l;have m:=eK.k (k:=(wac ({#[c]}:Str):Key)) (u _ ha);rw[HY hc]at m;exact{_,rfl,x,L.aA,f,_,_,rfl,i,L.aP.cl,L.aP.lO,n8 g b d q,_,rfl,d,_,rfl,l,_,rfl,a,_,rfl,m,k}
theorem rx(L:Lk K mg):aQ P w K mg base cI 1 L.tZ L.ua ["thing"] Fd:=by
 have T:=L.T;refine L.nq.F.dF (N:=["thing"]) (λa A outer s H b Q E nd c h=>?_);obtain⟨i,rfl,k⟩:=h;refine{_,(a9 (aw (sS (aI bI (by rfl) T.De pK (a8 (pv 0) (aF (dY (v:=.ty "int") (by rfl) T.int Nk rfl)))) (sG (zP (aI bI (by rfl) T.De pK (a8 (pv 0) (aF (dY (v:=.ty "bool") (by rfl) T.bool JC rfl))))))))),?_}
 ac_rfl
 refine{_,rfl,_,_,_,true,rfl,fH.int i,rfl,true,rfl,eJ ?_};exact{_,rfl,_,_,_,false,rfl,fH.int i,rfl,false,rfl,k}
theorem zk(L:Lk K mg):aQ P w K mg base cI 1 L.u0 L.ub ["band","wide"] (D7 L.aA):=by
 have T:=L.T;refine L.ug.F.dF (N:=["band","wide","rows","step"]) (λf A outer s H r Q E nd t h=>?_);obtain⟨x,n,g,ws,ss,ls,rfl,B,j,l,m,k⟩:=h
 refine{_,(a5 (ai (i:=2) aq)
  (a5 (forA (dj rfl T.range (aF (pv 1))) (az (i:=3)) (a9 (sL (i:=2) nd rfl (wdg rfl) (AX T.len (aC (pv 0) rfl)) EG)))
  (a9 (aw (pv 2))))),?_}
 ac_rfl
 obtain⟨⟨o,b,d,q,u,p,v,y,z,C,D⟩,_,_,_⟩:=id B;refine{_,rfl,n,rfl,by lia,by lia,dh (lo:=0) (n:=n.toNat) (λi σ a=>a=H/\∃c,σ=[some (.ref x),some (.int n),some (.int ((g.length:Int)^i)),c]) ⟨rfl,none,rfl⟩ ?_ ?_}
 .rintro i σ a hi ⟨e,c,rfl⟩;rw[e];refine{_,rfl,_,rfl,x,L.aA,o,_,_,rfl,p,L.aP.cl,L.aP.rX,nc g b d q,g,rfl,ay (by lia),_,_,rfl,rfl,.inr {by lia,by lia},rfl,some (.int (0+(i:Int))),?_};rw[wf0];rfl
 .rintro σ a ⟨e,c,rfl⟩;rw[e];exact{_,rfl,k}
theorem B6(L:Lk K mg):aQ P w K mg base cI 2 L.wm L.wu ["band","many","wide"] (yM L.aA):=by
 refine L.wB.F.dF (N:=["band","many","wide"]) (λc A outer s H e Q E nd f h=>?_);obtain⟨x,many,wide,g,ws,ss,ls,rfl,B,a,b,k⟩:=h
 refine{_,(a5 (bp (PW.pt (cL (bH (bB (aj (rx L) L.nq (aF (pv 1))))) (cL (cD iO (pv 1) aq) (dD (cD kl (pv 1) aq))))) (a9 (aw da)) aH)
  (a5 (bp (PW.pt (cL (bH (bB (aj (rx L) L.nq (aF (pv 2))))) (cL (cD iO (pv 2) aq) (dD (cD kl (pv 2) aq))))) (a9 (aw da)) aH)
  (a9 (aw (cV vB (aj (zk L) L.ug (a8 (pv 0) (aF (pv 2)))) aq (gp _)))))),?_}
 ac_rfl
 obtain⟨ha,i,hc,hd,d⟩:=id b;refine{_,rfl,many,rfl,true,rfl,bo ?_};refine{_,rfl,_,_,rfl,rfl,false,congrArg V.bl (decide_eq_false (by lia)),bo ?_};refine{_,rfl,_,_,rfl,rfl,false,congrArg V.bl (decide_eq_false (by lia)),bo ?_};refine{_,rfl,wide,rfl,true,rfl,bo ?_};refine{_,rfl,_,_,rfl,rfl,false,congrArg V.bl (decide_eq_false (by lia)),bo ?_};refine{_,rfl,_,_,rfl,rfl,false,congrArg V.bl (decide_eq_false (by lia)),bo ?_};refine{_,rfl,_,rfl,x,wide,g,ws,ss,ls,rfl,B,a,by lia,by lia,_,_,rfl,rfl,?_};show Q (V.bl (decide ((g.length:Int)^wide.toNat<=64))) H;rw[decide_eq_true d];exact k
theorem eO(L:Lk K mg):aQ P w K mg base cI 3 L.oj L.oF ["band","many","wide"] (yM L.aA):=by
 refine L.et.F.dF (N:=["band","many","wide"]) (λc A outer s H d Q E nd e h=>?_);obtain⟨x,many,wide,g,ws,ss,ls,rfl,B,a,b,k⟩:=h
 refine{_,(a5 (bp (bH (bB (aj (B6 L) L.wB (a8 (pv 0) (a8 (pv 1) (aF (pv 2))))))) gK aH)
  (a9 (aw da))),?_}
 ac_rfl
 exact{_,rfl,_,rfl,_,rfl,x,many,wide,g,ws,ss,ls,rfl,B,a,b,true,rfl,bo k}
theorem jW(L:Lk K mg):aQ P w K mg base cI 1 L.kE L.kR ["number","things"] (HN K):=by
 have T:=L.T;refine L.hH.F.dF (N:=["number","things"]) (λc A outer s H f Q E nd g h=>?_);obtain⟨i,a,b,rfl,d,k⟩:=h;refine{_,(a9 (aw (sS (cV Et (pv 0) aq (gp _)) (sG (cV iO (pv 0) (AY T.len (pv 1)) (gp _)))))),?_}
 ac_rfl
 by_cases h0:0<=i
 .have e:eM i b.length=decide (i<(b.length:Int)):=by unfold eM;rw[decide_eq_true h0,wcg]
  rw[e]at k;exact{_,rfl,_,_,rfl,rfl,true,congrArg V.bl (decide_eq_true h0),eJ {_,rfl,_,rfl,a,b,rfl,.inl d,_,_,rfl,rfl,k}}
 .have e:eM i b.length=false:=by unfold eM;rw[decide_eq_false h0,wcp]
  rw[e]at k;exact{_,rfl,_,_,rfl,rfl,false,congrArg V.bl (decide_eq_false h0),bo k}
theorem nv(L:Lk K mg):aQ P w K mg base cI 1 L.ig L.iq ["self","place"] (Qm L.aA):=by
 have T:=L.T;refine L.iw.F.dF (N:=["self","place"]) (λa A outer s H l Q E nd m h=>?_);obtain⟨x,p,g,ws,ss,ls,rfl,B,c,k⟩:=h;obtain⟨⟨f,b,d,q,n,i,o,r,t,u,j⟩,_,_,_⟩:=B;refine{_,(a9 (bp (PW.pt (cL (bH (bB (aI bI (by rfl) T.De pK (a8 (pv 1) (aF (dY (v:=.ty "str") (by rfl) T.str Af rfl)))))) (dD (fX jd (pv 1) (aC (pv 0) rfl) rfl)))) gK aH)),?_}
 ac_rfl
 refine{_,rfl,_,_,_,true,rfl,fH.str p,rfl,true,rfl,bo ?_};refine{_,rfl,_,rfl,x,L.aA,f,_,_,rfl,i,L.aP.cl,L.aP.pR,vS g b d q,q,_,rfl,.inl (aK.of j),rfl,dX _,?_};have e:nK (.str p) (ls.map V.str)=true:=by rw[iL];exact decide_eq_true c
 refine{false,?_,bo k};show V.bl (!nK (.str p) (ls.map V.str))=V.bl false;rw[e];rfl
theorem xF(L:Lk K mg):aQ P w K mg base cI 1 L.qE L.qQ ["sheet"] (L6 K L.av):=by
 have T:=L.T;refine L.ri.F.dF (N:=["sheet","heaviest","desk","line","number","step"]) (λgn A outer s H vs Q E nd hr h=>?_);obtain⟨x,hs,ws,lns,rfl,S,Ax,he,zy,hex,k⟩:=h
 refine{_,(a5 (ai (i:=1) (aI (vH rfl) (by rfl) T.max BJ (aF (aC (pv 0) rfl))))
  (a5 (forA (nR (by rfl) T.enum (aF (aC (pv 0) rfl))) (fj rfl (aU (az (i:=2)) (aU (az (i:=3)) dG))) (a9 (forA (nR (by rfl) T.enum (aF (pv 3))) (fj rfl (aU (az (i:=4)) (aU (az (i:=5)) dG))) (a9 (bp (PW.pt (Kn (cD nM (b5 b9 (aC (pv 0) rfl) (pv 2) (λ_ _=>rfl)) (pv 1)) (Hj (cD iO (b5 b9 (aC (pv 0) rfl) (b5 fO (pv 5) aq (λ_ _=>rfl)) (λ_ _=>rfl)) (pv 1))))) (a9 (aw (cM (a8 (pv 2) (aF (pv 4)))))) aH)))))
  (a9 (aw iz)))),?_}
 ac_rfl
 obtain⟨dx,ah,bw,cl,hx,rh,DW,rl⟩:=id S;obtain⟨SZ,eb,hb⟩:=eN DW;cases eb;obtain⟨M6,xs,ec,hc,J⟩:=id rl;cases ec;have xl:xs.length=lns.length:=by rw[J.len,ZI]
 refine{_,rfl,x,L.av,dx,_,_,rfl,hx,L.ao.cl,L.ao.bK,bM ah bw cl,bw,ws,rfl,hb,zy,λM hM hT=>?_};have O:∀n:Nat,n<ws.length->uG (ws.map V.int) (n:Int)=some (.int (ws.getD n 0)):=λn hn=>bq (by rw[ZM,ZJ hn,ZL,ZJ hn];rfl);refine{_,rfl,x,L.av,dx,_,_,rfl,hx,L.ao.cl,L.ao.cf,bj ah bw cl,cl,xs,rfl,.inl hc,sF (K:=K) (a:=cl) (xs:=xs) (λi σ R=>a7 H R/\(∃v2 v3 v4 I,σ=[some (.ref x),some (.int M),v2,v3,v4,I])/\∀d c b q,Down ws lns M d c b q->i<=d) {a7.refl _,⟨none,none,none,none,rfl⟩,λ_ _ _ _ _=>wal _} (λi σ R _ p=>p.1.seq (.inl hc)) ?_ (λσ R p=>?_)}
 .rintro d y σ R T hy ⟨s2,⟨v2,v3,v4,I,rfl⟩,u⟩ VE;have hd:d<xs.length:=(ZO.mp hy).1;have Ge:d<lns.length:=by lia
  have U:lns[d]?=some (lns.getD d []):=by rw[ZL,ZJ Ge];rfl
  obtain⟨v,X,rd⟩:=J.at (i:=d) (d:=bG (lns.getD d [])) (by rw[ZM,U];rfl);rw[hy]at X;cases X;obtain⟨a,r,rfl,hS,Y⟩:=dA rd;have T1:r.length=(lns.getD d []).length:=by rw[Y.1,ZI,ZI]
  have QJ:∀q∈lns.getD d [],q.2<ws.length:=he _ (ZT U);have s3:=s2.trans (a7.upd (o:=.tup [.int (d:Nat),.ref a]) VE);refine{T,_,rfl,fJ.of a6,rfl,_,_,rfl,_,_,rfl,rfl,?_};generalize upd R T (.tup [.int (d:Nat),.ref a])=H3 at s3;refine{_,rfl,a,_,rfl,s3.seq hS,sF (K:=K) (a:=a) (xs:=r.map V.ref) (λi σ Z=>a7 H Z/\(∃v4 I,σ=[some (.ref x),some (.int M),some (.int (d:Int)),some (.ref a),v4,I])/\∀c b q,Down ws lns M d c b q->i<=c) {s3,{_,_,rfl},λ_ _ _ _=>wal _} (λi σ Z _ p=>p.1.seq hS) ?_ (λσ Z p=>?_)}
  .rintro i y σ Z T2 B ⟨s4,⟨v4,I,rfl⟩,f⟩ VF;have hi:i<r.length:=by have:=(ZO.mp B).1;rwa[ZI]at this
   have C:i<(lns.getD d []).length:=by lia
   rw[ZM,ZJ hi]at B;cases B;have NS:H r[i]=some (.tup [.str (lns.getD d [])[i].1,.int ((lns.getD d [])[i].2:Int)]):=Y.2 i r[i] (jG (eA (lns.getD d [])[i])) (ZJ hi) (by rw[ZM,ZM,ZJ C];rfl);have G:(lns.getD d [])[i]?=some (lns.getD d [])[i]:=ZJ C;have JH:=QJ _ (wah C);generalize (lns.getD d [])[i]=q at NS G JH;have g:=s4.trans (a7.upd (o:=.tup [.int (i:Nat),.ref r[i]]) VF);refine{T2,_,rfl,fJ.of a6,rfl,_,_,rfl,_,_,rfl,rfl,?_};generalize upd Z T2 (.tup [.int (i:Nat),.ref r[i]])=H5 at g
   have Jo:(¬∃b q,Down ws lns M d i b q)->∀c b q,Down ws lns M d c b q->i+1<=c:=λhn c b q hD=>by
    have:=f c b q hD
    by_cases e:c=i
    .subst e;exact absurd ⟨b,q,hD⟩ hn
    .lia
   refine{_,rfl,x,L.av,dx,_,_,rfl,g _ _ hx,L.ao.cl,L.ao.bK,bM ah bw cl,_,rfl,bw,_,_,_,rfl,rfl,g.seq hb,O d (by lia),_,rfl,?_}
   by_cases j:ws.getD d 0=M
   .refine{rfl,true,congrArg V.bl (decide_eq_true (by rw[j])),eJ ?_};refine{_,rfl,x,L.av,dx,_,_,rfl,g _ _ hx,L.ao.cl,L.ao.bK,bM ah bw cl,_,rfl,r[i],_,_,_,rfl,rfl,fJ.of (g _ _ NS),rfl,bw,_,_,_,rfl,rfl,g.seq hb,O q.2 JH,_,rfl,_,_,rfl,rfl,?_}
    by_cases m:ws.getD q.2 0<M
    .refine{true,congrArg V.bl (decide_eq_true m),eJ ?_};refine{_,rfl,_,rfl,by show 2<=sizeLine;decide,λt ht=>?_};exact k t M d i _ q _ (g.trans (a7.upd ht)) a6 ⟨hM,hT,U,G,j,m⟩
    .refine{false,congrArg V.bl (decide_eq_false m),bo ?_};refine{g,{_,_,rfl},Jo ?_};rintro⟨b,q',D⟩;have e1:=D.l;rw[U]at e1;cases e1;have e2:=D.s;rw[G]at e2;cases e2;exact m D.lt
   .refine{rfl,false,congrArg V.bl (decide_eq_false λz=>j (V.int.inj z)),bo ?_};refine bo {g,{_,_,rfl},Jo ?_};rintro⟨b,q',D⟩;exact j D.e
  .obtain⟨s4,⟨v4,I,rfl⟩,f⟩:=p;refine{s4,{_,_,_,_,rfl},λd' c b q D=>?_};have:=u d' c b q D
   by_cases e:d'=d
   .subst e;have:=f c b q D;have e1:=D.l;rw[U]at e1;cases e1;have:=(ZO.mp D.s).1;rw[ZI]at *
    lia
   .lia
 .obtain⟨s2,_,u⟩:=p;obtain⟨d,i,b,q,D⟩:=hex M hM hT;have:=u d i b q D;have:=(ZO.mp D.l).1
  lia
theorem eP(L:Lk K mg):aQ P w K mg base cI 1 L.oC L.oU ["_law_found"] (Df K):=by
 have T:=L.T;refine L.eu.F.dF (N:=["_law_found"]) (λa A outer s H b Q E nd c h=>?_);obtain⟨i,rfl,k⟩:=h;refine{_,(a9 (aw (sS (aI bI (by rfl) T.De pK (a8 (pv 0) (aF (dY (v:=.ty "int") (by rfl) T.int Nk rfl)))) (sG (zP (aI bI (by rfl) T.De pK (a8 (pv 0) (aF (dY (v:=.ty "bool") (by rfl) T.bool JC rfl))))))))),?_}
 ac_rfl
 exact{_,rfl,_,_,_,true,rfl,fH.int _,rfl,true,rfl,eJ {_,rfl,_,_,_,false,rfl,fH.int _,rfl,_,rfl,k}}
end
end K40
namespace Bs
theorem dN.same{H g:Hp}{l:Addr}{j:List Addr}{p:List (Str×Str)}(r:dN H l j p)(s:a7 H g):dN g l j p:={s _ _ r.l,r.t.same s}
theorem dN.push{H:Hp}{l:Addr}{g:List Addr}{j:List (Str×Str)}(R:dN H l g j){r:Addr}(p:H r=none)(q:Str×Str):dN (upd (upd H r (.tup (km q))) l (.lst (g.map V.ref++[.ref r]))) l (g++[r]) (j++[q]):=by
 have hl:(upd H r (.tup (km q))) l=some (.lst (g.map V.ref)):=a7.upd p _ _ R.l;refine{by rw[a6,wa1];rfl,?_};rw[wa1];refine bu.keep ((R.t.same (a7.upd p)).snoc a6) λa b h=>?_;rw[ae (λz=>by rw[z,hl]at h;cases h)];exact h
structure Reach(lns:List (List (Str×Nat)))(rs:List Nat):Prop where
 cl:∀d∈rs,∀q∈lns.getD d [],q.2∈rs
 lt:∀d∈rs,d<lns.length
 ne:rs≠[]
 nd:rs.Nodup
theorem Dz{g:Str}{ws ss ls:List Str}{n:Nat}{many:Int}{f:Str->Int}{j:List Nat}(hn:∀p∈ls,0<=f p)(r:CT g ws ss ls many n f)(R:Reach (bz g ws ss ls n (au ls f)) j) :
 CT g ws ss ls many n (cF (j.map λd=>(au ls f).getD d "") f):=by
 intro p m
 by_cases h:p∈j.map λd=>(au ls f).getD d ""
 .obtain⟨d,hd,rfl⟩:=ZR.mp h;have b:=R.lt d hd;have c:d<(au ls f).length:=by unfold bz at b;rwa[ZI]at b
  have k:(bz g ws ss ls n (au ls f)).getD d []=fS g ws ss ls n (au ls f) ((au ls f).getD d ""):=by
   unfold bz;rw[ZL,ZM,ZJ c,ZL,ZJ c];rfl
  have e:dQ g ws ss ls n (cF (j.map λd=>(au ls f).getD d "") f) ((au ls f).getD d "")=dQ g ws ss ls n f ((au ls f).getD d ""):=by
   unfold dQ;refine congrArg List.sum (waK λq i=>?_);unfold cF
   by_cases a:q.2∈j.map λd=>(au ls f).getD d ""
   .rw[if_pos a]
   .rw[if_neg a]
    by_cases h0:0<f q.2
    .exfalso;have l:q.2∈au ls f:=wa6.mpr {cG i,decide_eq_true h0}
     have hs:(q.1,(au ls f).idxOf q.2)∈(bz g ws ss ls n (au ls f)).getD d []:=by
      rw[k];unfold fS;exact ZR.mpr {q,wa6.mpr {i,decide_eq_true l},rfl}
     have:=R.cl d hd _ hs;refine a (ZR.mpr {_,this,?_});show (au ls f).getD ((au ls f).idxOf q.2) ""=q.2;rw[ZL,(pG l).1];rfl
    .have:=hn _ (cG i)
     lia
  rw[e];unfold cF;rw[if_pos h];exact r _ m
 .have e:cF (j.map λd=>(au ls f).getD d "") f p=0:=by unfold cF;rw[if_neg h]
  rw[e,Int.mul_zero];unfold dQ;exact sZ λq i=>tL hn _ (cG i)
structure fF(g:Str)(bw ss ls:List Str)(many:Int)(n:Nat)(f:Str->Int)(cp:List rV)(ks:List Nat)(hs:List Str)(ws:List Int)(lns:List (List (Str×Nat))):Prop where
 nn:∀p∈ls,0<=f p
 le:∀p∈ls,f p<=8
 fit:CT g bw ss ls many n f
 ps:0<(ls.map f).sum
 m:(ls.map f).sum<=40
 rn:Runs many (au ls f) ((au ls f).map f) (bz g bw ss ls n (au ls f)) cp hs ws lns
 b:ib many hs ws lns
 cv:uO (aN g bw ss ls n) hs lns
 ln:hs.length<=40
 ko:nh lns many ks
 ne:ks≠[]
 sl:cp.length<=40
 sb:∀p∈hs,p∈ls
noncomputable def ur(wl:List (List (Str×Nat)))(s:Str×Nat)(t:Nat):Str×Nat:=(s.1++((wl.getD s.2 []).getD t ("",0)).1,((wl.getD s.2 []).getD t ("",0)).2)
noncomputable def cQ(wl:List (List (Str×Nat)))(d:Nat)(ts:List Nat):Str×Nat:=ts.foldl (ur wl) ("",d)
structure IM(many:Int)(n:Nat)(wl:List (List (Str×Nat))):Prop where
 ne:wl≠[]
 ln:∀l∈wl,(l.length:Int)=many
 e:∀l∈wl,∀q∈l,q.2<wl.length
 wd:∀l∈wl,∀q∈l,q.1.length=n
theorem wF(wl:List (List (Str×Nat)))(d:Nat)(ts:List Nat)(t:Nat):cQ wl d (ts++[t])=ur wl (cQ wl d ts) t:=by
 grind [cQ]
theorem C3{many:Int}{n:Nat}{wl:List (List (Str×Nat))}(g:IM many n wl):∀(ts:List Nat) (s:Str×Nat),s.2<wl.length->(∀t∈ts,(t:Int)<many)->(ts.foldl (ur wl) s).2<wl.length/\(ts.foldl (ur wl) s).1.length=s.1.length+n*ts.length
 |[],s,h,_=>⟨h,rfl⟩
 |t::ts,s,h,c=>by
  have j:=c t (ZZ ..);have hl:=ZT (du h);have f:=g.ln _ hl;have d:=ZT (vR (l:=wl.getD s.2 []) (t:=t) (by lia));obtain⟨a,b⟩:=C3 g ts (ur wl s t) (g.e _ hl ((wl.getD s.2 []).getD t ("",0)) d) λx i=>c x (ZW _ i);refine{a,?_};rw[wfd,b];show (s.1++_).length+_=_;rw[len_app,g.wd _ hl _ d,wan,Nat.mul_add,Nat.mul_one]
  lia
theorem xG{many:Int}{n:Nat}{wl:List (List (Str×Nat))}(W:IM many n wl){d:Nat}(hd:d<wl.length){ts:List Nat}(g:∀t∈ts,(t:Int)<many):(cQ wl d ts).2<wl.length/\(cQ wl d ts).1.length=n*ts.length:=by
 obtain⟨a,b⟩:=C3 W ts ("",d) hd g;refine{a,b.trans ?_};show 0+_=_
 lia
theorem NT{many:Int}{n:Nat}{lns:List (List (Str×Nat))}{ks:List Nat}(h:nh lns many ks)(g:ks≠[])(r:0<=many)(j:∀l∈lns,∀q∈l,q.1.length=n):IM many n (dg lns ks many.toNat):=by
 refine{λz=>g (wgd.mp z),λl hl=>?_,λl hl q a=>?_,λl hl q a=>?_}
 .obtain⟨d,hd,rfl⟩:=ZR.mp hl;have:=(h.st d hd).2;unfold dZ;rw[ZI,wa5]
  lia
 .obtain⟨d,hd,rfl⟩:=ZR.mp hl;unfold dZ at a;obtain⟨p,b,rfl⟩:=ZR.mp a;have c:=of_decide_eq_true (wa6.mp ((waB _ _).subset b)).2;unfold dg;rw[ZI];exact waR.mpr c
 .obtain⟨d,hd,rfl⟩:=ZR.mp hl;unfold dZ at a;obtain⟨p,b,rfl⟩:=ZR.mp a;have e:=(wa6.mp ((waB _ _).subset b)).1;exact j _ (ZT (du (h.st d hd).1)) p e
structure j4(K:ZK)(C CP CS:Addr)(H:Hp)(x xb:Addr)(many:Int)(n:Nat)(m:List (Str×Int))(cp:List rV)(ks:List Nat)(hs:List Str)(ws:List Int)(lns:List (List (Str×Nat)))(b:Nat):Prop where
 ex:∃dx p a l,H x=some (.ins C dx (lU p xb many (n:Int) a l (cQ (dg lns ks many.toNat) 0 (wag b 0)).1 ((cQ (dg lns ks many.toNat) 0 (wag b 0)).2:Int)))/\kz K CP CS H p m cp ks hs ws lns/\b7 K H (jK (ks.map λd=>hs.getD d "")) (.ref a)/\b7 K H (fT (dg lns ks many.toNat)) (.ref l)
theorem Gf(B:aT C H j g bw ss ls)(I:H x=some (.ins J T fs))(hn:j≠x):aT C (fb H x) j g bw ss ls:=by
 obtain⟨⟨f,b,d,q,t,u,h,i,v,k,r⟩,p,o,l⟩:=B;have ne:∀{c:Addr} {o:HO},H c=some o->(∀a b e,o≠.ins a b e)->c≠x:=λe n z=>by grind
 exact{{f,b,d,q,t,fL u hn,fL h (ne h λ_ _ _ z=>by cases z),fL i (ne i λ_ _ _ z=>by cases z),v,λm s=>fL (k m s) (ne (k m s) λ_ _ _ z=>by cases z),fL r (ne r λ_ _ _ z=>by cases z)},p,o,l}
structure Lz(K:ZK)(C CB CP CS:Addr)(H:Hp)(x:Addr)(g:Str)(bw:List Str)(many:Int)(n:Nat):Prop where
 ex:∃(xb:Addr) (ss ls:List Str) (f0 f:Str->Int) (cp:List rV) (ks:List Nat) (hs:List Str) (ws:List Int) (lns:List (List (Str×Nat))) (b:Nat),aT CB H xb g bw ss ls/\j4 K C CP CS H x xb many n (bE f ls) cp ks hs ws lns b/\D4 g bw ss many n/\rY g bw ss ls many n f0/\(∀p∈ls,f p<=f0 p)/\fF g bw ss ls many n f cp ks hs ws lns/\IM many n (dg lns ks many.toNat)/\iT bw n b
theorem uO.uJ{g:Str}{bw ss ls:List Str}{n:Nat}{hs:List Str}{lns:List (List (Str×Nat))}(h:uO (aN g bw ss ls n) hs lns)(hl:lns.length=hs.length)(j:∀p∈hs,p∈ss)(l:ss.Perm (bJ bw "" bw))(hw:∀w∈bw,1<=w.length){i:Nat}(hi:i<hs.length){q:Str×Nat}(r:q∈lns.getD i []):bears bw (hs.getD i ""++q.1)=false/\lend ss (hs.getD i ""++q.1)=hs.getD q.2 ""/\q.1∈GH g n:=by
 have k:hs.getD i ""=hs[i]:=by rw[ZL,ZJ hi];rfl
 have m:hs[i]?=some hs[i]:=ZJ hi;have o:lns[i]?=some (lns.getD i []):=by rw[ZL,ZJ (by lia)];rfl
 have a:0<gg hs[i] (q.1,q.2) hs lns:=by
  have:=jt (z:=(q.1,q.2)) m o;have hc:0<(lns.getD i []).count (q.1,q.2):=wbB.mpr r
  lia
 rw[h hs[i] q.1 q.2]at a
 by_cases c:q.2<hs.length/\hs[i]∈hs/\(q.1,hs.getD q.2 "")∈aN g bw ss ls n hs[i]
 .have e:=(wa6.mp c.2.2).1;rw[tX l hw (j _ (wah hi))]at e;obtain⟨z,s,d⟩:=wdc.mp e;unfold jr at d;rw[k]
  by_cases b:bears bw (hs[i]++z)=true
  .rw[if_pos b]at d;cases d
  .rw[if_neg b]at d;have f:=ZU d;have t:z=q.1:=congrArg Prod.fst f;have u:lend ss (hs[i]++z)=hs.getD q.2 "":=congrArg Prod.snd f;subst t;exact{by simpa using b,u,s}
 .rw[if_neg c]at a
  lia
theorem fF.steps{g:Str}{bw ss ls:List Str}{many:Int}{n:Nat}{f:Str->Int}{cp:List rV}{ks:List Nat}{hs:List Str}{ws:List Int}{lns:List (List (Str×Nat))}(P:fF g bw ss ls many n f cp ks hs ws lns)(r:ss.Perm (bJ bw "" bw))(hw:∀w∈bw,1<=w.length)(j:∀p∈ls,p∈ss)(m:Nat){d:Nat}(hd:d<ks.length):ks[d]<hs.length/\∀q∈(dg lns ks m).getD d [],∃e,(q.1,e)∈lns.getD ks[d] []/\e∈ks/\q.2=ks.idxOf e/\bears bw (hs.getD ks[d] ""++q.1)=false/\lend ss (hs.getD ks[d] ""++q.1)=hs.getD e ""/\q.1∈GH g n:=by
 have hk:=(P.ko.st ks[d] (wah hd)).1;rw[P.b.l]at hk;refine{hk,λq c=>?_}
 have i:(dg lns ks m).getD d []=dZ ks m (lns.getD ks[d] []):=by
  unfold dg;rw[ZL,ZM,ZJ hd];rfl
 rw[i]at c;unfold dZ at c;obtain⟨z,k,rfl⟩:=ZR.mp c;have a:=wa6.mp ((waB _ _).subset k);obtain⟨c1,o,s⟩:=P.cv.uJ P.b.l (λp h=>j p (P.sb p h)) r hw hk a.1;exact{z.2,a.1,of_decide_eq_true a.2,rfl,c1,o,s}
theorem fF.uJ{g:Str}{bw ss ls:List Str}{many:Int}{n:Nat}{f:Str->Int}{cp:List rV}{ks:List Nat}{hs:List Str}{ws:List Int}{lns:List (List (Str×Nat))}(P:fF g bw ss ls many n f cp ks hs ws lns)(l:ss.Perm (bJ bw "" bw))(hw:∀w∈bw,1<=w.length)(j:∀p∈ls,p∈ss)(m:Nat):Fp bw ss (jl hs ks) (dg lns ks m):=by
 intro d hd q i
 have a:d<ks.length:=by
  unfold dg at hd;rwa[ZI]at hd
 obtain⟨hk,h⟩:=P.steps l hw j m a;obtain⟨e,o,b,c,c1,k,_⟩:=h q i;have hi:=waR.mpr b;rw[fQ a,c,fQ hi,wbM hi];exact⟨c1,k⟩
def DA(hs:List Str)(lns:List (List (Str×Nat)))(s:Nat):Prop:=∀d d' ws,d<lns.length->d'<lns.length->hs.getD d ""=hs.getD d' ""->ws.length=s->yA lns d ws->yA lns d' ws->d=d'
theorem DA.split{B:Str->List (Str×Str)}{hs:List Str}{lns:List (List (Str×Nat))}{m d:Nat}{F:Str->Str->Str}(D:DA hs lns m)(C:uO B hs lns)(hl:lns.length=hs.length)(he:∀l∈lns,∀q∈l,q.2<hs.length)(hd:d<hs.length)(t:∀i,i<hs.length->∀q∈lns.getD i [],hs.getD q.2 ""=F (hs.getD i "") q.1)(ns:List Int):DA (cm hs d) (cE lns d ns) (m+1):=by
 intro i j ws hi b h a r s;have sl:(cE lns d ns).length=lns.length+1:=by unfold cE;rw[ZI,wbS,ZP];rfl
 rw[sl]at hi b;rw[<-hl]at he hd;have H:=λk (hk:k<lns.length+1)=>CI (hs:=hs) (d:=d) (i:=k) (by lia)
 cases ws with
 |nil=>cases a
 |cons w ws=>
  obtain⟨e,u,n⟩:=r;obtain⟨v,z,o⟩:=s;obtain⟨a1,a2,a3⟩:=lN hd hi he u;obtain⟨b1,A,E⟩:=lN hd b he z;have n:=xm hd he ws e (pP hd hi he u) n;have o:=xm hd he ws v (pP hd b he z) o;rw[H i hi,H j b,<-hl]at h;have lt:∀k,k<lns.length+1->rD d lns.length k<lns.length:=λk hk=>by unfold rD;split<;>lia
  have G:=t _ (by have:=lt i hi;lia) _ a1;have I:=t _ (by have:=lt j b;lia) _ b1;have J:=he _ (ZT (getD_some [] (lt i hi))) _ a1;have L:=he _ (ZT (getD_some [] (lt j b))) _ b1;have p:=D _ _ ws J L (by rw[G,I,h]) (wgm a) n o;have p:rD d lns.length e=rD d lns.length v:=p;rw[<-p]at b1 A E;have c:=C.one hl (by have:=lt i hi;lia) (by have:=lt j b;lia) h a1 b1
  have hc:∀{q},q∈aW ns (lns.getD d [])->q∈aV ns (lns.getD d [])->False:=λ{q} x y=>by
   have c1:=wbB.mpr x;have M:=wbB.mpr y;have:=C.cnt hl (by lia:d<hs.length) q;have:=mZ (λi=>decide ((i:Int)∈ns)) q 0 (lns.getD d []);unfold aW at c1;unfold aV at M
   lia
  unfold rD at c
  by_cases g:i=lns.length
  .by_cases f:j=lns.length
   .lia
   .rw[if_pos g,if_neg f]at c;exact(hc (A c.symm) (a3 g)).elim
  .by_cases f:j=lns.length
   .rw[if_neg g,if_pos f]at c;exact(hc (a2 c) (E f)).elim
   .rw[if_neg g,if_neg f]at c;exact c
theorem fF.det{g:Str}{bw ss ls:List Str}{many:Int}{n:Nat}{f:Str->Int}{cp:List rV}{ks:List Nat}{hs:List Str}{ws:List Int}{lns:List (List (Str×Nat))}(P:fF g bw ss ls many n f cp ks hs ws lns)(nd:(ch g).Nodup)(t:ss.Perm (bJ bw "" bw))(hw:∀w∈bw,1<=w.length)(j:∀p∈ls,p∈ss)(hl:ls.Nodup):DA hs lns cp.length:=by
 have key:∀{cp hs ws lns},Runs many (au ls f) ((au ls f).map f) (bz g bw ss ls n (au ls f)) cp hs ws lns->dE g bw ss ls many n f cp hs ws lns/\DA hs lns cp.length:=by
  intro cp hs ws lns h
  induction h with
  |nil=>
   refine{dE.start nd t hw j hl P.nn P.fit,λd o ws a b e _ _ _=>?_};have hn:(au ls f).Nodup:=hl.filter _;have c:(bz g bw ss ls n (au ls f)).length=(au ls f).length:=by unfold bz;rw[ZI]
   rw[c]at a b;rw[ZL,ZL,ZJ a,ZJ b]at e;exact(wbK hn).mp e
  |@snoc l hs ws lns d ns w r ok nl k=>
   obtain⟨L,D⟩:=k;refine{L.step ok nl,?_};rw[ZP];exact D.split L.cv L.b.l L.b.e (L.b.split ok).2 (F:=λp w=>lend ss (p++w)) (λi hi q m=>((L.cv.uJ L.b.l (λp h=>j p (L.sb p h)) t hw hi m).2.1).symm) _
 exact(key P.rn).2
structure JI(bw ss hk:List Str)(wl:List (List (Str×Nat)))(s:Nat):Prop where
 det:DA hk wl s
 go:Fp bw ss hk wl
 inj:∀(d i j:Nat) (z:Str×Nat),(wl.getD d [])[i]?=some z->(wl.getD d [])[j]?=some z->i=j
 e:∀(d:Nat),∀q∈wl.getD d [],q.2<wl.length
theorem fF.read{g:Str}{bw ss ls:List Str}{many:Int}{n:Nat}{f:Str->Int}{cp:List rV}{ks:List Nat}{hs:List Str}{ws:List Int}{lns:List (List (Str×Nat))}(P:fF g bw ss ls many n f cp ks hs ws lns)(nd:(ch g).Nodup)(C:ss.Perm (bJ bw "" bw))(hw:∀w∈bw,1<=w.length)(t:∀p∈ls,p∈ss)(hl:ls.Nodup)(m:Nat):JI bw ss (jl hs ks) (dg lns ks m) cp.length:=by
 have D:=P.det nd C hw t hl;have E:ks.Nodup:=P.ko.ab.sub.nodup weV;have s:∀{d},d<ks.length->ks.getD d 0<lns.length:=λ{d} hd=>(P.ko.st _ (ZT (getD_some 0 hd))).1;refine{λd O G a b e l r H=>?_,P.uJ C hw t m,λd i j z c k=>?_,λd q u=>?_}
 .rw[pI]at a b
  have h:=D _ _ G (s a) (s b) (by
   have v:=fQ (hs:=hs) a;have A:=fQ (hs:=hs) b;rw[v,A]at e;rw[ZL (l:=ks),ZJ a,ZL (l:=ks),ZJ b]
   exact e) l (xo _ _ r) (xo _ _ H)
  rw[ZL,ZJ a,ZL,ZJ b]at h;exact(wbK E).mp h
 .have hd:=Fy (ZT c);rw[JA hd]at c k;have o:(lns.getD (ks.getD d 0) []).Nodup:=vY λq=>P.cv.cnt P.b.l (by have:=s hd;have:=P.b.l;lia) q;generalize lns.getD (ks.getD d 0) []=B at c k o;have nt:((cu ks B).take m).Nodup:=(o.filter _).sublist (waB _ _);have mem:∀q∈(cu ks B).take m,q.2∈ks:=λq u=>of_decide_eq_true (wa6.mp (we8 u)).2;unfold dZ at c k;generalize (cu ks B).take m=l at c k nt mem;rw[ZM]at c k;obtain⟨p,c,v⟩:=wcK.mp c;obtain⟨q,k,A⟩:=wcK.mp k;have I:=v.trans A.symm;obtain⟨a,b⟩:=wc1 I;have lp:=waR.mpr (mem p (ZT c));have J:=waR.mpr (mem q (ZT k))
  have b:p.2=q.2:=by
   have x:=wbM lp;have y:=wbM J;rw[<-x,<-y];congr 1
  have L:p=q:=wcT a b;rw[<-L]at k;obtain⟨Q,M⟩:=ZO.mp c;obtain⟨R,N⟩:=ZO.mp k;exact(wbK nt).mp (M.trans N.symm)
 .rw[pI];exact(xn (w:=q.1) (e:=q.2) u).1
theorem DB{ss:List Str}{a p:Str}(he:("":Str)∈ss)(h:∀s∈ss,s.length<=p.length):lend ss (a++p)=lend ss p:=by
 have key:∀r:Str,∃k,k<=r.length/\lend ss r=bD r k/\bD r k∈ss/\∀m,m<k->bD r m∉ss:=by
  intro r
  have i:∃k,k<=r.length/\bD r k∈ss/\∀m,m<k->bD r m∉ss:=by
   have:∀j,j<=r.length->(∃k,k<=j/\bD r k∈ss)->∃k,k<=j/\bD r k∈ss/\∀m,m<k->bD r m∉ss:=by
    intro j
    induction j with
    |zero=>rintro _ ⟨k,hk,f⟩;exact{k,hk,f,λm d=>absurd d (by lia)}
    |succ j l=>
     rintro v ⟨k,hk,f⟩
     by_cases c:∃k,k<=j/\bD r k∈ss
     .obtain⟨k,a,b⟩:=l (by lia) c;exact{k,by lia,b}
     .exact{k,hk,f,λm d z=>c {m,by lia,z}}
   obtain⟨k,a,b⟩:=this r.length (ZS _) {r.length,ZS _,by
    have:bD r r.length="":=cY (by rw[fm];exact wdG (wdh (aJ r)))
    rw[this];exact he}
   exact⟨k,a,b⟩
  obtain⟨k,a,b,c⟩:=i;exact{k,a,by unfold lend;rw[nV b c a],b,c}
 obtain⟨k,w,n,g,o⟩:=key (a++p);obtain⟨m,m1,q,t,u⟩:=key p;rw[n,q];have hd:∀j,bD (a++p) (a.length+j)=bD p j:=λj=>cY (by rw[fm,fm,bx,<-aJ a,List.drop_append];simp)
 have hk:a.length<=k:=by
  have:=h _ g;rw[<-aJ,fm,waN,aJ,len_app]at this
  lia
 have e:a.length+m=k:=by
  rcases weI (a.length+m) k with z |z |z
  .exact absurd (by rw[hd];exact t) (o _ z)
  .exact z
  .have:=hd (k-a.length);rw[show a.length+(k-a.length)=k by lia]at this;exact absurd (by rw[<-this];exact g) (u (k-a.length) (by lia))
 rw[<-e,hd]
noncomputable def Wr.o(R:Wr):Str×Nat:=cQ R.wl 0 (wag R.b 0)
structure QK(R:Wr):Prop where
 w:IM R.many R.n R.wl
 m1:1<=R.many
 m8:R.many<=8
 n1:1<=R.n
 DX:R.n<=10
 b1:R.b<=1000
 c1:R.c<=1000
 hl:R.hk.length=R.wl.length
 l1:R.wl.length<=40
 bh:iT R.bw R.n R.b
 hw:∀w∈R.bw,1<=w.length/\w.length<=900
 bl:R.bw.length<=1000
 gl:R.g.length<=10
 rd:JI R.bw R.ss R.hk R.wl R.c
 gd:∀(d:Nat),∀q∈R.wl.getD d [],∀c∈ch q.1,c∈ch R.g
 h0:R.hk.getD 0 ""∈R.ss
 sh:∀s∈R.ss,s.length<=R.n*R.b
 pm:R.ss.Perm (bJ R.bw "" R.bw)
structure xH(K:ZK)(C CB CP:Addr)(H:Hp)(x:Addr)(R:Wr):Prop where
 ex:∃dx p xb a l dp wa wb wc wz ys,H x=some (.ins C dx (lU p xb R.many (R.n:Int) a l R.o.1 (R.o.2:Int)))/\H p=some (.ins CP dp (rB wa wb wc wz))/\aK K H wb ys/\ys.length=R.c/\b7 K H (fT R.wl) (.ref l)/\aK K H a (R.hk.map V.str)/\aT CB H xb R.g R.bw R.ss R.ls
 ok:QK R
theorem DC{ss:List Str}(h:iT bw n b)(hn:1<=n)(g:ss.Perm (bJ bw "" bw)):∀s∈ss,s.length<=n*b:=by
 intro s hs;obtain⟨_,M,⟨u,_⟩,e⟩:=h;rcases(iC _).mp (g.mem_iff.mp hs) with rfl |⟨w,hw,i,hi,rfl,_⟩
 .exact wal _
 .have c:=u w hw;have d:(cH w (1+i)).length=min (1+i) w.length:=by rw[<-aJ,jn,wa5,aJ]
  have f:M-1<=(n:Int)*(b:Int):=by
   rw[if_neg ()]at e;have a:=wfK (M-1+(n:Int)-1) (n:Int);have j:=wb8 (M-1+(n:Int)-1) (show 0<(n:Int) by omega);rw[<-e]at a;omega
  have k:((n*b:Nat):Int)=(n:Int)*(b:Int):=wcc ..;omega
theorem IP{K:ZK}{C CB t I:Addr}{H:Hp}{x j:Addr}{g:Str}{bw ss ls:List Str}{many:Int}{n:Nat}{f:Str->Int}{cp:List rV}{ks:List Nat}{hs:List Str}{ws:List Int}{lns:List (List (Str×Nat))}{b:Nat}(B:aT CB H j g bw ss ls)(W:j4 K C t I H x j many n (bE f ls) cp ks hs ws lns b)(P:fF g bw ss ls many n f cp ks hs ws lns)(J:IM many n (dg lns ks many.toNat))(r:iT bw n b)(nd:(ch g).Nodup)(hw:∀w∈bw,1<=w.length/\w.length<=900)(bl:bw.length<=1000)(gl:g.length<=10)(m1:1<=many)(m8:many<=8)(n1:1<=n)(DX:n<=10):xH K C CB t H x {g,bw,ss,ls,jl hs ks,many,n,b,cp.length,dg lns ks many.toNat}:=by
 obtain⟨u,p,a,l,v,⟨dp,y,z,A,D,E,_,G,_,_⟩,L,M⟩:=W;obtain⟨S,N,O,Q,k⟩:=id G;cases O;have c:∀p∈ls,p∈ss:=λp h=>B.lv.sub.subset h;have i:∀w∈bw,1<=w.length:=λw h=>(hw w h).1
 have R:ks.length<=40:=by
  have m:=P.ko.ab.sub.length_le;have o:=P.b.l;have T:=P.ln;rw[wau]at m
  lia
 have sl:=P.sl;have kp:0<ks.length:=wc0.mpr P.ne;refine{{u,p,j,a,l,dp,y,z,A,D,N,v,E,.inl Q,by rw[k.len,ZI],M,.inl (oh L),B},J,m1,m8,n1,DX,r.le,by show cp.length<=1000;lia,?_,?_,r,hw,bl,gl,P.read nd B.pm i c (B.nd.sublist B.lv.sub) _,λd q s=>?_,?_,DC r n1 B.pm,B.pm}
 .show (jl hs ks).length=_;rw[pI];exact ZI ..
 .show (dg lns ks many.toNat).length<=40;rw[pI];exact R
 .have hd:=Fy s;have m:=(xn (w:=q.1) (e:=q.2) s).2;have o:ks.getD d 0<hs.length:=by have:=(P.ko.st _ (ZT (getD_some 0 hd))).1;have:=P.b.l;lia
  exact Fz n _ (P.cv.uJ P.b.l (λp h=>c p (P.sb p h)) B.pm i o m).2.2
 .show (jl hs ks).getD 0 ""∈ss;rw[fQ kp];have hk:=(P.steps B.pm i c many.toNat kp).1;rw[ZL,ZJ hk];exact c _ (P.sb _ (wah hk))
theorem JK{bw:List Str}{n b:Nat}(h:iT bw n b)(hw:∀w∈bw,w.length<=5)(hn:1<=n):n*b<=n+3:=by
 obtain⟨_,M,⟨_,a⟩,e⟩:=h
 have d:M<=5:=by
  rcases a with⟨a,_⟩ |⟨w,c,a⟩
  .omega
  .have:=hw w c;omega
 have c:(n:Int)*(((if 0>M-1 then 0 else M-1)+(n:Int)-1)/(n:Int))<=(if 0>M-1 then 0 else M-1)+(n:Int)-1:=Int.mul_ediv_self_le ();rw[<-e]at c;have f:(if 0>M-1 then 0 else M-1)<=4:=by split<;>omega
 have g:((n*b:Nat):Int)=(n:Int)*(b:Int):=wcc ..;omega
section
variable{ws ss:List Str}{r:Str}
theorem zm(g:ss.Perm (bJ ws "" ws))(hw:∀w∈ws,1<=w.length)(l:bears ws r=false)(w:Str):∀i,i<=w.length->bears ws (lend ss r++cH w i)=bears ws (r++cH w i)/\(bears ws (r++cH w i)=false->lend ss (lend ss r++cH w i)=lend ss (r++cH w i))
 |0,_=>by
  have n:("":Str)∈ss:=g.mem_iff.mpr (cb ws);rw[take_zero,o9,o9];obtain⟨o,p⟩:=nj g hw (tU n r);exact{by rw[o,l],λ_=>p}
 |i+1,hi=>by
  obtain⟨f,j⟩:=zm g hw l w i ();have hc:(ch w)[i]?=some ((ch w)[i]'(by rw[aJ];omega)):=ZJ _;generalize (ch w)[i]'(by rw[aJ];omega)=c at hc;rw[take_snoc hc,<-gP,<-gP]
  cases d:bears ws (r++cH w i) with
  |true=>
   have up:∀q:Str,bears ws q=true->bears ws (q++{#[c]})=true:=λq s=>by
    cases e:bears ws (q++⟨#[c]⟩) with
    |true=>rfl
    |false=>
     have:=lQ (a:=q) (b:=q++({#[c]}:Str)) (by rw[bx];exact(wdq _ _).isInfix) e;rw[s]at this;cases this
   rw[up _ d,up _ (f.trans d)];exact{rfl,λz=>by cases z}
  |false=>
   have hl:=j d;have h:=f.trans d;have t:=ni (c:=c) g d hw;have k:=ni (c:=c) g h hw;have u:=pU (c:=c) g d;have m:=pU (c:=c) g h;rw[hl]at k m;exact{k.symm.trans t,λ_=>m.symm.trans u}
theorem LA(g:ss.Perm (bJ ws "" ws))(hw:∀w∈ws,1<=w.length)(j:bears ws r=false){w:Str}(h:bears ws (lend ss r++w)=false):bears ws (r++w)=false/\lend ss (r++w)=lend ss (lend ss r++w):=by
 obtain⟨a,b⟩:=zm g hw j w w.length (ZS _);rw[take_all]at a b;rw[h]at a;exact{a.symm,(b a.symm).symm}
end
theorem DE{many:Int}{n:Nat}{bw ss hk:List Str}{wl:List (List (Str×Nat))}(g:IM many n wl)(j:ss.Perm (bJ bw "" bw))(hw:∀w∈bw,1<=w.length)(G:Fp bw ss hk wl){d:Nat}(hd:d<wl.length)(p:hk.getD d ""∈ss):∀ts:List Nat,(∀t∈ts,(t:Int)<many)->bears bw (hk.getD d ""++(cQ wl d ts).1)=false/\lend ss (hk.getD d ""++(cQ wl d ts).1)=hk.getD (cQ wl d ts).2 "":=by
 intro ts;refine snoc_ind (P:=λ(ts:List Nat)=>(∀t∈ts,(t:Int)<many)->bears bw (hk.getD d ""++(cQ wl d ts).1)=false/\lend ss (hk.getD d ""++(cQ wl d ts).1)=hk.getD (cQ wl d ts).2 "") ?_ ?_ ts
 .intro _;obtain⟨c,e⟩:=nj j hw p;show bears bw (hk.getD d ""++("":Str))=false/\lend ss (hk.getD d ""++("":Str))=hk.getD d "";rw[o9];exact⟨c,e⟩
 .intro ts t f h;obtain⟨i,k⟩:=f λx a=>h x (waG _ a);have r:=h t (war _ (wa4.mpr rfl));obtain⟨b,_⟩:=xG g hd (ts:=ts) λx a=>h x (waG _ a);rw[wF];unfold ur;have hl:=ZT (du b);have m:=g.ln _ hl;have o:=ZT (vR (l:=wl.getD (cQ wl d ts).2 []) (t:=t) (by lia));obtain⟨g1,g2⟩:=G _ b _ o;rw[<-k]at g1 g2;obtain⟨c1,q⟩:=LA j hw i g1;dsimp only;rw[<-gP];exact{c1,q.trans g2}
end Bs
namespace K40
section
variable{P:wad}{w:World}{K:ZK}{mg:Str->Option Value}{base:Heap}
inductive xI(K:ZK)(C CB CP:Addr)(u:Wr->V)(vs:List V)(H:Hp)(Q:VK)(eC:XK):Prop
 |mk (x R) (_:vs=[.ref x]) (_:xH K C CB CP H x R) (_:Q (u R) H)
local macro_rules|`(tactic|ac_rfl)=>`(tactic|try dsimp only[cZ,d1,b0,b4])
theorem jX(L:Lk K mg):aQ P w K mg base cI 1 L.kH L.kW ["self"] (xI K L.ak L.aA L.aE (λR=>.int (R.c:Int))):=by
 have T:=L.T;refine L.hV.F.dF (N:=["self"]) (λd A outer s H r Q E nd t h=>?_);obtain⟨x,R,rfl,⟨⟨e,p,u,a,l,dp,f,b,g,i,j,m,n,o,q,_⟩,_⟩,k⟩:=h;refine{_,(a9 (aw (AY T.len (aC (aC (pv 0) rfl) rfl)))),?_}
 ac_rfl
 refine{_,rfl,x,L.ak,e,_,_,rfl,m,L.ag.cl,L.ag.gm,fu ..,p,L.aE,dp,_,_,rfl,n,L.aR.cl,L.aR.kA,gE f b g i,b,j,rfl,.inl o,?_};rw[q];exact k
theorem uv(L:Lk K mg):aQ P w K mg base cI 1 L.mc L.mq ["self"] (xI K L.ak L.aA L.aE (λR=>.str R.o.1)):=by
 refine L.mE.F.dF (N:=["self"]) (λb A outer s H e Q E nd f h=>?_);obtain⟨x,R,rfl,⟨⟨c,p,g,a,l,dp,i,j,m,n,q,d,_⟩,_⟩,k⟩:=h;refine{_,(a9 (aw (aC (pv 0) rfl))),?_}
 ac_rfl
 exact{_,rfl,x,L.ak,c,_,_,rfl,d,L.ag.cl,L.ag.wh,uQ ..,k}
theorem cw(L:Lk K mg):aQ P w K mg base cI 1 L.kJ L.kY ["self"] (xI K L.ak L.aA L.aE (λR=>.int (R.wl.length:Int))):=by
 have T:=L.T;refine L.cq.F.dF (N:=["self"]) (λb A outer s H f Q E nd g h=>?_);obtain⟨x,R,rfl,⟨⟨c,p,i,a,l,dp,j,m,n,o,q,d,_,_,_,_,e,_⟩,ok⟩,k⟩:=h;refine{_,(a9 (aw (AY T.len (aC (pv 0) rfl)))),?_}
 ac_rfl
 refine{_,rfl,x,L.ak,c,_,_,rfl,d,L.ag.cl,L.ag.dH,qu ..,a,_,rfl,.inl e,?_};rw[ZI,ok.hl];exact k
inductive Gg(K:ZK)(C CB CP:Addr)(vs:List V)(H:Hp)(Q:VK)(eC:XK):Prop
 |mk (x:Addr) (R:Wr) (d:Nat) (_:vs=[.ref x,.int (d:Int)]) (_:xH K C CB CP H x R) (_:d<R.wl.length) (_:Q (.str (R.hk.getD d "")) H)
theorem d8(L:Lk K mg):aQ P w K mg base cI 1 L.ie L.ip ["self","desk"] (Gg K L.ak L.aA L.aE):=by
 refine L.cA.F.dF (N:=["self","desk"]) (λb A outer s H i Q E nd j h=>?_);obtain⟨x,R,d,rfl,⟨⟨c,p,m,a,l,dp,n,o,q,r,t,f,_,_,_,_,g,_⟩,ok⟩,hd,k⟩:=h;refine{_,(a9 (aw (b5 b9 (aC (pv 0) rfl) (pv 1) (λ_ _=>rfl)))),?_}
 ac_rfl
 have e:=getD_some ("":Str) (show d<R.hk.length by rw[ok.hl];exact hd);exact{_,rfl,x,L.ak,c,_,_,rfl,f,L.ag.cl,L.ag.dH,qu ..,_,rfl,a,_,_,_,rfl,rfl,g,bq (v:=.str (R.hk.getD d "")) (by rw[ZM,e];rfl),k}
inductive Gh(K:ZK)(C CB CP:Addr)(vs:List V)(H:Hp)(Q:VK)(eC:XK):Prop
 |mk (x:Addr) (R:Wr) (d:Nat) (_:vs=[.ref x,.int (d:Int)]) (_:xH K C CB CP H x R) (_:d<R.wl.length) (_:∀l ys H',a7 H H'->b7 K (aG H H') (bG (R.wl.getD d [])) (.ref l)->H l=none->H' l=some (.lst ys)->Q (.ref l) H')
theorem Gi{H:Hp}{x:Addr}{R:Wr}{Q:VK}{E:XK}(W:xH K C CB l H x R)(k:∀j,a7 H j->Q (.int (R.b:Int)) j):FN C CB [.ref x] H Q E:=by
 obtain⟨⟨a,p,c,h,i,dp,m,o,q,r,s,d,_,_,_,t,_,B⟩,ok⟩:=W;exact{x,c,a,_,R.n,R.g,R.bw,R.ss,R.ls,rfl,d,AU ..,AV ..,B,ok.n1,ok.DX,λw hw=>(ok.hw w hw).2,ok.bl,λb j e f=>by rw[Bs.iT.one f ok.bh];exact k j e}
theorem gz(L:Lk K mg):aQ P w K mg base cI 1 L.kI L.kX ["self"] (xI K L.ak L.aA L.aE (λR=>.int (R.o.2:Int))):=by
 refine L.fD.F.dF (N:=["self"]) (λb A outer s H e Q E nd f h=>?_);obtain⟨x,R,rfl,⟨⟨c,p,g,a,l,dp,i,j,m,n,q,d,_⟩,_⟩,k⟩:=h;refine{_,(a9 (aw (aC (pv 0) rfl))),?_}
 ac_rfl
 exact{_,rfl,x,L.ak,c,_,_,rfl,d,L.ag.cl,L.ag.BM,yX ..,k}
structure rH(K:ZK)(C CB CP CS:Addr)(H:Hp)(x:Addr)(p:Pl):Prop where
 w:xH K C CB CP H x p.R
 t:∃xb,j4 K C CP CS H x xb p.many p.n (bE p.f p.ls) p.cp p.ks p.hs p.ws p.lns p.b
 pk:fF p.g p.bw p.ss p.ls p.many p.n p.f p.cp p.ks p.hs p.ws p.lns
 r:eU p.g.length p.many p.n
 w5:∀w∈p.bw,uP p.g w
 b6:p.bw.length<=6
 sg:vT p.g
 ls:∀q∈p.ls,q∈p.ss
theorem rH.ln(h:rH K C CB g j H x p):p.hs.length<=40/\p.ws.length<=40/\p.lns.length<=40/\p.cp.length<=40/\p.ks.length<=40/\∀l∈p.lns,l.length<=10000:=by
 have a:=h.pk;have d:=a.ln;have f:=a.b.w;have k:=a.b.l;have i:=a.sl;obtain⟨m,o,s,rd,e⟩:=h.r
 have c:p.g.length^p.n<=64:=by
  rw[wae]at e;have:((p.g.length^p.n:Nat):Int)<=64:=by rw[wbT];exact e
  lia
 refine{d,by lia,by lia,i,by have:=a.ko.ab.sub.length_le;rw[wau]at this;lia,λl j=>?_};have d:=a.cv.line a.b.l (b:=64) (λq=>wa0 (dP p.g p.bw p.ss p.ls p.n q) c) l j;have f:64*p.hs.length<=64*40:=wd6 _ (by lia)
 lia
inductive IQ(K:ZK)(C CB CP CS:Addr)(vs:List V)(H:Hp)(Q:VK)(eC:XK):Prop
 |mk (x p) (_:vs=[.ref x]) (_:rH K C CB CP CS H x p) (_:∀y H',a7 H H'->kz K CP CS H' y (bE p.f p.ls) p.cp p.ks p.hs p.ws p.lns->Q (.ref y) H')
theorem p8(L:Lk K mg):aQ P w K mg base cI 1 L.qM L.qY ["_law_row","_law_words"] (FG K):=by
 have T:=L.T;refine L.lE.F.dF (N:=["_law_row","_law_words"]) (λi A outer s H n Q E nd o h=>?_);obtain⟨r,a,ws,rfl,f,hl,k⟩:=h;refine{_,(a9 (aw (zP (aI (nQ rfl) (by rfl) T.any HI (aF (bV rfl (ax ["_law_row"] [0]) (aM (pv 1)) (λ_ _ _ _ _ _=>bb) (λ_ _ _ _ _ _=>(cV pz (pv 0) (pv 1) rfl)))))))),?_}
 ac_rfl
 refine{_,rfl,a,rfl,{_,f},λl d=>comp_map (Nq r) (aL K a (ws.map V.str)) d (by rw[ZI];exact ay ()) (λg e=>e.seq f) (λx j p m _ q=>?_) (λg e b=>?_)}
 .obtain⟨c,_,rfl⟩:=ZR.mp m;exact{_,rfl,_,rfl,_,_,rfl,rfl,q j (a7.refl _)}
 .rw[yF]at b;refine{l,_,rfl,aK.of b,_,rfl,?_};have:=k g e;rw[wde];exact this
theorem B9{g:Str}{bw ss ls:List Str}{many:Int}{n:Nat}{f:Str->Int}{cp:List rV}{ks:List Nat}{hs:List Str}{ws:List Int}{lns:List (List (Str×Nat))}(P:fF g bw ss ls many n f cp ks hs ws lns)(m d:Nat):((dg lns ks m).getD d []).Nodup:=by
 by_cases hd:d<ks.length
 .have hk:=(P.ko.st ks[d] (wah hd)).1
  have c:(dg lns ks m).getD d []=dZ ks m (lns.getD ks[d] []):=by
   unfold dg;rw[ZL,ZM,ZJ hd];rfl
  have nd:(lns.getD ks[d] []).Nodup:=wg0.mpr λq=>P.cv.cnt P.b.l (by rw[<-P.b.l];exact hk) q;rw[c];unfold dZ;refine List.pairwise_map.mpr (List.Pairwise.imp_of_mem (λ{a b} ha i h e=>h ?_) ((nd.sublist wcu).sublist (waB _ _)));have j:=of_decide_eq_true (wa6.mp ((waB _ _).subset ha)).2;have k:=of_decide_eq_true (wa6.mp ((waB _ _).subset i)).2;obtain⟨c,o⟩:=wc1 e;have p:=wbM (waR.mpr j);have r:=wbM (waR.mpr k);refine wcT c ?_;rw[<-p,<-r];simp only[o]
 .rw[ZL,wcb (by unfold dg;rw[ZI];lia)];exact wco
theorem rH.hk(h:rH K C CB g j H x p){d:Nat}(hd:d<p.ks.length):p.R.hk.getD d ""∈p.ss/\(p.R.hk.getD d "").length<=13:=by
 have hk:=(h.pk.ko.st p.ks[d] (wah hd)).1;rw[h.pk.b.l]at hk
 have a:p.R.hk.getD d ""∈p.ss:=by
  show (jl p.hs p.ks).getD d ""∈_;rw[fQ hd,ZL,ZJ hk];exact h.ls _ (h.pk.sb _ (wah hk))
 have c:=h.w.ok.sh _ a;have e:=JK h.w.ok.bh (λw hw=>(h.w5 w hw).hi) h.w.ok.n1;have f:=h.w.ok.DX;exact{a,by lia}
inductive DF(K:ZK)(C CB CP CS:Addr)(vs:List V)(H:Hp)(Q:VK)(eC:XK):Prop
 |mk (x a:Addr) (p:Pl) (d:Nat) (_:vs=[.ref x,.int (d:Int),.ref a,.int p.many,.int (p.n:Int)]) (_:rH K C CB CP CS H x p) (_:aK K H a (p.bw.map V.str)) (_:d<p.ks.length) (_:∀H',a7 H H'->Q (.bl true) H')
noncomputable abbrev NU(p:Pl)(x a yb z wc:Addr)(d:Nat)(v9 v10 v11:Option V):St:=[some (.ref x),some (.int (d:Int)),some (.ref a),some (.int p.many),some (.int (p.n:Int)),some (.ref yb),some (.str (p.R.hk.getD d "")),some (.ref z),some (.ref wc),v9,v10,v11]
inductive LC(p:Pl)(x a yb z wc:Addr)(d:Nat)(H1:Hp)(i:Nat)(σ:St)(H':Hp):Prop
 |mk (_:a7 H1 H') (v9 v10 v11) (_:σ=NU p x a yb z wc d v9 v10 v11)
theorem LC.s(q:LC p x a l z r d g i σ j):a7 g j:=by
 obtain⟨h,_⟩:=q;exact h
inductive Gj(K:ZK)(C CB CP CS:Addr)(vs:List V)(H:Hp)(Q:VK)(eC:XK):Prop
 |mk (x xb p) (_:vs=[.ref x,.ref xb,.int p.many,.int (p.n:Int)]) (_:rH K C CB CP CS H x p) (_:aT CB H xb p.g p.bw p.ss p.ls) (_:∀H',a7 H H'->Q (.bl true) H')
theorem Lr.s(q:Lr K l p x r y g i σ j):a7 g j:=by
 obtain⟨h,_⟩:=q;exact h
inductive Gk(K:ZK)(C CB CP CS:Addr)(vs:List V)(H:Hp)(Q:VK)(eC:XK):Prop
 |mk (x a p) (_:vs=[.ref x,.ref a,.int (p.n:Int)]) (_:rH K C CB CP CS H x p) (_:aK K H a (p.bw.map V.str)) (_:∀H',a7 H H'->Q (.bl true) H')
end
end K40
namespace L2
open PySem.Spec PyProof.Rows
section
variable{X:Cx}{tg:Expr}
theorem IU{l:wec}{n k:Nat}{q:wad}{loose:List Str}{XP:(Str->Option Value)->Heap->Prop}{YP:World->Heap->Prop}{d:DefRec}{K:Params->ZK}{CX:World->DV}{sp:World->Sp}{x:Str}
 (hn:l.most=some n) (r:n<=sizeLine) (t:d.params.defaults=[]) (J:cU k callerA)
 (U:∀(w:World) (h:Heap),YP w h->(K w.params).In h)
 (F:∀(w:World) (mg:Str->Option Value) (p:Addr) (h:Heap),(K w.params).In h->h.Ns wax mg->mg d.name=some (.ref p) ->
   ∃fd:wb3,(∀(s:Shared) (u:Value),BindsTo s fd {[u],[]} [(x,u)]) /\
    ∀base:Heap,(K w.params).In base->base.Ns wax mg->aQ l.prog w (K w.params) mg base (CX w) k p fd [x] (sp w))
 (C:∀(w:World) (H:Hp) (a:Addr) (ns:List Int),ns.length<=n->Only H->aK (K w.params) H a (ns.map V.int)->sp w [.ref a] H (λv _=>v=.bl true) λ_ _ _=>False)
 (I:∀(w:World) (H:Hp) (s:Shared) (e:Value) (s':Shared),CX w [] H s (λ_ _ _=>False) e s'->False) :
 wh5 q loose XP YP l.row.toRowW d [] (λf vs=>whj f vs):=by
 refine SV.z4 hn t λw z j mg Q p o pm R B a vs ns G Y S hd D y m i c E=>?_;have A:=U w _ Y;obtain⟨fd,L,M⟩:=F w mg p _ A G.T.g y;exact Ex A G.T.g G.T.b G.T.builtins G.T.nolimit E m i (wa0 c r) J M L (λH N O=>C w H a ns c N O) λH e s'=>I w H j e s'
theorem Ba{g:List (Addr×Obj)}{σ:St}{H:Hp}{s:Shared}{R:It->Hp->Prop}{E:Value->Shared->Prop}{lo hi:Int}{t u v:Tok}(I:Inv X g σ H s)(j:0<=lo)(l:lo<=1000000)(p:0<=hi)(r:hi<=1000000)
 (q:R (GZ lo (-1) (lo-hi).toNat) H):wpAny (model X.prog X.w) X.A (pyIter (.ref s.heap.objs.size)) (MT X g σ tg R) E {s with heap:=s.heap.push {cls:=.type "range",data:=.fields #[.int lo t,.int hi u,.int (-1) v]}}:=by
 have a:wge lo hi (-1)=true:=by
  unfold wge;rw[vp];simp only[Builtin.Range.rangeFitsLong,waV,wh7,decide_eq_true_eq,beq_iff_eq,show ¬((-1:Int)>0) by decide,if_false]
  lia
 refine wpAny_pyIter_range (whr ..) a ?_;have c:Inv X g σ H {s with heap:=s.heap.push {cls:=.type "range",data:=.fields #[.int lo t,.int hi u,.int (-1) v]}}:=I.kept (t':=s.toks) λb o e=>ZQ _ e
 refine{(s.heap.push {cls:=.type "range",data:=.fields #[.int lo t,.int hi u,.int (-1) v]}).objs.size,[(s.heap.push {cls:=.type "range",data:=.fields #[.int lo t,.int hi u,.int (-1) v]}).objs.size],_,_,H,rfl,
  c.kept (t':=s.toks) λb o e=>ZQ _ e,yn _ lo (-1) (lo-hi).toNat,?_,λb d=>?_,q}
 .have f:lo+((0:Nat):Int)*(-1)=lo:=by simp
  have h:(((lo-hi).toNat:Nat):Int)-((0:Nat):Int)=wcw lo hi (-1):=by rw[vp];simp
  show wfp _ _ (lo+((0:Nat):Int)*(-1)) ((((lo-hi).toNat:Nat):Int)-((0:Nat):Int)) (-1);rw[f,h];exact wa9 _ rfl
 .have e:b=(s.heap.push {cls:=.type "range",data:=.fields #[.int lo t,.int hi u,.int (-1) v]}).objs.size:=by simpa using d
  subst e;exact c.zT (ZS _) (c.bc.fresh (ZS _))
theorem DG(C:Gl X "range")(J:X.mg "range"=none)(ha:PA X [a,b,c] T)(hs:starEach [a,b,c] X.env=[(false,eval a X.env),(false,eval b X.env),(false,eval c X.env)]:=by rfl)(g:starEach [b,c] X.env=[(false,eval b X.env),(false,eval c X.env)]:=by rfl) :
 PI X tg (.Call (.Name "range" p) [a,b,c] [] pos) (MD T):=by
 refine{?_};intro d s σ H R I h;refine Call_ (gT I C J boot_range (wbE (bS (ha pos d s σ H _ I h) λy z ⟨A,B,m,n,k⟩=>?_) (by rw[hs,g]) (by rw[g];rfl)));obtain⟨i,j,e,⟨k,o,u,v⟩,q⟩:=k;subst e
 cases n with
 |cons r f=>
  cases f with
  |cons w f=>
   cases f with
   |cons l f=>
    cases f;obtain⟨t,rfl⟩:=r;obtain⟨D,rfl⟩:=w;obtain⟨x,rfl⟩:=l;exact call_range_3 (by lia) (Ba m k o u v q) (.inl (wft (by lia)))
mutual
theorem b7.same{K:ZK}{H g:Hp}(s:a7 H g):∀(d:gL) (v:V),b7 K H d v->b7 K g d v
 |.at _,_,h=>h
 |.tup c,_,h=>by
  obtain⟨a,b,e,hs,hl⟩:=h;exact{a,b,e,s _ _ hs,aO.same s c b hl}
 |.lst c,_,h=>by
  obtain⟨a,b,e,hs,hl⟩:=h;exact{a,b,e,nF s hs,aO.same s c b hl}
theorem aO.same{K:ZK}{H j:Hp}(s:a7 H j):∀(g:List gL) (xs:List V),aO K H g xs->aO K j g xs
 |[],_,h=>h
 |d::g,_,h=>by
  obtain⟨v,a,e,b,hl⟩:=h;exact{v,a,e,b7.same s d v b,aO.same s g a hl}
end
theorem uw{K:ZK}{J:It}{Ok:Hp->Prop}{xs:List V}{l:Addr}{t:St}{U:TE}{H:Hp}{Q:Hp->Prop}(p:List gL)(hJ:k4 J Ok xs)(hl:H l=none)(hz:xs.length<=sizeLine)(C:p.length=xs.length)(I:∀g,a7 H g->Ok g)
 (he:∀(i:Nat) (x:V) (d:gL) j T,xs[i]?=some x->p[i]?=some d->a7 H j->(∀y g,a7 j g->b7 K (aG j g) d y->T y g)->U (some x::t) j T)
 (hd:∀g,a7 H g->b7 K (aG H g) (.lst p) (.ref l)->Q g):lY J l t uH U H Q:=by
 refine ye (λi y g=>∀d,p[i]?=some d->∃j o,a7 H j/\j l=some o/\b7 K (aG j g) d y) ?_ hJ hl hz I (λi x j f T k b c m=>?_) (λf g h n e q=>?_)
 .intro i y v w f r s kp d a;obtain⟨j,o,b,c,r⟩:=r d a;exact{j,o,b,c,b7.same (bN c kp) d y r}
 .have hi:i<p.length:=by rw[C];exact(ZO.mp k).1
  refine he i x p[i] j _ k (ZJ hi) b λy g h r=>m y g h λd a=>?_;rw[ZJ hi]at a;cases a;exact{j,_,b,c,r}
 .refine hd g h {l,f,rfl,.inl (bR hl n),aO.pA p f (by rw[C,e]) λi d y a u=>?_};obtain⟨j,o,b,c,r⟩:=q i y u d a;exact b7.same (ee b) d y r
theorem ux{K:ZK}{J:It}{Ok:Hp->Prop}{xs:List V}{prs:List (V×V)}{l:Addr}{I:St}{tt:TT}{te:TE}{H:Hp}{Q:Hp->Prop}(p:V×V->Bool)(D:V×V->gL)(hJ:k4 J Ok xs)(C:xs.length=prs.length)
 (hT:∀(i:Nat) (q:V×V),prs[i]?=some q->∃r,xs[i]?=some (.ref r)/\fJ K H r [q.1,q.2]) (hl:H l=none) (hz:xs.length<=sizeLine) (T:∀t,a7 H t->Ok t)
 (ht:∀q g U,q∈prs->a7 H g->(∀t,a7 g t->U (p q) t)->tt (some q.1::some q.2::I) g U)
 (he:∀q g U,q∈prs->p q=true->a7 H g->(∀y t,a7 g t->b7 K (aG g t) (D q) y->U y t)->te (some q.1::some q.2::I) g U)
 (hd:∀t ys,a7 H t->t l=some (.lst ys)->b7 K (aG H t) (.lst ((prs.filter p).map D)) (.ref l)->Q t):iA K J l I tt te H Q:=by
 refine{λi m ys n=>m=xs.length-i/\i<=xs.length/\a7 H n/\n l=some (.lst ys)/\ys.length=((prs.take i).filter p).length/\∀(j:Nat) (d:gL) (y:V),(((prs.take i).filter p).map D)[j]?=some d->ys[j]?=some y->∃g o,a7 H g/\g l=some o/\b7 K (aG g n) d y,
  {xs.length,by simp,wal _,a7.upd hl,a6,by simp,λj d y h=>by simp at h},?_}
 rintro i m ys n ⟨rfl,hi,f,w,c,Y⟩;refine{w,?_}
 by_cases k:i<xs.length
 .have YK:((prs.take i).filter p).length<=i:=wa0 (waT _ _) (by rw[wa5];omega);refine .inr {hJ.go i n (T _ f) k,(),λx g y=>?_};obtain⟨e,hx⟩:=hJ.uC i n x g (T _ f) k y;subst e;have Z:prs[i]?=some prs[i]:=ZJ ();obtain⟨r,A,hr⟩:=hT i _ Z;rw[hx]at A;cases A;have mem:prs[i]∈prs:=wah _;have tk:prs.take (i+1)=prs.take i++[prs[i]]:=by rw[waw,Z];rfl
  refine{r,prs[i].1,prs[i].2,rfl,f.Hc hr,ht prs[i] _ _ mem f λH4 u=>?_}
  have B:∀(j:Nat) (d:gL) (y:V),(((prs.take i).filter p).map D)[j]?=some d->ys[j]?=some y->∃g o,a7 H g/\g l=some o/\b7 K (aG g H4) d y:=λj d y h1 h3=>by
   obtain⟨N,o,E,h5,O⟩:=Y j d y h1 h3;exact{N,o,E,h5,b7.same (gR u) d y O}
  cases R:p prs[i] with
  |false=>
   rw[if_neg wa2];have G:(prs.take (i+1)).filter p=(prs.take i).filter p:=by rw[tk,wbk];simp[R]
   exact{xs.length-(i+1),(),rfl,k,f.trans u,u _ _ w,by rw[G];exact c,by rw[G];exact B}
  |true=>
   rw[if_pos rfl];have G:(prs.take (i+1)).filter p=(prs.take i).filter p++[prs[i]]:=by rw[tk,wbk];simp[R]
   have v:=u _ _ w;refine he prs[i] _ _ mem R (f.trans u) λy N E O=>{E _ _ v,xs.length-(i+1),(),rfl,k,λb o e=>?_,a6,by rw[G,ZP,ZP,c];rfl,λj d z s a=>?_}
   .rw[ae (af e hl)];exact E _ _ (u _ _ (f _ _ e))
   .have kp:∀b o,N b=some o->b≠l->(upd N l (.lst (ys++[y]))) b=some o:=λb o e hb=>by rw[ae hb];exact e
    rw[G,wa1]at s;have S:(((prs.take i).filter p).map D).length=ys.length:=by rw[ZI,c]
    by_cases X:j<ys.length
    .rw[wai ()]at s;rw[wai X]at a;obtain⟨H6,o,s6,h6,r6⟩:=B j d z s a;exact{H6,o,s6,h6,b7.same ((gR E).trans (bN h6 kp)) d z r6}
    .rw[waf ()]at s a
     have L:j-ys.length=0:=by
      have:=(ZO.mp a).1;simp at this;omega
     rw[S,L]at s;rw[L]at a;cases s;cases a;exact{H4,_,f.trans u,v,b7.same (bN v kp) _ _ O}
 .have e:i=xs.length:=();subst e;refine .inl {hJ.stop n (T _ f),hd n ys f w {l,ys,rfl,.inl (bR hl w),aO.pA _ ys ?_ λj d y s hy=>?_}}
  .rw[C,wam]at c;rw[ZI,c]
  .have M:=Y j d y;rw[C,wam]at M;obtain⟨g,o,s3,h3,r3⟩:=M s hy;exact b7.same (ee s3) d y r3
theorem lS{K:ZK}{J:It}{Ok:Hp->Prop}{xs:List V}{prs:List (V×V)}{l:Addr}{t:St}{U:TT}{te:TE}{H:Hp}{Q:Hp->Prop}(p:V×V->Bool)(D:V×V->gL)(hJ:k4 J Ok xs)(C:xs.length=prs.length)
 (hT:∀(i:Nat) (q:V×V),prs[i]?=some q->∃r,xs[i]?=some (.ref r)/\fJ K H r [q.1,q.2]) (hl:H l=none) (hz:xs.length<=sizeLine) (T:∀g,a7 H g->Ok g)
 (ht:∀q j I,q∈prs->a7 H j->(∀g,a7 j g->I (p q) g)->U (some q.1::some q.2::t) j I)
 (he:∀q j I,q∈prs->p q=true->a7 H j->(∀y g,a7 j g->b7 K (aG j g) (D q) y->I y g)->te (some q.1::some q.2::t) j I)
 (hd:∀g,a7 H g->b7 K (aG H g) (.lst ((prs.filter p).map D)) (.ref l)->Q g):iA K J l t U te H Q:=
 ux p D hJ C hT hl hz T ht he λg _ a _ r=>hd g a r
theorem DH{K:ZK}(J:X.K=K):Hh X "list.index" (λx xs H Q=>∃l g k i,x=.ref l/\xs=[.int k]/\aK K H l (wcM V.int g)/\g.length<=1000/\g[i]?=some k/\(∀j:Nat,j<i->g[j]?≠some k)/\Q (.int (i:Nat)) H):=by
 subst J;intro B s σ H x xs v Z Q I G L h;obtain⟨l,g,k,i,rfl,rfl,M,N,hi,o,q⟩:=h;cases G;obtain⟨u,rfl,O,rfl⟩:=L.one;obtain⟨a,C,pl,hz⟩:=I.list M;obtain⟨⟨cls,R,data,sl⟩,D,hc,n,hd⟩:=pl.isList;simp only at hc hd;subst hc hd;have d:=C.length;rw[ZI]at d;have S:i<g.length:=(ZO.mp hi).1
 have b:∀m (c:m<a.length),∃t,a[m]=.int (g[m]'()) t:=λm c=>by
  obtain⟨w,E,T⟩:=C.get (i:=m) (x:=.int (g[m]'())) (by rw[ZM,ZJ ()];rfl);rw[ZJ c]at E;obtain⟨t,rfl⟩:=T;exact{t,ZU E}
 refine wd0 wcy {_,D,rfl} weX (weN _ _)
  (weY l a.toArray n R sl (.int k O) (λw=>match w with |.int z _=>z==k |_=>false) i (by simp;omega) () ?_ ?_) {D,λy U=>?_,?_}
 .obtain⟨t,e⟩:=b i ();have Y:g[i]=k:=(ZO.mp hi).2;simp only[wd2];rw[e,Y];simp
 .intro m c p;have r:m<a.length:=by simpa using c
  obtain⟨t,e⟩:=b m r;simp only[wd2];rw[e];have f:=o m p;rw[ZJ ()]at f;simp only[beq_eq_false_iff_ne,ne_eq];exact λz=>f (by rw[z])
 .have A:y∈a:=by simpa using U
  obtain⟨m,c,rfl⟩:=wbt A;obtain⟨t,e⟩:=b m c;rw[e];exact wfD _ _ _ _
 .exact{.int (i:Nat),H,I.tok _,{_,rfl},q}
end
section
variable{X:Cx}{pins:List (Addr×Obj)}{σ:St}{H:Hp}{s:Shared}
theorem LD(I:Inv X pins σ H s):∀(n:Nat) (d:gL),dep d<=n->∀(x y:V) (u v:Value) (A:Around),A.units+n<wbf->b7 X.K H d x->b7 X.K H d y->RelV x u->RelV y v->wdu A s u v true:=by
 intro n
 induction n with
 |zero=>
  intro d hd x y u v A hA q r t w
  cases d with
  |«at» z=>
   obtain⟨rfl,p⟩:=(show x=z/\mN z=true from q);obtain⟨rfl,_⟩:=(show y=x/\mN x=true from r);have:=kc (A:=A) (s:=s) t w (lJ p) (lJ p);rw[vq p]at this;exact this
  |tup h=>exact absurd hd (by show ¬je h+1<=0;lia)
  |lst h=>exact absurd hd (by show ¬je h+1<=0;lia)
 |succ n ih=>
  intro d hd x y u v A hA q r t w
  have item:∀(g i:List V) (f c:List Value) (h:List gL),je h<=n->aO X.K H h g->aO X.K H h i->Vals g f->Vals i c->∀j (U:j<f.toArray.size) (Y:j<c.toArray.size),wdu A.in1 s f.toArray[j] c.toArray[j] true:=by
   intro g i f c h YL U Y m o j L M;obtain⟨hl,hg⟩:=aO.both h g i U Y;have Z:=m.length;have e2:=o.length;have B:j<f.length:=by simpa using L
   have C:j<c.length:=by simpa using M
   obtain⟨G,D⟩:∃G,g[j]?=some G:={_,ZJ (by lia)};obtain⟨J,E⟩:∃J,i[j]?=some J:={_,ZJ (by lia)};obtain⟨u1,q1,w1⟩:=m.get D;obtain⟨u2,q2,w2⟩:=o.get E
   have g1:f.toArray[j]=u1:=by
    have:f[j]?=some f[j]:=by simp[B]
    rw[this]at q1;simpa using ZU q1
   have g2:c.toArray[j]=u2:=by
    have:c[j]?=some c[j]:=by simp[C]
    rw[this]at q2;simpa using ZU q2
   obtain⟨d',IV,N,O⟩:=hg j G J D E;rw[g1,g2];exact ih d' (by lia) G J u1 u2 A.in1 (by show A.units+1+n<wbf;lia) N O w1 w2
  cases d with
  |«at» z=>
   obtain⟨rfl,p⟩:=(show x=z/\mN z=true from q);obtain⟨rfl,_⟩:=(show y=x/\mN x=true from r);have:=kc (A:=A) (s:=s) t w (lJ p) (lJ p);rw[vq p]at this;exact this
  |tup h=>
   obtain⟨a,g,rfl,ha,k⟩:=(show ∃a g,x=.ref a/\H a=some (.tup g)/\aO X.K H h g from q);obtain⟨b,i,rfl,Q,l⟩:=(show ∃a g,y=.ref a/\H a=some (.tup g)/\aO X.K H h g from r);cases t;cases w
   by_cases e:a=b
   .subst e;exact we2 _
   .obtain⟨f,m,S,_⟩:=I.tuple (fJ.of ha);obtain⟨c,o,T,_⟩:=I.tuple (fJ.of Q);have hl:=(aO.both h g i k l).1;have Z:=m.length;have e2:=o.length;have R:=wgM (A:=A) (e:=λ_=>true) S T (by lia) (item g i f c h (by have:je h+1<=n+1:=hd;lia) k l m o);rw[iI,show (f.toArray.size==c.toArray.size)=true by simp only[wa3,beq_iff_eq];lia]at R;exact wep e R
  |lst h=>
   obtain⟨a,g,rfl,ha,k⟩:=(show ∃a g,x=.ref a/\Rd H a (.lst g)/\aO X.K H h g from q);obtain⟨b,i,rfl,Q,l⟩:=(show ∃a g,y=.ref a/\Rd H a (.lst g)/\aO X.K H h g from r);cases t;cases w
   by_cases e:a=b
   .subst e;exact we2 _
   .obtain⟨f,m,S,_⟩:=I.list (.inl ha);obtain⟨c,o,T,_⟩:=I.list (.inl Q);have hl:=(aO.both h g i k l).1;have Z:=m.length;have e2:=o.length;have R:=SeqAt.RcAt.lists (A:=A) (e:=λ_=>true) S.isList T.isList (by simp only[wa3];lia) (by lia) (item g i f c h (by have:je h+1<=n+1:=hd;lia) k l m o);rw[iI]at R;exact wep e R
theorem rZ(I:Inv X pins σ H s)(T:A.units+n<wbf)(U:je p<=n)(r:aO X.K H p xs)(t:aO X.K H p ys)(C:Vals xs l)(J:Vals ys g) :
 ∀j (r:j<l.toArray.size) (t:j<g.toArray.size),wdu A s l.toArray[j] g.toArray[j] true:=by
 intro j h i;obtain⟨hl,w⟩:=aO.both p xs ys r t;have D:=C.length;have E:=J.length;have a:j<l.length:=by simpa using h
 have b:j<g.length:=by simpa using i
 obtain⟨e,c⟩:∃e,xs[j]?=some e:={_,ZJ (by lia)};obtain⟨f,d⟩:∃f,ys[j]?=some f:={_,ZJ (by lia)};obtain⟨o,q,x⟩:=C.get c;obtain⟨u,v,y⟩:=J.get d
 have g1:l.toArray[j]=o:=by
  have:l[j]?=some l[j]:=by simp[a]
  rw[this]at q;simpa using ZU q
 have g2:g.toArray[j]=u:=by
  have:g[j]?=some g[j]:=by simp[b]
  rw[this]at v;simpa using ZU v
 obtain⟨z,B,k,m⟩:=w j e f c d;rw[g1,g2];exact LD I n z (by lia) e f o u A T k m x y
theorem IW(J:X.A.units+60<wbf):jc X (waE .Eq) (SG X.K true):=by
 intro pins s σ H x y v u Q I z B h;obtain⟨i,hd,h,q⟩:=h;rcases h with⟨m,o⟩ |⟨m,o⟩
 .obtain⟨a,c,rfl,ha,d⟩:=(show ∃a c,x=.ref a/\Rd H a (.lst c)/\aO X.K H i c from m);obtain⟨b,p,rfl,r,f⟩:=(show ∃a c,y=.ref a/\Rd H a (.lst c)/\aO X.K H i c from o);cases z;cases B;obtain⟨j,k,t,_⟩:=I.list (.inl ha);obtain⟨g,l,w,_⟩:=I.list (.inl r);have hl:=(aO.both i c p d f).1;have C:=k.length;have D:=l.length;refine wha (e:=λ_=>true) t.isList w.isList (by simp only[wa3];lia) (by lia) (rZ I (A:=X.A.in1) (n:=50) (by show X.A.units+1+50<wbf;lia) hd d f k l) ?_;rw[iI];exact{.bl true,H,I,rfl,q}
 .obtain⟨a,c,rfl,ha,d⟩:=(show ∃a c,x=.ref a/\H a=some (.tup c)/\aO X.K H i c from m);obtain⟨b,p,rfl,r,f⟩:=(show ∃a c,y=.ref a/\H a=some (.tup c)/\aO X.K H i c from o);cases z;cases B;obtain⟨j,k,t,_⟩:=I.tuple (fJ.of ha);obtain⟨g,l,w,_⟩:=I.tuple (fJ.of r);have hl:=(aO.both i c p d f).1;have C:=k.length;have D:=l.length;refine SeqAt.eq_tupleAt (e:=λ_=>true) t w (by lia) (rZ I (A:=X.A.in1) (n:=50) (by show X.A.units+1+50<wbf;lia) hd d f k l) ?_;rw[iI,show (j.toArray.size==g.toArray.size)=true by simp only[wa3,beq_iff_eq];lia];exact{.bl true,H,I,rfl,q}
theorem IX(J:X.A.units+60<wbf):jc X (waE .NotEq) (SG X.K false):=by
 intro pins s σ H x y v u Q I B C h;obtain⟨i,hd,h,q⟩:=h;rcases h with⟨m,o⟩ |⟨m,o⟩
 .obtain⟨a,c,rfl,ha,d⟩:=(show ∃a c,x=.ref a/\Rd H a (.lst c)/\aO X.K H i c from m);obtain⟨b,p,rfl,r,f⟩:=(show ∃a c,y=.ref a/\Rd H a (.lst c)/\aO X.K H i c from o);cases B;cases C;obtain⟨j,k,t,_⟩:=I.list (.inl ha);obtain⟨g,l,z,_⟩:=I.list (.inl r);have hl:=(aO.both i c p d f).1;have D:=k.length;have E:=l.length;refine wgo (e:=λ_=>true) t.isList z.isList (by simp only[wa3];omega) () (rZ I (A:=X.A.in1) (n:=50) (by show X.A.units+1+50<wbf;omega) hd d f k l) X.prog X.w _ _ ?_;rw[iI];exact{.bl false,H,I,rfl,q}
 .obtain⟨a,c,rfl,ha,d⟩:=(show ∃a c,x=.ref a/\H a=some (.tup c)/\aO X.K H i c from m);obtain⟨b,p,rfl,r,f⟩:=(show ∃a c,y=.ref a/\H a=some (.tup c)/\aO X.K H i c from o);cases B;cases C;obtain⟨j,k,t,_⟩:=I.tuple (fJ.of ha);obtain⟨g,l,z,_⟩:=I.tuple (fJ.of r);have hl:=(aO.both i c p d f).1;have D:=k.length;have E:=l.length;refine SeqAt.RcNeAt.tuples (e:=λ_=>true) t z () (rZ I (A:=X.A.in1) (n:=50) (by show X.A.units+1+50<wbf;omega) hd d f k l) X.prog X.w _ _ ?_;rw[iI,show (j.toArray.size==g.toArray.size)=true by simp only[wa3,beq_iff_eq];omega];exact{.bl false,H,I,rfl,q}
end
section
variable{X:Cx}{CB C1 C2:Addr}{OO OQ x nm Qz:Str}{body:List Stmt}{tb:LZ}{i jj jk:Nat}{p1 p2 p3 p4 QL q1 q2 q3 q4 QM pos:Pos}
theorem IY(l:X.stack=X.env::X.outer/\X.env.frame=some X.env.locals)(g:MY X body tb)(hg:Gl X OO)(hm:X.mg OO=some (.ref C1))(VG:Gl X OQ)(Qy:X.mg OQ=some (.ref C2))(U:eV X.K C1 CB nm)(U':eV X.K C2 CB Qz)(zy:C1≠C2)(VH:C1≠CB)(hN:X.N.Nodup)(hi:X.N[i]?=some x)
 (hx:Loc X.env.scope x) (J:(OO==("__debug__":Str))=false:=by decide) (T:(OQ==("__debug__":Str))=false:=by decide)
 (hf:X.fn x=true\/X.env.scope.names.lookup x=some .local:=by first |exact .inl rfl |exact .inr rfl |assumption) (Qf:wbD (.Constant .none jj p3) (some (.Name x p2)) p4.line X.env=pure false:=by rfl) (QN:wbD (.Constant .none jk q3) (some (.Name x q2)) q4.line X.env=pure false:=by rfl) :
 PS X (.Try body [.ExceptHandler (some (.Name OO p1)) none [.Assign [.Name x p2] (.Constant .none jj p3) p4] QL,.ExceptHandler (some (.Name OQ q1)) none [.Assign [.Name x q2] (.Constant .none jk q3) q4] QM] [] [] pos) (N3 C1 C2 tb i):=by
 refine{?_};intro a s σ H D I h;refine wpAny_Try_except (waF (g a s σ H D _ I h) (λf s1 q=>?_) λY s1 q=>?_)
 .cases f with
  |next=>exact wbQ q
  |ret v=>exact q
  |brk=>exact q
  |cont=>exact q
 obtain⟨r,H0,G,d,e,C',od,m,rfl,k,bare,un,bc,F,c,hD⟩:=q;have I1:Inv X a r m s1:=d.vA k un bc bare λb z=>absurd z (by simp);have VI:(X.env::X.outer).filterMap (·.frame)=pY X.stack:=by rw[l.1];rfl
 have t:=I1.rQ
 have L:G.heap.objs.size<=s1.heap.objs.size:=wh4 λz=>by
  obtain⟨Om,_,vs,sl,he,_⟩:=F;exact absurd (wa7 (waI Om (ZX he)) (we3 z)) (waW _)
 refine y8 (lo:=G.heap.objs.size) (H:=m) (base:=X.base) (outer:=X.outer) (by rw[<-l.1];exact d.ok.frames) (by rw[<-l.1];exact I1.stack) l.2 L (λb g=>bc.fresh g) F λZ F2 p=>?_;rw[VI]at p;obtain⟨M,n,J2⟩:=d.zV k bare un bc p t;have u:=J2 s1.toks;obtain⟨qC,NC,YM,YN,VJ,YQ,VL,YR,c0,c1,c2,c3,c5,O⟩:=U.lk;obtain⟨qD,ND,YS,YT,VM,YV,VN,YW,e0,e1,e2,e3,e5,Q⟩:=U'.lk;obtain⟨T3,YX,w,_⟩:=id F2.ob;rcases c with c |c
 .cases c;refine weg (wdW (fY (X:=X.marked e) (u.marked (e:=e)) hg hm ?_ J)) (by intro z;cases z);refine qy (u.gC _ _ O) w rfl ?_;refine wfA ?_;refine sy F2 λR F3 S=>?_;have A:Cq G.heap.objs.size m (pY X.stack) Z R:={λb o q g _=>S b o q g,λb o q g=>{o.slots,S b o q (.inl ?_)}}
  rotate_left
  .have:∃o,G.heap.get? b=some o:=by
    obtain⟨_,o,B,_⟩:=d.stack.mem g;exact⟨o,B⟩
   obtain⟨o,B⟩:=this;exact ZX B
  obtain⟨VO,V,J3⟩:=d.zV (s1:={s1 with heap:=Z}) k bare M n A t;have I3:=J3 s1.toks;have Y:=iz (X:=(X.marked e).Jf) (j:=jj) (pos:=p3) a {s1 with heap:=R} r m (λv C=>v=.non/\C=m) ((I3.marked (e:=e)).mL _) ⟨rfl,rfl⟩;refine wcr (wdz (Kr (bS Y λv s5 ⟨y,H5,E,r5,ey,eH⟩=>?_)) Qf);subst ey;subst eH;have E:=(E.fN).unmarked d.ok;refine iP E hN hi hx r5 (λs6 I6=>wbQ ?_) hf;exact{_,_,I6,hD}
 .cases c;refine weg (wdW (fY (X:=X.marked e) (u.marked (e:=e)) hg hm ?_ J)) (by intro z;cases z);refine xx (u.gC _ _ O) (u.gC _ _ Q) w rfl zy VH ?_;refine weg (wdW (fY (X:=X.marked e) (u.marked (e:=e)) VG Qy ?_ T)) (by intro z;cases z);refine qy (u.gC _ _ Q) w rfl ?_;refine wfA ?_;refine sy F2 λR F3 S=>?_;have A:Cq G.heap.objs.size m (pY X.stack) Z R:={λb o q g _=>S b o q g,λb o q g=>{o.slots,S b o q (.inl ?_)}}
  rotate_left
  .have:∃o,G.heap.get? b=some o:=by
    obtain⟨_,o,B,_⟩:=d.stack.mem g;exact⟨o,B⟩
   obtain⟨o,B⟩:=this;exact ZX B
  obtain⟨VO,V,J3⟩:=d.zV (s1:={s1 with heap:=Z}) k bare M n A t;have I3:=J3 s1.toks;have Y:=iz (X:=(X.marked e).Jf) (j:=jk) (pos:=q3) a {s1 with heap:=R} r m (λv C=>v=.non/\C=m) ((I3.marked (e:=e)).mL _) ⟨rfl,rfl⟩;refine wcr (wdz (Kr (bS Y λv s5 ⟨y,H5,E,r5,ey,eH⟩=>?_)) QN);subst ey;subst eH;have E:=(E.fN).unmarked d.ok;refine iP E hN hi hx r5 (λs6 I6=>wbQ ?_) hf;exact{_,_,I6,hD}
end
end L2
namespace L2
open PySem.Spec PyProof.Rows PySem.Calls
section
variable{X:Cx}
theorem DI(hc:X.calm=true):dM X (.builtin "sum") (λxs H Q=>∃v d kvs ns,xs=[.ref v]/\H v=some (iH v d)/\H d=some (.dK kvs)/\kvs.map (·.2)=wcM V.int ns/\Q (.int ns.sum) H):=by
 intro m s σ H xs U Q I r h;obtain⟨v,d,kvs,ns,rfl,D,hd,hn,q⟩:=h;obtain⟨u,rfl,E⟩:=vals1 r;cases E;obtain⟨Y,lo,c,rel,G⟩:=sI I.bc hd;obtain⟨ep,f⟩:=G.dictAt;obtain⟨a,_⟩:=(show bZ X.prog X.w H s.heap v (iH v d) from I.bc v _ D);have J:=I.ok.hd hc
 have g:c.length=ns.length:=by
  have:=congrArg wcO hn;rw[ZI,ZI]at this;rw[<-rel.length];exact this
 have L:∀{kvs:List (Key×V)} {c:List (Key×Value)} {ns:List Int},KV kvs c->kvs.map (·.2)=ns.map V.int->∀(i:Nat) (k:Key) (x:Value),c[i]?=some (k,x)->∃t,x=.int (ns.getD i 0) t:=by
  intro kvs c ns r
  induction r generalizing ns with
  |nil=>intro _ i k x e;simp at e
  |@cons p q ps Z h t M=>
   intro e i k x j
   cases ns with
   |nil=>cases e
   |cons n ns=>
    rw[wab,wab]at e;injection e with N O
    cases i with
    |zero=>
     simp at j;have y:=h.2;rw[N,j]at y;exact y
    |succ i=>exact M O i k x (by simpa using j)
 have z:=wgr (prog:=X.prog) (w:=X.w) (r:=v) (d:=d) (knd:=bF X.prog X.w) (kvs:=c) (ep:=ep);refine call_sum_walkAnyS ?_;obtain⟨R,St,hit,S,st⟩:=z.iter X.A.in1 s J ⟨a,f⟩;refine hit _ _ {s.heap.objs.size,_,_,_,c.length,_,_,λi=>ns.getD i 0,rfl,S.toS,st,λb l=>?_,λi x ⟨k,e⟩=>L rel hn i k x e,λB t' C=>?_}
 .show b<(s.heap.push R).objs.size;rw[size_push'];rcases wao.mp l with e |l
  .rw[e];exact wbx _
  .rw[wa4.mp l];exact wdA (z.there _ ⟨a,f⟩).2
 .have hk:∀b o,s.heap.get? b=some o->B.heap.get? b=some o:=λb o e=>
   C.heap b o (λT=>absurd (ZX e) (by rw[wa4.mp T];exact waW _)) (ZQ _ e)
  rw[Moved.eq_with C];refine{.int ns.sum,H,I.kept (t':=B.toks) hk,{t',?_},q};rw[g,qt]
theorem DJ(l:Addr)(items:Array Value)(n:Nat)(j:Option Addr)(sl:Array (Option Value))(t:Tok) :
 Meets (weh.«enumerate.__new__» {[.type "enumerate",.ref l],JF t}) (λ_ R s=>s.heap.get? l=some {cls:=.type "list",dict:=j,data:=.seq items n,slots:=sl} /\
  R (.ok (.ret (.ref (s.heap.objs.size+1)))) {s with heap:=(s.heap.push {cls:=.type "list_iterator",data:=.fields #[.ref l,.int 0 0]}).push {cls:=.type "enumerate",data:=.fields #[.none,.bool false,.ref s.heap.objs.size,rawInt 1,.none,.none]}}):=
 .of_wp λprog w A R s h=>by
  obtain⟨a,g,d,i,os⟩:=s;obtain⟨hl,h⟩:=h;have b:(a.push {cls:=.type "list_iterator",data:=.fields #[.ref l,.int 0 0]}).objs.size=a.objs.size+1:=wbo ..;have e:=sub_enumerate;have f:Heap.IsList (Shared.heap ⟨a,g,d,i,os⟩) l items:={_,hl,rfl,n,rfl}
  wp_walk using wfk hl
  refine wpAny_stack_any λst=>waa ?_;split
  .rename_i c _ _ _ _ _;cases(c==wdY "enumerate")<;>(wp_walk using wfk hl,wch f;exact{_,rfl,by rw[b];exact h})
  .wp_walk using wfk hl,wch f
   exact{_,rfl,by rw[b];exact h}
theorem xJ{E:Value->Shared->Prop}{Q:Value->Shared->Prop}(l:args.any (·.1)=false)(p:j.any (·.1.isNone)=false)
 (h:wpAny M A (evalArgs (.type T) true args j) (λa g=>wpAny M A (call (.type T) (first++a.pos) a.kw) Q E g) E s):wpAny M A (callWith pos (.type T) first args j) Q E s:=by
 unfold callWith;refine ZN (wb0 (waF h (λa g b=>ZN (wd4 ?_)) λ_ _ x=>x));simp only[l,p,Bool.or_false];exact ZN (waa (ZN (waF b (λr c d=>ZN (wb0 (wpAny_point (waa d)))) λ_ _ x=>x)))
end
section
variable{prog:wad}{w:World}{A:Around}{E:Value->Shared->Prop}{s:Shared}{X:Cx}
theorem Bb(o l:Addr)(t:Tok):Meets (weh.«object.__init__» {[.ref o,.ref l],JF t}) (λ_ R s=>s.TypeIs (.ref o) "enumerate"/\R (.ok (.ret .none)) s):=by
 have hl:=weq.init.lookup;have c:=weq.made;have a:(some "enumerate.__new__" != some "object.__new__")=true:=⋯;refine Meets.of_wp λprog w A R s ⟨d,b⟩=>?_
 repeat (any_goals (first |assumption |wp_step))
 exact{_,rfl,b}
theorem Bc{Q:Value->Shared->Prop}(C:s.heap.IsList l items)
 (h:∀h',IsEnum h' (s.heap.objs.size+1) s.heap.objs.size 1 .none->h'.IsListIter s.heap.objs.size l 0->(∀b o,s.heap.get? b=some o->h'.get? b=some o)->Q (.ref (s.heap.objs.size+1)) {s with heap:=h'}) :
 wpAny (model prog w) A (call (.type "enumerate") [.ref l] (JF t)) Q E s:=by
 obtain⟨⟨c,f,x,sl⟩,hl,hc,n,hd⟩:=C;have y:c=.type "list":=hc;have z:x=.seq items n:=hd;subst y z;have B:(s.heap.push {cls:=.type "list_iterator",data:=.fields #[.ref l,.int 0 0]}).objs.size=s.heap.objs.size+1:=wbo ..;have a:=weq;obtain⟨c,J,k⟩:=a.mro;have g:=a.made;have m:=a.sub;have L:=a.notType;have M:=a.canCreate;have D:=FR l t;refine wcI (wfi (show wpAny _ _ (callAny (.type "enumerate") _) _ _ _ from waa {wdm _ ∅,wbg wfU ?_}));rw[wgu (wfH "enumerate" [.ref l] (JF t)) (units_type_call_type "enumerate" [.ref l] (JF t))]
 repeat (any_goals (first |assumption |wp_step))
 have p:((s.heap.push {cls:=.type "list_iterator",data:=.fields #[.ref l,.int 0 0]}).push {cls:=.type "enumerate",data:=.fields #[.none,.bool false,.ref s.heap.objs.size,rawInt 1,.none,.none]}).get? (s.heap.objs.size+1)=some {cls:=.type "enumerate",data:=.fields #[.none,.bool false,.ref s.heap.objs.size,rawInt 1,.none,.none]}:=by
  rw[<-B];exact wa9 _ rfl
 refine wbG (wck a.plain F.entry_enumerate_new (wgS (FT l t) ((DJ l items n f sl t) prog w A.in1 (wants (λv i=>v=.ref (s.heap.objs.size+1)/\i={s with heap:=(s.heap.push {cls:=.type "list_iterator",data:=.fields #[.ref l,.int 0 0]}).push {cls:=.type "enumerate",data:=.fields #[.none,.bool false,.ref s.heap.objs.size,rawInt 1,.none,.none]}}) E) s ⟨hl,rfl,rfl⟩))) λr q j=>?_
 cases r with
 |error e=>exact j
 |ok fl=>
  cases fl with
  |ret obj=>
   obtain⟨rfl,rfl⟩:=j;have u:whq {s with heap:=(s.heap.push {cls:=.type "list_iterator",data:=.fields #[.ref l,.int 0 0]}).push {cls:=.type "enumerate",data:=.fields #[.none,.bool false,.ref s.heap.objs.size,rawInt 1,.none,.none]}} (.ref (s.heap.objs.size+1)) "enumerate":={_,p,rfl};have G:=a.init.lookup;have H:=a.init.bind (.ref (s.heap.objs.size+1));have N:=h _ p {_,ZQ _ (wa9 _ rfl),rfl,rfl} λb o e=>ZQ _ (ZQ _ e)
   repeat (any_goals (first |assumption |wp_step))
   refine wbG (wck a.init.plain F.entry_object_init (a.init.check _ _ _ _ _ _ _ _ u (AG _ l t) ((Bb (s.heap.objs.size+1) l t) prog w A.in1 (wants (λv i=>v=.none/\i={s with heap:=(s.heap.push {cls:=.type "list_iterator",data:=.fields #[.ref l,.int 0 0]}).push {cls:=.type "enumerate",data:=.fields #[.none,.bool false,.ref s.heap.objs.size,rawInt 1,.none,.none]}}) E) _ ⟨u,rfl,rfl⟩))) λI O d=>?_
   cases I with
   |error e=>exact d
   |ok M1=>
    cases M1 with
    |ret r=>
     obtain⟨rfl,rfl⟩:=d
     repeat (any_goals (first |assumption |wp_step))
    |_=>exact d.elim
  |_=>exact j.elim
theorem Gm{g:List Expr}{k j:Nat}{r:Pos}{l:Expr}{C:TA}{p J kp pos:Pos}(T:Gl X "enumerate")(U:X.mg "enumerate"=none)(ha:PA X [l] C)(hs:starEach [l] X.env=[(false,eval l X.env)]:=by rfl) :
 PI X (.Tuple g k r) (.Call (.Name "enumerate" p) [l] [{some "start",.Constant (.int 1) j J,kp}] pos) (Lf X.K C):=by
 refine{?_};intro c s σ H R I h;refine wb6 (gT I T U jF ?_ ⋯ ⋯);refine xJ (by rw[hs];rfl) rfl ?_
 have w:backTo pos (starEach [l] X.env)=(false,(backTo pos (starEach [l] X.env)).head (by rw[hs];exact λz=>nomatch z) |>.2)::[]:=by
  simp only[hs];rfl
 rw[w];refine evalArgs_kwB rfl ?_;rw[<-w];refine bS (ha pos c s σ H _ I h) λus E ⟨vs,A,G,L,M⟩=>?_;refine wdX (bS (aq (X:=X) (i:=1) c E σ A (λx m=>x=.int 1/\m=A) G ⟨rfl,rfl⟩) λv d ⟨y,m,n,N,O,Q⟩=>wea ?_);subst O Q;obtain⟨t,rfl⟩:=N;obtain⟨a,xs,e,S,q⟩:=M;subst e;obtain⟨u,rfl,V⟩:=vals1 L;cases V;obtain⟨Y,rv,pl,hz⟩:=n.list S;refine Bc pl.isList λZ B hit kp=>wdB B ?_;have I3:Inv X c σ m {d with heap:=Z}:=n.kept (t':=d.toks) kp;have o:a<d.heap.objs.size:=let ⟨_,ho,_⟩:=pl.isList;ZX ho
 refine{d.heap.objs.size+1,[d.heap.objs.size+1,d.heap.objs.size],_,_,m,rfl,I3,AI a _ _ (wc3 (wbx _)) (wa8 o),{{_,B},hit},λb D=>?_,q}
 have f:d.heap.objs.size<=b:=by
  rcases wao.mp D with rfl |D
  .grind
  .grind
 exact n.zT f (n.bc.fresh f)
end
section
variable{prog:wad}{w:World}{A:Around}{E:Value->Shared->Prop}{s:Shared}{l:Addr}{vs:List Value}{Q:Value->Shared->Prop}
theorem IZ(kf:Nat->Int)(hh:A.handled=none)(hl:s.heap.IsList l vs.toArray)(zy:0<vs.length)
 (turn:∀(i:Nat) (v:Value),vs[i]?=some v->∃p items,v=.ref p/\s.heap.IsList p items/\(items.size:Int)=kf i/\(items.size:Int)<2^63)
 (hQ:∀(v:Value) (h':Heap) (AJ:Nat),v∈vs->(∀b o,s.heap.get? b=some o->h'.get? b=some o)->Q v {s with heap:=h',toks:=AJ}) :
 wpAny (model prog w) A (call (.builtin "min") [.ref l] [(wbU "key",.builtin "len")]) Q E s:=by
 have yR:(toString "min"++toString ".loop":String)="min.loop":=⋯;have zz:l<s.heap.objs.size:=let ⟨o,ho,_⟩:=hl;ZX ho
 refine whk PySem.F.kind_min PySem.F.plain_min PySem.F.entry_min (kmk_min_key _ _) ?_;show wpAny _ A.in1 (wc6 "min" ["key","default"] 0 {[],[(wbU "key",.builtin "len")]} >>= _) _ _ s;refine ZN (wgS (show wc6 "min" ["key","default"] 0 {[],[(wbU "key",.builtin "len")]}=pure [some (.builtin "len"),none] from rfl) ?_);refine ZN (waa ?_);refine ZN (wch hl ?_);refine ZN (wpAny_newList ?_ (wal _));rw[yR];have hS:(s.heap.push {cls:=.type "list_iterator",data:=.fields #[.ref l,.int 0 0]}).objs.size=s.heap.objs.size+1:=size_push' ..;have Ny:l≠s.heap.objs.size:=wa8 zz;have Lg:(s.heap.push {cls:=.type "list_iterator",data:=.fields #[.ref l,.int 0 0]}).objs.size≠s.heap.objs.size:=by rw[hS];exact wc3 (wbx _)
 refine waa {wbI wbp _,?_}
 have gI:((s.heap.push {cls:=.type "list_iterator",data:=.fields #[.ref l,.int 0 0]}).push (seqObj "list" #[] 0)).get? s.heap.objs.size=some {cls:=.type "list_iterator",data:=.fields #[.ref l,.int 0 0]}:=
  ZQ _ (wa9 _ rfl)
 have gS:((s.heap.push {cls:=.type "list_iterator",data:=.fields #[.ref l,.int 0 0]}).push (seqObj "list" #[] 0)).get? (s.heap.push {cls:=.type "list_iterator",data:=.fields #[.ref l,.int 0 0]}).objs.size=some (seqObj "list" #[] 0):=wa9 _ rfl;have JL:∀b o,s.heap.get? b=some o->((s.heap.push {cls:=.type "list_iterator",data:=.fields #[.ref l,.int 0 0]}).push (seqObj "list" #[] 0)).get? b=some o:=λb o e=>ZQ _ (ZQ _ e)
 have old:∀{b:Addr} {o:Obj},s.heap.get? b=some o->b≠s.heap.objs.size+1/\b≠s.heap.objs.size:=λ{b o} e=>by
  have hb:b<s.heap.objs.size:=ZX e;exact{wa8 (wdA hb),wa8 hb}
 have W:=weL (prog:=prog) (w:=w) (A:=A.in1) hh s.heap.objs.size l Ny vs.toArray;have hsz:vs.toArray.size=vs.length:=wa3 ..;refine wbg wdH ?_;rw[wb7 wbp _];show wpAny _ A.in1 (wdV (.ref _) >>= _) _ _ _;refine ZN (wcq gS rfl ?_);show wpAny _ A.in1 (tryCatch (pyNext (.ref s.heap.objs.size)) _ >>= _) _ _ _;refine ZN (wbq (W.item 0 _ _ _ (by rw[hsz];exact zy) {{_,gI,rfl,rfl},gk hl JL} λv h' AJ hP IE GI=>?_));have hv:vs[0]?=some v:=by simpa using hP
 have w6:∀b o,s.heap.get? b=some o->h'.get? b=some o:=λb o e=>GI b o (by simpa using(old e).2) (JL b o e);have M3:=GI _ _ (by simpa using Lg) gS;obtain⟨p,items,rfl,hp,Qr,Li⟩:=turn 0 v hv;show wpAny _ A.in1 (tryCatch (holding [ZY p] (call (.builtin "len") [.ref p])) _ >>= _) _ _ _;refine ZN (wbq (wb0 (wed (gk hp w6) Li ?_)));rw[Qr];have s1:=wef h' (s.heap.push {cls:=.type "list_iterator",data:=.fields #[.ref l,.int 0 0]}).objs.size (wci λ_=>#[ZY p,.int (kf 0) (AJ+1)]);obtain⟨c2,Qs⟩:∃c2,(h'.update (s.heap.push {cls:=.type "list_iterator",data:=.fields #[.ref l,.int 0 0]}).objs.size (wci λ_=>#[ZY p,.int (kf 0) (AJ+1)])).get? (s.heap.push {cls:=.type "list_iterator",data:=.fields #[.ref l,.int 0 0]}).objs.size=some (seqObj "list" #[ZY p,.int (kf 0) (AJ+1)] c2):={_,get?_update_seq M3 λ_=>#[ZY p,.int (kf 0) (AJ+1)]};show wpAny _ A.in1 (wgy (s.heap.push {cls:=.type "list_iterator",data:=.fields #[.ref l,.int 0 0]}).objs.size (λ_=>#[ZY p,.int (kf 0) (AJ+1)]) >>= _) _ _ _;refine ZN ?_;refine wcJ M3 rfl ?_;rw[yR];obtain⟨Qt,Lj,Qu⟩:=id IE.1;refine waa {wbI wbp _,xt kf hh hl rfl Lg (by rw[hS];exact wc2 _) turn hQ _ 0 0 _ _ _ _ c2 rfl zy (λb o e=>(s1.2 b (by rw[hS];exact(old e).1)).trans (w6 b o e)) Qs {Qt,(s1.2 _ Lg.symm).trans Lj,Qu} hv}
end
section
variable{X:Cx}{e:Expr}{t:TA}{p p2 kp pos:Pos}
theorem J0(hc:X.calm=true)(J:Gl X "min")(T:X.mg "min"=none)(l:Gl X "len")(C:X.mg "len"=none)(ha:PA X [e] t)(hs:starEach [e] X.env=[(false,eval e X.env)]:=by rfl):PE X (.Call (.Name "min" p) [e] [{some "key",.Name "len" p2,kp}] pos) (Nx X.K t):=by
 refine{?_};intro f s σ H Q I h;refine wb6 (gT I J T (show wav "min"=some (.builtin "min") from Sx.HK) ?_ ⋯ ⋯);refine wf1 (bS (ha pos f s σ H _ I h) λO z ⟨R,A,g,B,D⟩=>?_) (by rw[hs];rfl) (by rw[hs];rfl);refine wdX (gT g l C (show wav "len"=some (.builtin "len") from wdx) (wea ?_) ⋯ ⋯);obtain⟨a,ps,rfl,E,m,n,q⟩:=D;obtain⟨u,rfl,G⟩:=vals1 B;cases G;obtain⟨b,k,pl,w⟩:=g.list E;have hl:b.length=ps.length:=by have:=k.length;rw[ZI]at this;exact this.symm
 have j:∀{ps:List Addr} {b:List Value},Vals (ps.map V.ref) b->b=ps.map ZY:=by
  intro ps
  induction ps with
  |nil=>intro b r;cases r;rfl
  |cons x ps L=>
   intro b r
   cases r with
   |cons h t=>rw[L t];cases h;rfl
 have e:=j k;subst e
 have sz:∀q∈ps,∃b:List Value,z.heap.IsList q b.toArray/\b.length<=sizeLine:=λq c=>by
  obtain⟨S,M⟩:=n q c;obtain⟨b,k,pl,w⟩:=g.list M;exact{b,pl.isList,by rw[<-k.length];exact w}
 have hn:=mM;refine IZ (kf:=λi=>match ps[i]? with |some q=>if c:q∈ps then((wh2 (sz q c)).length:Int) else 0 |none=>0) (g.ok.hd hc) pl.isList (by rw[ZI];cases ps with |nil=>exact absurd rfl m |cons _ _=>exact Nat.succ_pos _) (λi v d=>?_) λv U o d hk=>?_
 .rw[ZM]at d
  cases e:ps[i]? with
  |none=>rw[e]at d;cases d
  |some q=>
   rw[e]at d;cases d;have c:q∈ps:=ZT e;obtain⟨N,Y⟩:=Classical.choose_spec (sz q c);refine{q,_,rfl,N,?_,?_}
   .show _=if c:q∈ps then _ else _
    rw[dif_pos c,wa3]
   .rw[wa3]
    lia
 .obtain⟨y,c,rfl⟩:=ZR.mp d;exact{.ref y,A,g.kept (t':=o) hk,rfl,q y c}
end
end L2
namespace Bs
theorem bQ.same(h:bQ K C H x hs ws lns)(s:a7 H g):bQ K C g x hs ws lns:=by
 obtain⟨d,a,b,c,e,f,i,j⟩:=h;exact{d,a,b,c,s _ _ e,b7.same s _ _ f,b7.same s _ _ i,b7.same s _ _ j}
theorem kz.same(h:kz K C g H x m cp ks hs ws lns)(s:a7 H j):kz K C g j x m cp ks hs ws lns:=by
 obtain⟨e,a,b,c,d,f,i,k,l,n⟩:=h;exact{e,a,b,c,d,s _ _ f,s _ _ i,b7.same s _ _ k,b7.same s _ _ l,n.same s}
theorem j4.same(h:j4 K C g j H x r many n m cp ks hs ws lns b)(s:a7 H t):j4 K C g j t x r many n m cp ks hs ws lns b:=by
 obtain⟨c,p,a,l,d,e,f,i⟩:=h;exact{c,p,a,l,s _ _ d,e.same s,b7.same s _ _ f,b7.same s _ _ i}
theorem xH.same(h:xH K C CB g H x R)(s:a7 H j):xH K C CB g j x R:=by
 obtain⟨⟨b,p,c,a,l,dp,d,e,f,i,k,m,n,o,q,r,t,u⟩,v⟩:=h;exact{{b,p,c,a,l,dp,d,e,f,i,k,s _ _ m,s _ _ n,s.seq o,q,b7.same s _ _ r,s.seq t,u.same s},v}
theorem bu.same(h:bu H j g)(s:a7 H l):bu l j g:={h.1,λi r c a b=>s _ _ (h.2 i r c a b)}
end Bs
namespace K40
section
variable{P:wad}{w:World}{K:ZK}{mg:Str->Option Value}{base:Heap}
local macro_rules|`(tactic|ac_rfl)=>`(tactic|try dsimp only[cZ,d1,b0,b4])
theorem xK(L:Lk K mg):aQ P w K mg base cI 3 L.qA L.qO ["band","place"] (Aw L.aA):=by
 refine L.rg.F.dF (N:=["band","place","ends"]) (λG A outer s H V Q E nd X h=>?_);obtain⟨x,p,g,ws,ss,ls,rfl,B,I,J,k⟩:=h
 refine{_,(a5 (fP (i:=2) rfl (ax ["band","place"] [0,1]) nd rfl rfl (wV (aC (pv 0) rfl)) (λ_ _ _ _ _ _=>bb) (λ_ _ _ _ _ _=>(Dt (pv 1) L.aP.cl L.nr (rq L) (a8 (pv 2) (aF (pv 0))))))
  (a9 (aw (bV rfl (ax [] []) (aM (pv 2)) (λ_ _ _ _ _ _=>fZ (cD wQ (pv 0) iz)) (λ_ _ _ _ _ _=>(pv 0)))))),?_}
 ac_rfl
 obtain⟨⟨M,b,d,q,Y,O,Z,h3,h4,h5,h6⟩,pm,_,_⟩:=id B;refine{_,rfl,x,L.aA,M,_,_,rfl,O,L.aP.cl,L.aP.rX,nc g b d q,g,rfl,λl hl=>?_};refine comp_map (SR ws ss p) (nH g) hl (by rw[Av];exact ay (by lia)) (λ_ _=>trivial) (λz u C R n e=>?_) (λu n a=>?_)
 .obtain⟨c,hc,rfl⟩:=ZR.mp R;have D:=B.same n;obtain⟨⟨o,_,_,_,_,r,_⟩,_⟩:=id D;exact{_,rfl,x,o,_,rfl,r,GD _ _ _ _ ∅ ∅ ∅ ∅,_,rfl,_,rfl,x,p,c,g,ws,ss,ls,rfl,D,I,hc,e u (a7.refl _)}
 .rw[D0]at a;refine{_,rfl,l,rfl,{_,aK.of a},λS f=>?_};refine di zI (λv=>v) (aL K l _) f (by rw[ZI,aJ];exact ay (by lia)) (λH' T=>aK.of (T _ _ a)) (λy j C U t e=>{_,rfl,rfl,_,rfl,e j (a7.refl _)}) (λy j C U _ t e=>{_,rfl,e j (a7.refl _)}) (λj t m=>?_);rw[wdo,yH]at m;exact k S j (n.trans t) (none_of n f) m
theorem zo(L:Lk K mg):aQ P w K mg base cI 4 L.u3 L.uc ["band"] (D6 L.aA):=by
 refine L.uh.F.dF (N:=["band","ends","place"]) (λgn A outer s H vs Q E nd hr h=>?_);obtain⟨x,g,ws,ss,ls,rfl,B,U,B4,k⟩:=h;have hu:=eY hr
 refine{_,(a5 (ai (i:=1) eL)
  (a5 (forA (aM (fI (pv 0) L.aP.cl L.mF (uq L))) (az (i:=2)) (a9 (eQ hu (pv 1) (pv 2) (aj (xK L) L.rg (a8 (pv 0) (aF (pv 2)))) rfl)))
  (a9 (aw (pv 1))))),?_}
 ac_rfl
 refine λn r=>?_;have R:a7 H (upd H n (.dK [])):=a7.upd r;have B0:=B.same R;obtain⟨⟨dx,b,d,q,mv,h1,h2,h3,h4,h5,h6⟩,pm,_,_⟩:=id B0;refine{_,rfl,x,dx,_,rfl,h1,GD _ _ _ _ ∅ ∅ ∅ ∅,x,g,ws,ss,ls,rfl,B0,λlp S G f1 I=>?_};have X:lp≠n:=λz=>by rw[z,a6]at f1;cases f1
 have nd:=B.nd
 refine{lp,rfl,{_,aK.of I},dJ (K:=K) (a:=lp) (xs:=ss.map V.str) (λi σ T=>∃Y l,σ=[some (.ref x),some (.ref n),Y]/\T n=some (.dK (bY l))/\l.map (·.1)=ss.take i/\(∀m∈l,T m.2=some (.lst ((gu g ws ss m.1).map V.str)))/\(∀m∈l,S m.2=none)/\(∀c o,S c=some o->c≠n->T c=some o))
  {none,[],rfl,G _ _ a6,rfl,λm t=>(nomatch t),λm t=>(nomatch t),λc o e _=>e} (λi σ T _ {_,_,_,_,_,_,_,D}=>aK.of (D _ _ I X)) ?_ ?_}
 .rintro i y σ Z hy ⟨Y,l,rfl,u,f,j,v,D⟩;obtain⟨p,NV,rfl,hi,B5,nC⟩:=gi hy;have QO:a7 H Z:=λc o e=>D _ _ (G _ _ (R _ _ e)) (af e r);refine{_,rfl,_,rfl,x,p,g,ws,ss,ls,rfl,B.same QO,B5,U,λe H6 s6 C VP=>?_};have d6:=s6 _ _ u;have J:p∉l.map (·.1):=by rw[f];exact gW nd NV
  have QP:l.length<=900:=by have:=congrArg wcO f;rw[ZI,wa5]at this;lia
  refine{_,rfl,_,rfl,n,_,rfl,kh.k (k:=wac p) d6 (by unfold bY;rw[ZI];exact bO (by lia)),?_};have M:e≠n:=λz=>by rw[z,u]at C;cases C
  have e1:S e=none:=by
   cases q:S e with
   |none=>rfl
   |some o=>
    have:=D _ _ q M;rw[this]at C;cases C
  refine{_,l++[(p,e)],rfl,?_,?_,?_,?_,?_}
  .rw[a6,fi _ (mW J)];unfold bY;rw[wa1];rfl
  .rw[wa1,f,nC];rfl
  .intro m t;rcases waj.mp t with z |z
   .have nm:m.2≠n:=λq=>by
     have:=v m z;rw[q,G _ _ a6]at this;cases this
    rw[ae nm];exact s6 _ _ (j m z)
   .have:m=(p,e):=by simpa using z
    subst this;rw[ae M];exact VP
  .intro m t;rcases waj.mp t with z |z
   .exact v m z
   .have:m=(p,e):=by simpa using z
    subst this;exact e1
  .intro c o hc O;rw[ae O];exact s6 _ _ (D c o hc O)
 .rintro σ Z ⟨Y,l,rfl,u,f,j,v,D⟩;rw[ZI,wam]at f;exact{_,rfl,k n l Z (λc o e=>D _ _ (G _ _ (R _ _ e)) (af e r)) r u f j λm t=>none_of R (none_of G (v m t))}
theorem jY(L:Lk K mg):aQ P w K mg base cI 5 L.kC L.kP ["band","length"] (Ig L.aA):=by
 have T:=L.T;refine L.hF.F.dF (N:=["band","length","ends","counts","place","table","step","longer"]) (λgn A outer s H vs Q E nd hr h=>?_);obtain⟨x,n,g,ws,ss,ls,rfl,B,C4,B4,YY,YZ,k⟩:=h;have hu:=eY hr
 refine{_,(a5 (ai (i:=2) (aj (zo L) L.uh (aF (pv 0))))
  (a5 (ai (i:=3) eL)
  (a5 (forA (rS (pv 2)) (az (i:=4)) (a9 (eQ hu (pv 3) (pv 4) aq rfl)))
  (a5 (ai (i:=5) (cC (aF (pv 3))))
  (a5 (forA (dj rfl T.range (aF (pv 1))) (az (i:=6)) (a5 (ai (i:=7) eL)
  (a5 (forA (rS (pv 2)) (az (i:=4)) (a9 (eQ hu (pv 7) (pv 4) (aI (iQ rfl) (by rfl) T.sum Ai (aF (bV rfl (ax ["counts"] [3]) (aM (cJ hu (pv 2) (pv 4) (λ_ _=>rfl))) (λ_ _ _ _ _ _=>bb) (λ_ _ _ _ _ _=>(cJ hu (pv 1) (pv 0) (λ_ _=>rfl)))))) rfl)))
  (a5 (bL (i9 wap waA waH cN (pv 5) (aF (pv 7))))
  (a9 (ai (i:=3) (pv 7)))))))
  (a9 (aw (pv 5)))))))),?_}
 ac_rfl
 have nd:=B.nd;have he:("":Str)∈ss:=B.pm.mem_iff.mpr (cb ws);refine{_,rfl,x,g,ws,ss,ls,rfl,B,C4,B4,λd q H1 s1 QQ h1 ek er ef=>?_};refine λl v=>?_;have Y:d≠l:=af h1 v;have G:((bY q).map λkv=>kV kv.1)=ss.map V.str:=by rw[fK,ek]
 have VQ:∀m∈q,m.2≠d:=λm r z=>by have:=er m r;rw[z,h1]at this;cases this
 refine{_,rfl,d,_,rfl,.inl {(a7.upd v) _ _ h1,λo=>?_}};have J:=gN d o (bY q);rw[G]at J;have R:(upd (upd H1 l (.dK [])) d (.frz o (.dK (bY q)))) l=some (.dK []):=by rw[ae (wb4 Y),a6]
 have S:(upd (upd H1 l (.dK [])) d (.frz o (.dK (bY q)))) d=some (.frz o (.dK (bY q))):=a6
 have sz:a7 H (upd (upd H1 l (.dK [])) d (.frz o (.dK (bY q)))):=λc u e=>by
  rw[ae (af e QQ)];exact a7.upd v _ _ (s1 _ _ e)
 have U:∀m∈q,(upd (upd H1 l (.dK [])) d (.frz o (.dK (bY q)))) m.2=some (.lst ((gu g ws ss m.1).map V.str)):=λm r=>by
  rw[ae (VQ m r)];exact a7.upd v _ _ (er m r)
 have f0:H l=none:=none_of s1 v;generalize upd (upd H1 l (.dK [])) d (.frz o (.dK (bY q)))=Hz at R S sz U;have QR:∀m∈q,m.2≠l:=λm r z=>by have:=U m r;rw[z,R]at this;cases this
 refine kj J (λi σ Z=>∃v4,σ=[some (.ref x),some (.int n),some (.ref d),some (.ref l),v4,none,none,none]/\Z l=some (.dK (pj (λp=>.int (gG g ws ss 0 p)) (ss.take i)))/\∀c u,Hz c=some u->c≠l->Z c=some u) {none,rfl,R,λc u e _=>e} (λi σ Z _ {_,_,_,b}=>b _ _ S Y) ?_ ?_
 .rintro i y σ Z hy ⟨v4,rfl,h3,b⟩;obtain⟨p,NV,rfl,hi,B5,nC⟩:=gi hy;refine{_,rfl,_,rfl,l,_,rfl,kh.k (k:=wac p) h3 (by rw[y3,wa5];exact bO (by lia)),?_};refine{_,rfl,?_,λc u e hc=>by rw[ae hc];exact b c u e hc};rw[a6,fi _ (vG _ (gW nd NV)),nC,vx];rfl
 rintro σ Z ⟨v4,rfl,h3,b⟩;rw[ZI,wam]at h3;have s3:a7 H Z:=λc u e=>b _ _ (sz _ _ e) (af e f0);have QS:=b _ _ S Y;have OS:∀m∈q,Z m.2=some (.lst ((gu g ws ss m.1).map V.str)):=λm r=>b _ _ (U m r) (QR m r);clear b R S sz U J v h1 er;refine{_,rfl,by show 1<=sizeLine;decide,λlt C=>?_};have flt:H lt=none:=none_of s3 C
 refine{_,rfl,n,rfl,by lia,by lia,dh (lo:=0) (n:=n.toNat) (Vj g ws ss q o x d lt n H)
  {[l],l,_,none,none,rfl,rfl,rfl,a6,?_,a7.upd C _ _ QS,λm r=>a7.upd C _ _ (OS m r),s3.trans (a7.upd C)} ?_ ?_}
 .intro j t O
  cases j with
  |zero=>
   obtain rfl:l=t:=ZU O;exact a7.upd C _ _ h3
  |succ j=>simp at O
 .rintro i σ H4 hi ⟨ts,dc,v4,v6,v7,rfl,I,T4,QT,X,D,JM,s4⟩;refine λdl Ge=>?_;have sd:a7 H4 (upd H4 dl (.dK [])):=a7.upd Ge;have VR:=X i dc T4;have J:=gN d o (bY q);rw[G]at J;have Z0:d≠dl:=af D Ge;refine{_,rfl,d,_,rfl,.inr {o,sd _ _ D,?_}};refine kj J (λj σ H5=>∃v4,σ=[some (.ref x),some (.int n),some (.ref d),some (.ref dc),v4,some (.ref lt),some (.int (0+(i:Int))),some (.ref dl)]/\H5 dl=some (.dK (pj (λp=>.int (gG g ws ss (i+1) p)) (ss.take j)))/\∀c u,H4 c=some u->H5 c=some u) {_,rfl,a6,λc u e=>sd _ _ e} (λj σ H5 _ {_,_,_,b}=>b _ _ D) ?_ ?_
  .rintro j y σ H5 hy ⟨v4,rfl,h5,b⟩;obtain⟨p,M7,rfl,hj,B5,nC⟩:=gi hy;obtain⟨a,ha,hv⟩:=gJ (mv:=q) (k:=p) (by rw[ek];exact B5);have e1:=eK.f (k:=(wac p:Key)) (b _ _ D);rw[hv]at e1;have T5:=b _ _ (JM _ ha);have QU:=b _ _ VR;have el:=As g ws ss p;refine{_,rfl,_,rfl,d,_,rfl,e1,a,rfl,{_,aK.of T5},λlm VS=>?_};refine comp_map (Hf (gG g ws ss i)) (aL K a ((gu g ws ss p).map V.str)) VS (by rw[ZI];exact ay (by lia)) (λH' s'=>aK.of (s' _ _ T5)) (λz H6 Q' hz s6 qq=>?_) (λH6 s6 h6=>?_)
   .obtain⟨t,O,rfl⟩:=ZR.mp hz;have e2:=eK.k (k:=(wac t:Key)) (s6 _ _ QU);rw[sx _ (AW he O)]at e2;exact{_,rfl,_,rfl,dc,_,rfl,e2,qq H6 (a7.refl _)}
   .rw[pq]at h6;refine{lm,_,rfl,aK.of h6,?_};have VU:=s6 _ _ h5;refine{_,rfl,_,rfl,dl,_,rfl,kh.k (k:=wac p) VU (by rw[y3,wa5];exact bO (by lia)),?_};refine{_,rfl,?_,λc u e=>by rw[ae (af e Ge)];exact s6 _ _ (b c u e)};rw[a6,fi _ (vG _ (gW nd M7)),nC,vx];rfl
  rintro σ H5 ⟨Z1,rfl,h5,b⟩;rw[ZI,wam]at h5;have M:=b _ _ QT;refine{_,rfl,.inl {rfl,_,aK.of M},_,rfl,lt,_,_,rfl,rfl,M,by rw[ZI];exact waI (m:=200000) (by lia) (by rw[wbF];decide),?_};have VW:∀t,H5 t=some (.dK (KW g ws ss (i+1)))->t≠lt:=λt e z=>by rw[z,M]at e;cases e
  refine{_,rfl,ts++[dl],dl,_,_,_,rfl,by rw[ZP,I];rfl,by rw[waf (by lia),I,wbn];rfl,by rw[a6,wa1];rfl,?_,?_,?_,?_}
  .intro j t O
   by_cases hj:j<ts.length
   .rw[wai hj]at O;have e:=b _ _ (X j t O);rw[ae (λz=>by rw[z,M]at e;cases e)];exact e
   .have VX:j=i+1:=by
     have:=(ZO.mp O).1;rw[ZP,wc8]at this
     lia
    subst VX;rw[waf (by lia),I,wbn]at O;obtain rfl:dl=t:=ZU O;rw[ae (VW _ h5)];exact h5
  .have e:=b _ _ D;rw[ae (λz=>by rw[z,M]at e;cases e)];exact e
  .intro m r;have e:=b _ _ (JM m r)
   by_cases z:m.2=lt
   .exfalso;have f:=OS m r;rw[z,C]at f;cases f
   .rw[ae z];exact e
  .exact λc u e=>by rw[ae (af e flt)];exact b _ _ (s4 _ _ e)
 .rintro σ H4 ⟨ts,dc,v4,v6,v7,rfl,I,T4,QT,X,D,JM,s4⟩;exact{_,rfl,k lt ts H4 s4 flt QT I X}
theorem uY(L:Lk K mg):aQ P w K mg base cI 6 L.om L.oG ["band","place","length"] (FE L.aA):=by
 refine L.oW.F.dF (N:=["band","place","length"]) (λv A outer s H S Q E nd y h=>?_);obtain⟨x,p,n,g,ws,ss,ls,rfl,B,r,e,f,i,j,k⟩:=h;have C:=eY y
 refine{_,(a5 (bL (Dt (pv 0) L.aP.cl L.eW (gB L) (aF (pv 1))))
  (a9 (aw (cJ C (b5 b9 (aj (jY L) L.hF (a8 (pv 0) (aF (pv 2)))) (Jq ED aq) (λ_ _=>rfl)) (pv 1) (λ_ _=>rfl))))),?_}
 ac_rfl
 obtain⟨⟨D,b,d,q,T,G,U,X,Y,Z,h6⟩,_,_,_⟩:=id B;refine{_,rfl,x,D,_,rfl,G,GD _ _ _ _ ∅ ∅ ∅ ∅,_,rfl,x,p,g,ws,ss,ls,rfl,B,r,?_};refine{_,rfl,_,rfl,x,n,g,ws,ss,ls,rfl,B,e,f,i,j,λl m I J f1 hl a M=>?_};obtain⟨c,t,rfl⟩:∃l t,m=l++[t]:={m.dropLast,m.getLast (by intro z;rw[z]at a;simp at a),(wcQ _).symm};have O:uG ((c++[t]).map V.ref) (-1)=some (.ref t):=by rw[wa1];exact Ea _ _
 have o:c.length=n.toNat:=by rw[ZP,wc8]at a;lia
 have R:=M n.toNat t (by rw[waf (by lia),o,wbn];rfl);have u:=eK.k (k:=(wac p:Key)) R;rw[sx _ r]at u;exact{_,rfl,l,_,-1,_,rfl,rfl,aK.of hl,O,_,rfl,t,_,rfl,u,k I J}
theorem Gn(L:Lk K mg):aQ P w K mg base cI 7 L.BP L.BR ["band","length"] (Ih L.aA):=by
 refine L.BV.F.dF (N:=["band","length"]) (λe A outer s H i Q E nd j h=>?_);obtain⟨x,n,g,ws,ss,ls,rfl,B,a,b,c,d,k⟩:=h;refine{_,(a9 (aw (aj (uY L) L.oW (a8 (pv 0) (a8 eE (aF (pv 1))))))),?_}
 ac_rfl
 have f:("":Str)∈ss:=B.pm.mem_iff.mpr (cb ws);exact{_,rfl,_,rfl,x,"",n,g,ws,ss,ls,rfl,B,f,a,b,c,d,k}
theorem DK(L:Lk K mg):aQ P w K mg base cI 6 L.z5 L.z8 ["band","many","wide","most"] (D9 L.aA):=by
 have T:=L.T;refine L.zb.F.dF (N:=["band","many","wide","most","table","rows_of_data","length"]) (λgn A outer s H vs Q E nd hr h=>?_);obtain⟨x,many,wide,most,g,ws,ss,ls,rfl,B,p,C,q,T6,VY,Y⟩:=h;have Z:∀k:Nat,1<=k->(k:Int)<=most->gG g ws ss (k*wide.toNat) "" < many^k->(∀j:Nat,1<=j->j<k->¬gG g ws ss (j*wide.toNat) "" < many^j)->∀f,a7 H f->Q (.int (k:Nat)) f:=λk a b c d f D=>Y _ f D (.some k a b c d);have k2:(∀j:Nat,1<=j->(j:Int)<=most->¬gG g ws ss (j*wide.toNat) "" < many^j)->∀f,a7 H f->Q .non f:=λa f D=>Y _ f D (.none a);have hu:=eY hr
 refine{_,(a5 (bL (aj (eO L) L.et (a8 (pv 0) (a8 (pv 1) (aF (pv 2))))))
  (a5 (ai (i:=4) (aj (jY L) L.hF (a8 (pv 0) (aF (aS gV (pv 3) (pv 2))))))
  (a5 (ai (i:=5) aq)
  (a5 (forA (pB rfl T.range (a8 aq (aF (aS gq (pv 3) aq)))) (az (i:=6)) (a5 (sL (i:=5) nd rfl (wdg rfl) (pv 1) EG)
  (a9 (bp (cD iO (cJ hu (b5 b9 (pv 4) (aS gV (pv 6) (pv 2)) (λ_ _=>rfl)) eE (λ_ _=>rfl)) (pv 5)) (a9 (aw (pv 6))) aH))))
  (a9 (aw iz)))))),?_}
 ac_rfl
 have he:("":Str)∈ss:=B.pm.mem_iff.mpr (cb ws);obtain⟨ha,hb,hc,hd,_⟩:=id q;obtain⟨e,r⟩:∃w:Nat,wide=(w:Int):={wide.toNat,by lia};obtain⟨t,G⟩:∃w:Nat,most=(w:Int):={most.toNat,by lia};have m:most*wide=((t*e:Nat):Int):=by rw[r,G,wcc]
 have Z2:t*e<=600:=by
  have o:t<=100:=by lia
  have h2:e<=6:=by lia
  exact wa0 (wfM o h2) ⋯
 have ew:wide.toNat=e:=by lia
 rw[ew]at Z k2;refine{_,rfl,_,rfl,_,rfl,x,many,wide,g,ws,ss,ls,rfl,B,p,q,?_};refine{_,rfl,_,rfl,_,rfl,_,_,rfl,rfl,.inl {by lia,by lia},x,most*wide,g,ws,ss,ls,rfl,B,p,C,by rw[m];lia,by rw[m];lia,λl I J s1 f1 hl M ht=>?_};rw[m,wae]at M;refine{_,rfl,_,_,rfl,rfl,1,most+1,rfl,{by lia,by lia,by lia,by lia},dh (lo:=1) (n:=(most+1-1).toNat) (λi σ O=>O=J/\(∃v6,σ=[some (.ref x),some (.int many),some (.int wide),some (.int most),some (.ref l),some (.int (many^i)),v6])/\∀j:Nat,1<=j->j<=i->¬gG g ws ss (j*e) "" < many^j) {rfl,{none,by rw[Int.pow_zero];rfl},λj o h2=>by lia} ?_ ?_}
 .rintro i σ O hi ⟨R,⟨v6,rfl⟩,lo⟩;rw[R];have S:i+1<=t:=by lia
  have T7:(i+1)*e<=t*e:=we7 _ S;have u:(i+1)*e<I.length:=by lia
  have e1:(I.map V.ref)[(i+1)*e]?=some (.ref I[(i+1)*e]):=by rw[ZM,ZJ u];rfl
  have v:=bq e1;have ei:((((i+1)*e:Nat)):Int)=(1+(i:Int))*wide:=by rw[r,wcc,wda,Int.add_comm];rfl
  rw[ei]at v;have U:=ht _ _ (ZJ u);have e3:=eK.k (k:=(wac "":Key)) U;rw[sx _ he]at e3;refine{_,rfl,_,rfl,_,_,rfl,rfl,.inr {by lia,by lia},?_};refine{_,rfl,_,rfl,_,rfl,_,_,rfl,rfl,.inr {by lia,by lia},l,_,_,_,rfl,rfl,aK.of hl,v,_,_,rfl,e3,_,rfl,_,_,rfl,rfl,_,rfl,?_};refine zF (λo=>?_) (λo=>{rfl,{_,by rw[wf0];rfl},λj y q2=>?_})
  .have X:=of_decide_eq_true o;have:=Z (i+1) (by lia) (by lia) (by rw[wf0];exact X) (λj y q2=>lo j y (by lia)) J s1;rw[show (((i+1:Nat):Nat):Int)=1+(i:Int) by lia]at this;exact{_,rfl,this}
  .by_cases hj:j<=i
   .exact lo j y hj
   .obtain rfl:j=i+1:=by lia
    rw[wf0];exact λz=>o (decide_eq_true z)
 .rintro σ O ⟨R,⟨v6,rfl⟩,lo⟩;rw[R];exact k2 (λj y q2=>lo j y (by lia)) J s1
theorem rJ(L:Lk K mg):aQ P w K mg base cI 1 L.kD L.kQ ["line"] (FH K):=by
 refine L.lA.F.dF (N:=["line"]) (λo A outer s H D Q E nd c h=>?_);obtain⟨v,p,rfl,t,hn,k⟩:=h;refine{_,(a9 (aw (fv rfl (ax [] []) (ax [] []) ⋯ (aM (pv 0)) (λ_ _ _ _ _ _=>bb) (λ_ _ _ _ _ _=>(cM (a8 (pv 0) (aF (pv 1)))))))),?_}
 ac_rfl
 obtain⟨a,u,rfl,j,b,x⟩:=js t;have d:=b;rw[ZI]at d;refine{_,rfl,a,rfl,{_,j},λl hl=>?_};refine lS (prs:=p.map eA) (λ_=>true) (λq=>.tup [.at q.1,.at q.2]) (aL K a u) b (λi q e=>let ⟨r,y,B⟩:=x i q e;{r,y,fJ.of B}) hl (ay (by lia)) (λm f=>f.seq j) (λq n C _ _ g=>g n (a7.refl _)) (λq n C e _ G g=>?_) (λm f r=>?_)
 .obtain⟨z,I,rfl⟩:=ZR.mp e;exact{_,rfl,_,rfl,by show 2<=sizeLine;decide,λr c=>g _ _ (a7.upd c) (ky c z)}
 .rw[waD.mpr (λ_ _=>rfl),ZV]at r;exact k _ m f r
theorem fG(L:Lk K mg):aQ P w K mg base cI 2 L.fU L.iY ["self","homes","weights","lines"] (FI K L.av):=by
 have T:=L.T;refine L.ez.F.dF (N:=["self","homes","weights","lines"]) (λgn A outer s H vs Q E nd hr h=>?_);obtain⟨x,j,u,v,w,hs,ws,lns,rfl,D,U,X,Y,n1,n2,n3,n4,k⟩:=h
 refine{_,(a5 (cX (pv 0) (bg ck (by rfl) T.list gA (aF (pv 1))) rfl)
  (a5 (cX (pv 0) (bg ck (by rfl) T.list gA (aF (pv 2))) rfl)
  (a9 (cX (pv 0) (bV rfl (ax [] []) (aM (pv 3)) (λ_ _ _ _ _ _=>bb) (λ_ _ _ _ _ _=>(aj (rJ L) L.lA (aF (pv 0))))) rfl)))),?_}
 ac_rfl
 obtain⟨a,rfl,ha⟩:=Fv U;obtain⟨b,rfl,hb⟩:=eN X;obtain⟨c,xs,rfl,hc,G⟩:=Y;have xl:xs.length=lns.length:=by rw[G.len,ZI]
 have l:∀{d:Addr} {ys:List V} {Z:Hp},aK K H d ys->(∀b o,H b=some o->b≠x->Z b=some o)->aK K Z d ys:=λhS kp=>(g8 kp).seq (wL D hS);refine{_,rfl,a,_,rfl,.inl ha,λf t=>?_};have m:x≠f:=af D t;refine{_,rfl,x,L.av,j,[],rfl,by rw[ae m];exact D,L.ao.cl,L.ao.dH,(show 0<1000 by decide),?_};rw[Jv];have R:∀d o,H d=some o->d≠x->(upd (upd H f (.lst (hs.map V.str))) x (.ins L.av j (qg f))) d=some o:=λd o e hd=>by rw[ae hd];exact a7.upd t _ _ e
 have x1:(upd (upd H f (.lst (hs.map V.str))) x (.ins L.av j (qg f))) x=some (.ins L.av j (qg f)):=a6;have a1:(upd (upd H f (.lst (hs.map V.str))) x (.ins L.av j (qg f))) f=some (.lst (hs.map V.str)):=by rw[ae m.symm,a6]
 generalize upd (upd H f (.lst (hs.map V.str))) x (.ins L.av j (qg f))=I at R x1 a1 ⊢;refine{_,rfl,b,_,rfl,.inl (l hb R),λg n=>?_};have p:x≠g:=af x1 n;have VZ:f≠g:=af a1 n
 have QV:H g=none:=by
  cases q:H g with
  |none=>rfl
  |some o=>have:=R _ _ q p.symm;rw[n]at this;cases this
 refine{_,rfl,x,L.av,j,qg f,rfl,by rw[ae p];exact x1,L.ao.cl,L.ao.bK,(show 1<1000 by decide),?_};rw[EZ];have B:∀d o,H d=some o->d≠x->(upd (upd I g (.lst (ws.map V.int))) x (.ins L.av j (nX f g))) d=some o:=λd o e hd=>by rw[ae hd];exact a7.upd n _ _ (R _ _ e hd)
 have S:(upd (upd I g (.lst (ws.map V.int))) x (.ins L.av j (nX f g))) x=some (.ins L.av j (nX f g)):=a6;have a2:(upd (upd I g (.lst (ws.map V.int))) x (.ins L.av j (nX f g))) f=some (.lst (hs.map V.str)):=by rw[ae m.symm,ae VZ];exact a1
 have b2:(upd (upd I g (.lst (ws.map V.int))) x (.ins L.av j (nX f g))) g=some (.lst (ws.map V.int)):=by rw[ae p.symm,a6]
 generalize upd (upd I g (.lst (ws.map V.int))) x (.ins L.av j (nX f g))=H2 at B S a2 b2 ⊢;have J:=aO.same (g8 B) _ _ (aO.off D _ _ G);refine{_,rfl,c,rfl,{_,l (.inl hc) B},λc' M=>?_};refine uw (K:=K) (lns.map bG) (aL K c xs) M (ay (by lia)) (by rw[ZI,xl]) (λZ s'=>s'.seq (l (.inl hc) B)) (λi y d O Q' hy hd C qq=>?_) (λO C r3=>?_)
 .obtain⟨d',e',r⟩:=J.get i y hy;rw[hd]at e';cases e';rw[ZM]at hd
  cases e:lns[i]? with
  |none=>rw[e]at hd;cases hd
  |some qs=>
   rw[e]at hd;cases hd;exact{_,rfl,y,qs,rfl,b7.same C _ _ r,n4 qs (ZT e),λz H4 s4 r4=>qq z H4 s4 r4}
 .have Z3:x≠c':=af S M;refine{_,rfl,x,L.av,j,nX f g,rfl,C _ _ S,L.ao.cl,L.ao.cf,(show 2<1000 by decide),?_};rw[BC];have up:a7 (aG H O) (aG H (upd O x (.ins L.av j (A4 f g c')))):=bN D λd o e hd=>by rw[ae hd];exact e
  have old:a7 (aG H2 O) (aG H O):=λd o e=>by
   unfold aG at e ⊢
   cases q:H d with
   |none=>
    cases q2:H2 d with
    |none=>rw[q2]at e;exact e
    |some z=>rw[q2]at e;cases e
   |some z=>
    by_cases hd:d=x
    .rw[hd,S]at e;cases e
    .rw[B _ _ q hd]at e;cases e
  refine k f g c' _ a6 ?_ ?_ (b7.same (old.trans up) _ _ r3) λd o e hd=>by rw[ae hd];exact C _ _ (B _ _ e hd)
  .exact og ((bR t (by rw[ae m.symm];exact C _ _ a2)))
  .exact iU ((bR QV (by rw[ae p.symm];exact C _ _ b2)))
theorem uZ(L:Lk K mg):aQ P w K mg base cI 1 L.ot L.oJ ["line","desk","twin"] (Il K):=by
 refine L.oX.F.dF (N:=["line","desk","twin","steps","word","end"]) (λgn A outer s H vs Q E nd u h=>?_);obtain⟨v,d,t,p,rfl,hL,JH,k⟩:=h
 refine{_,(a5 (ai (i:=3) (cC fM))
  (a5 (forA (aM (pv 0)) (fj rfl (aU (az (i:=4)) (aU (az (i:=5)) dG))) (a5 (bL (i9 wap waA waH cN (pv 3) (aF (cM (a8 (pv 4) (aF (pv 5)))))))
  (a9 (bp (cD nM (pv 5) (pv 1)) (a9 (bL (i9 wap waA waH cN (pv 3) (aF (cM (a8 (pv 4) (aF (pv 2)))))))) aH))))
  (a9 (aw (pv 3))))),?_}
 ac_rfl
 obtain⟨a,S,rfl,hS,hT⟩:=dA hL;have C5:S.length=p.length:=by rw[hT.1,ZI,ZI]
 refine{wal _,λb M=>?_};have sb:a7 H (upd H b (.lst [])):=a7.upd M;have x:(upd H b (.lst [])) b=some (.lst []):=a6;generalize upd H b (.lst [])=B at sb x;have keep:∀{g:Hp},(∀c o,B c=some o->c≠b->g c=some o)->a7 H g:=λC c o e=>C _ _ (sb _ _ e) (af e M)
 refine{_,rfl,a,rfl,{_,sb.seq hS},dJ (K:=K) (a:=a) (xs:=S.map V.ref) (λj σ g=>∃(v4 v5:Option V) (as:List V),σ=[some (.ref a),some (.int (d:Int)),some (.int (t:Int)),some (.ref b),v4,v5]/\g b=some (.lst as)/\(∀c o,B c=some o->c≠b->g c=some o)/\aO K (aG B g) ((eB d t (p.take j)).map gj) as)
  {none,none,[],rfl,x,λc o e _=>e,rfl} (λj σ g _ {_,_,_,_,_,C,_}=>(keep C).seq hS) ?_ ?_}
 .rintro j y σ g hy ⟨v4,v5,as,rfl,l,C,T⟩;have hj:j<S.length:=by have:=(ZO.mp hy).1;rwa[ZI]at this
  have U:j<p.length:=by lia
  rw[ZM,ZJ hj]at hy;cases hy;have X:H S[j]=some (.tup [.str p[j].1,.int (p[j].2:Int)]):=hT.2 j S[j] (jG (eA p[j])) (ZJ hj) (by rw[ZM,ZM,ZJ U];rfl);have nC:p.take (j+1)=p.take j++[p[j]]:=by rw[waw,ZJ U];rfl
  have T8:as.length<=2*j:=by
   rw[T.len,ZI];exact wa0 (pH d t _) (wd6 2 (by rw[wa5];lia))
  generalize p[j]=q at X nC;refine{S[j],_,rfl,fJ.of (keep C _ _ X),rfl,_,_,rfl,_,_,rfl,rfl,?_};refine{_,rfl,.inl {rfl,_,aK.of l},_,rfl,_,rfl,by show 2<=sizeLine;decide,λr u=>?_};have I:∀n:Nat,n<=20000->n<sizeLine:=λn hn=>waI hn (by rw[wbF];decide);have OT:=a7.upd (o:=.tup [.str q.1,.int (q.2:Int)]) u _ _ l;refine{b,_,_,rfl,rfl,OT,I _ (by lia),?_};have Y:∀c o,(upd g r (.tup [.str q.1,.int (q.2:Int)])) c=some o->c≠b->(upd (upd g r (.tup [.str q.1,.int (q.2:Int)])) b (.lst (as++[.ref r]))) c=some o:=λc o e hc=>by rw[ae hc];exact e
  have D:∀c o,B c=some o->c≠b->(upd (upd g r (.tup [.str q.1,.int (q.2:Int)])) b (.lst (as++[.ref r]))) c=some o:=λc o e hc=>Y _ _ (a7.upd u _ _ (C c o e hc)) hc
  have r0:B r=none:=by
   cases z:B r with
   |none=>rfl
   |some o=>
    by_cases hc:r=b
    .rw[hc,l]at u;cases u
    .rw[C _ _ z hc]at u;cases u
  have O:aO K (aG B (upd (upd g r (.tup [.str q.1,.int (q.2:Int)])) b (.lst (as++[.ref r])))) ((eB d t (p.take j)).map gj++[gj q]) (as++[.ref r]):=by
   refine gM (aO.same ((gR (a7.upd u)).trans (bN x Y)) _ _ T) ?_;have R:r≠b:=λz=>by rw[z,l]at u;cases u
   exact{r,_,rfl,bR r0 (by rw[ae R,a6]),.str q.1,[.int (q.2:Int)],rfl,⟨rfl,rfl⟩,.int (q.2:Int),[],rfl,⟨rfl,rfl⟩,rfl}
  have m:(upd (upd g r (.tup [.str q.1,.int (q.2:Int)])) b (.lst (as++[.ref r]))) b=some (.lst (as++[.ref r])):=a6;generalize upd (upd g r (.tup [.str q.1,.int (q.2:Int)])) b (.lst (as++[.ref r]))=H4 at D O m
  by_cases G:q.2=d
  .refine{_,rfl,_,rfl,rfl,true,congrArg V.bl (decide_eq_true (by rw[G])),eJ ?_};refine{_,rfl,.inl {rfl,_,aK.of m},_,rfl,_,rfl,by show 2<=sizeLine;decide,λJ f=>?_};have JM:=a7.upd (o:=.tup [.str q.1,.int (t:Int)]) f _ _ m;refine{b,_,_,rfl,rfl,JM,I _ (by rw[ZP,wc8];lia),?_};have Z:∀c o,(upd H4 J (.tup [.str q.1,.int (t:Int)])) c=some o->c≠b->(upd (upd H4 J (.tup [.str q.1,.int (t:Int)])) b (.lst (as++[.ref r]++[.ref J]))) c=some o:=λc o e hc=>by rw[ae hc];exact e
   have W2:B J=none:=by
    cases z:B J with
    |none=>rfl
    |some o=>
     by_cases hc:J=b
     .rw[hc,m]at f;cases f
     .rw[D _ _ z hc]at f;cases f
   refine{_,_,_,rfl,a6,λc o e hc=>Z _ _ (a7.upd f _ _ (D c o e hc)) hc,?_};rw[nC,t6,if_pos G,wa1];have em:([q,(q.1,t)]:List (Str×Nat)).map gj=[gj q]++[gj (q.1,t)]:=rfl;rw[em,<-waX];refine gM (aO.same ((gR (a7.upd f)).trans (bN x Z)) _ _ O) ?_;have R:J≠b:=λz=>by rw[z,m]at f;cases f
   exact{J,_,rfl,bR W2 (by rw[ae R,a6]),.str q.1,[.int (t:Int)],rfl,⟨rfl,rfl⟩,.int (t:Int),[],rfl,⟨rfl,rfl⟩,rfl}
  .refine{_,rfl,_,rfl,rfl,false,congrArg V.bl (decide_eq_false λz=>G (by have:=V.int.inj z;lia)),bo ?_};refine{_,_,_,rfl,m,D,?_};rw[nC,t6,if_neg G,wa1];exact O
 .rintro σ g ⟨v4,v5,as,rfl,l,C,T⟩;rw[ZI,C5,wam]at T;exact{_,rfl,k _ _ (keep C) {b,as,rfl,.inl (bR M l),aO.same (ee sb) _ _ T}}
theorem mG(L:Lk K mg):aQ P w K mg base cI 1 L.ow L.oM ["line","desks"] (L5 K):=by
 refine L.jz.F.dF (N:=["line","desks"]) (λy A outer s H R Q E nd g h=>?_);obtain⟨v,b,f,j,rfl,B,C,hn,k⟩:=h;refine{_,(a9 (aw (fv rfl (ax ["desks"] [1]) (ax ["desks"] [1]) ⋯ (aM (pv 0)) (λ_ _ _ _ _ _=>fZ (fX (gU (K:=K) rfl) (pv 1) (pv 2) rfl)) (λ_ _ _ _ _ _=>(cM (a8 (pv 0) (aF (pv 1)))))))),?_}
 ac_rfl
 obtain⟨a,D,rfl,p,c,G⟩:=js B;have m:=c;rw[ZI]at m;refine{_,rfl,a,rfl,{_,p},λl hl=>?_}
 refine lS (prs:=j.map eA) (λq=>nK q.2 ((nI f).map V.int)) (λq=>.tup [.at q.1,.at q.2]) (aL K a D) c (λi q d=>let ⟨r,I,J⟩:=G i q d;{r,I,fJ.of J}) hl (ay (by lia)) (λt n=>n.seq p) (λq u M d x o=>by
  obtain⟨z,O,rfl⟩:=ZR.mp d
  exact{_,rfl,_,rfl,b,_,rfl,.inl (x.seq C),rfl,iJ _,_,rfl,o u (a7.refl _)}) (λq u M d _ x o=>?_) (λt n r=>?_)
 .obtain⟨z,O,rfl⟩:=ZR.mp d;exact{_,rfl,_,rfl,by show 2<=sizeLine;decide,λr g=>o _ _ (a7.upd g) (ky g z)}
 .have e:((j.map eA).filter λq=>nK q.2 ((nI f).map V.int))=(cu f j).map eA:=by
   unfold cu;rw[we9];refine congrArg _ (weH λq _=>?_);exact F5 q.2 f
  rw[e,ZV]at r;exact k _ t n r
theorem mH(L:Lk K mg):aQ P w K mg base cI 2 L.jv L.oN ["sheet","many"] (Lv K L.av):=by
 have T:=L.T;refine L.jA.F.dF (N:=["sheet","many","kept","left"]) (λC A outer s H vs Q E nd hr h=>?_);obtain⟨x,many,hs,ws,lns,rfl,S,hn,hm,k⟩:=h;have D:(A.deeper (wd7 "kept_desks" (aD (top 52)) s.heap.objs.size L.jv C)).units<wbf:=hr.wO
 refine{_,(a5 (ai (i:=2) (bg (zX rfl) (by rfl) T.list gA (aF (bg yk (by rfl) T.range HL (aF (AY T.len (aC (pv 0) rfl)))))))
  (a9 (iN wcH (bB da) (a5 (fP (i:=3) rfl (ax ["sheet","kept","many"] [0,2,1]) nd rfl rfl (aM (pv 2)) (λ_ _ _ _ _ _=>fZ (cD Et (aI (uM (K:=K) rfl) (by rfl) T.len wdx (aF (aj (mG L) L.jz (a8 (b5 (gf (K:=K) rfl) (lL (K:=K) rfl (pv 1) rfl) (pv 0) (λ_ _=>rfl)) (aF (pv 2)))))) (pv 3))) (λ_ _ _ _ _ _=>(pv 0)))
  (a5 (bp (cD (zR D) (pv 3) (pv 2)) (a9 (aw (pv 2))) aH)
  (a9 (ai (i:=2) (pv 3)))))))),?_}
 ac_rfl
 obtain⟨dx,ah,bw,cl,hx,rh,DW,rl⟩:=id S;obtain⟨M6,G,ec,hc,g⟩:=id rl;cases ec;have xl:G.length=lns.length:=by rw[g.len,ZI]
 refine{_,rfl,x,L.av,dx,_,_,rfl,hx,L.ao.cl,L.ao.cf,bj ah bw cl,cl,G,rfl,.inl (.inl hc),?_};rw[xl];refine{_,rfl,λp hp=>?_};refine{p,lns.length,rfl,a6,ay (by lia),λl hl=>?_};have s1:a7 H (upd H p (.rng 0 (lns.length:Int))):=a7.upd hp;have fl:H l=none:=none_of s1 hl;have s2:=s1.trans (a7.upd (o:=.lst ((wak lns.length).map λi=>V.int (i:Nat))) hl);have h2:(upd (upd H p (.rng 0 (lns.length:Int))) l (.lst ((wak lns.length).map λi=>V.int (i:Nat)))) l=some (.lst ((nI (wak lns.length)).map V.int)):=by rw[a6,yx]
 generalize upd (upd H p (.rng 0 (lns.length:Int))) l (.lst ((wak lns.length).map λi=>V.int (i:Nat)))=H2 at s2 h2;refine{λq σ I=>∃(l:Addr) (ks:List Nat) (v3:Option V),q=ks.length/\σ=[some (.ref x),some (.int many),some (.ref l),v3]/\a7 H I/\H l=none/\I l=some (.lst ((nI ks).map V.int))/\Above lns many ks,{_,l,_,none,rfl,rfl,s2,fl,h2,Above.start lns many},?_};rintro q σ I ⟨l,ks,v3,rfl,rfl,J,fl,j,m⟩;refine{true,rfl,eJ ?_};refine{λr z=>∃(c:Addr),r=[some (.ref x),some (.int many),some (.ref c),some (.ref c)]/\a7 H z/\H c=none/\z c=some (.lst ((nI (t9 lns many ks)).map V.int))/\t9 lns many ks≠ks,?_,?_}
 .rintro r z ⟨c,rfl,M,O,h',R⟩;exact{_,F1 R,c,_,_,rfl,rfl,M,O,h',m.next}
 have U:∀d∈ks,d<lns.length:=λd hd=>waM.mp (m.sub.subset hd);have SW:ks.length<=1000:=by have:=m.sub.length_le;rw[wau]at this;lia
 refine{_,rfl,l,rfl,{_,aK.of j},λc t=>?_};refine di (λv=>match v with |.int d=>decide (many<=((cu ks (lns.getD d.toNat [])).length:Int)) |_=>false) (λv=>v) (aL K l _) t (ay (by rw[ZI,cO];lia)) (λz M=>aK.of (M _ _ j)) (λy B Q' hy e X=>?_) (λy B Q' hy _ e X=>{_,rfl,X B (a7.refl _)}) (λB e Y=>?_)
 .obtain⟨n,Z,rfl⟩:=xc hy;have M8:=U n Z;have hq:lns[n]?=some (lns.getD n []):=by rw[ZL,ZJ M8];rfl
  obtain⟨v,LI,rd⟩:=g.at (i:=n) (d:=bG (lns.getD n [])) (by rw[ZM,hq];rfl);have b:=J.trans e;refine{_,rfl,x,L.av,dx,_,_,rfl,b _ _ hx,L.ao.cl,L.ao.cf,bj ah bw cl,_,rfl,cl,G,_,_,rfl,rfl,b.seq (.inl hc),bq LI,_,rfl,v,l,ks,lns.getD n [],rfl,b7.same b _ _ rd,aK.of (e _ _ j),hm _ (ZT hq),λy H5 s5 r5=>?_};obtain⟨a,rs,rfl,hS,hT⟩:=dA r5;have C5:rs.length=(cu ks (lns.getD n [])).length:=by rw[hT.1,ZI,ZI]
  refine{a,_,rfl,.inl ((aX _ _).seq hS),?_};rw[ZI,C5];exact{_,rfl,_,_,rfl,rfl,_,rfl,X H5 s5}
 rw[wdo,vQ (f:=λn=>decide (many<=((cu ks (lns.getD n [])).length:Int))) (λn=>rfl)]at Y;have b:=J.trans e;refine{_,rfl,_,rfl,c,l,_,_,rfl,rfl,aK.of Y,aK.of (e _ _ j),iJ _,iJ _,_,rfl,?_};refine zF (λu=>?_) (λu=>?_)
 .rw[vW,decide_eq_true_eq]at u;exact{_,rfl,k l ks B b fl (e _ _ j) {m,m.stays u}}
 .rw[vW,decide_eq_true_eq]at u;exact{_,rfl,c,rfl,b,none_of J t,Y,u}
theorem uz(L:Lk K mg):aQ P w K mg base cI 3 L.m6 L.ml ["band","rows"] (FC L.aA):=by
 refine L.mB.F.dF (N:=["band","rows","longer","word","place","sign","end"]) (λgn A outer s H vs Q E nd hr h=>?_);obtain⟨x,l,rs,m,g,ws,ss,ls,rfl,B,R,hq,JH,C4,k⟩:=h
 refine{_,(a5 (ai (i:=2) (cC fM))
  (a5 (forA (aM (pv 1)) (fj rfl (aU (az (i:=3)) (aU (az (i:=4)) dG))) (a9 (forA (wV (aC (pv 0) rfl)) (az (i:=5)) (a5 (ai (i:=6) (Dt (pv 0) L.aP.cl L.nr (rq L) (a8 (pv 4) (aF (pv 5)))))
  (a9 (bp (cD wQ (pv 6) iz) (a9 (bL (i9 wap waA waH cN (pv 2) (aF (cM (a8 (aS jg (pv 3) (pv 5)) (aF (pv 6)))))))) aH))))))
  (a9 (aw (pv 2))))),?_}
 ac_rfl
 refine{wal _,λn u=>?_};have s0:a7 H (upd H n (.lst [])):=a7.upd u;refine{_,rfl,l,rfl,{_,aK.of (s0 _ _ R.l)},dJ (K:=K) (a:=l) (xs:=rs.map V.ref) (λi σ I=>∃(v3 v4 v v6:Option V) (f:List Addr),σ=[some (.ref x),some (.ref l),some (.ref n),v3,v4,v,v6]/\a7 H I/\dN I n f (fo g ws ss (m.take i))) {none,none,none,none,[],rfl,s0,{a6,bu.nil _}} (λi σ I _ {_,_,_,_,_,_,z,_}=>aK.of (z _ _ R.l)) ?_ ?_}
 .rintro i y σ I C ⟨v3,v4,v,v6,f,rfl,z,R2⟩;rw[ZM]at C
  obtain⟨r,J,rfl⟩:∃r,rs[i]?=some r/\y=.ref r:=by
   cases q:rs[i]? with
   |none=>rw[q]at C;cases C
   |some r=>rw[q]at C;exact{r,rfl,(ZU C).symm}
  have O:i<m.length:=by have:=(ZO.mp J).1;rw[R.len]at this;exact this
  have S:m[i]?=some m[i]:=ZJ O;obtain⟨T,U⟩:=hq m[i] (wah O);have hT:=R.t.2 i r (km m[i]) J (by rw[ZM,S];rfl);have nC:m.take (i+1)=m.take i++[m[i]]:=by rw[waw,S];rfl
  have D:fo g ws ss (m.take (i+1))=fo g ws ss (m.take i)++pO g ws ss m[i]:=by
   unfold fo;rw[nC,wgb];simp
  have OU:(fo g ws ss (m.take i)).length<=1000:=by
   have h1:=qp g ws ss (m.take i);have h2:(m.take i).length<=100:=by rw[wa5];lia
   exact wa0 h1 (wfM h2 C4)
  generalize m[i]=q at T U hT D;obtain⟨w,p⟩:=q;generalize fo g ws ss (m.take i)=M at R2 D OU;refine{r,_,rfl,fJ.of (z _ _ hT),rfl,_,_,rfl,_,_,rfl,rfl,?_};have B2:=B.same z;obtain⟨⟨dx,b,d,qq,mv,h1,h2,h3,h4,h5,h6⟩,pm,_,_⟩:=id B2;refine{_,rfl,x,L.aA,dx,_,_,rfl,h1,L.aP.cl,L.aP.rX,nc g b d qq,g,rfl,kj (nH g) (λj σ X=>∃(v v6:Option V) (f:List Addr),σ=[some (.ref x),some (.ref l),some (.ref n),some (.str w),some (.str p),v,v6]/\a7 H X/\dN X n f (M++((ch g).take j).filterMap λc=>if bears ws (p++{#[c]})=true then none else some (w++{#[c]},lend ss (p++{#[c]})))) {_,_,f,rfl,z,by rw[wfN,List.filterMap_nil,waL];exact R2} (λ_ _ _ _ _=>trivial) ?_ ?_}
  .rintro j y σ X C ⟨v,v6,f,rfl,Y,R3⟩;obtain⟨c,Z4,rfl,hj,W3,NW⟩:=D5 C;have B3:=B.same Y;obtain⟨⟨W4,_,_,_,_,W5,_⟩,_⟩:=id B3;refine{_,rfl,x,W4,_,rfl,W5,GD _ _ _ _ ∅ ∅ ∅ ∅,_,rfl,_,rfl,x,p,c,g,ws,ss,ls,rfl,B3,T,W3,?_}
   have Z:(M++((ch g).take j).filterMap λc=>if bears ws (p++{#[c]})=true then none else some (w++({#[c]}:Str),lend ss (p++({#[c]}:Str)))).length<=1010:=by
    have:=wdn (λc=>if bears ws (p++{#[c]})=true then none else some (w++({#[c]}:Str),lend ss (p++({#[c]}:Str)))) ((ch g).take j);rw[wa5,aJ]at this;rw[ZP]
    lia
   refine{_,rfl,rfl,_,rfl,?_};rw[NW,wfL,<-waX];generalize (M++((ch g).take j).filterMap λc=>if bears ws (p++{#[c]})=true then none else some (w++({#[c]}:Str),lend ss (p++({#[c]}:Str))))=M2 at R3 Z
   cases hb:bears ws (p++⟨#[c]⟩) with
   |true=>
    have e:uF ws ss p c=.non:=by unfold uF;rw[hb];rfl
    rw[e];refine bo {_,_,f,rfl,Y,?_}
    have e2:([c].filterMap λc=>if bears ws (p++{#[c]})=true then none else some (w++({#[c]}:Str),lend ss (p++({#[c]}:Str))))=[]:=by
     rw[waU,hb];rfl
    rw[e2,waL];exact R3
   |false=>
    have e:uF ws ss p c=.str (lend ss (p++{#[c]})):=by unfold uF;rw[hb];rfl
    rw[e]
    have e2:([c].filterMap λc=>if bears ws (p++{#[c]})=true then none else some (w++({#[c]}:Str),lend ss (p++({#[c]}:Str))))=[(w++{#[c]},lend ss (p++{#[c]}))]:=by
     rw[waU,hb];rfl
    rw[e2];have C5:=R3.len;have W6:w.length<=100:=U;refine eJ {_,rfl,.inl {rfl,_,aK.of R3.l},_,rfl,_,rfl,_,_,rfl,rfl,ay (by show w.length+1<=_;lia),_,rfl,by show 2<=sizeLine;decide,λr' G=>?_};refine{n,_,_,rfl,rfl,a7.upd G _ _ R3.l,by rw[ZI,C5];exact waI Z (by rw[wbF];decide),?_};have key:=R3.push G (w++{#[c]},lend ss (p++{#[c]}))
    have sk:a7 H (upd (upd X r' (.tup [.str (w++{#[c]}),.str (lend ss (p++{#[c]}))])) n (.lst (f.map V.ref++[.ref r']))):=λa o ea=>by
     rw[ae (af ea u)];exact a7.upd G _ _ (Y _ _ ea)
    unfold km at key;generalize lend ss (p++{#[c]})=le at key sk ⊢;refine{some (.str {#[c]}),some (.str le),f++[r'],?_,?_,?_}
    .rfl
    .exact sk
    .exact key
  .rintro σ X ⟨v,v6,f,rfl,Y,R3⟩;refine{_,_,_,_,f,rfl,Y,?_};have:(eD g).length=(ch g).length:=by unfold eD;rw[ZI]
   rw[this,wam]at R3;rw[D];exact R3
 .rintro σ I ⟨v3,v4,v,v6,f,rfl,z,R2⟩;rw[ZI,R.len,wam]at R2;exact{_,rfl,k n f I z u R2}
theorem lG(L:Lk K mg):aQ P w K mg base cI 4 L.m7 L.mm ["band","place","wide"] (FD L.aA):=by
 have T:=L.T;refine L.iD.F.dF (N:=["band","place","wide","rows","step","live"]) (λgn A outer s H vs Q E nd hr h=>?_);obtain⟨x,p,n,g,ws,ss,ls,rfl,B,hp,f,hn,GK,I,k⟩:=h
 refine{_,(a5 (bL (Dt (pv 0) L.aP.cl L.iw (nv L) (aF (pv 1))))
  (a5 (ai (i:=3) (cC (aF (cM (a8 eE (aF (pv 1)))))))
  (a5 (forA (dj rfl T.range (aF (pv 2))) (az (i:=4)) (a9 (ai (i:=3) (aj (uz L) L.mB (a8 (pv 0) (aF (pv 3)))))))
  (a5 (ai (i:=5) (fI (pv 0) L.aP.cl L.iy (jC L)))
  (a9 (aw (fv rfl (ax ["live"] [5]) (ax ["live"] [5]) ⋯ (aM (pv 3)) (λ_ _ _ _ _ _=>fZ (fX (gU (K:=K) rfl) (pv 1) (pv 2) rfl)) (λ_ _ _ _ _ _=>(cM (a8 (pv 0) (aF (pv 1)))))))))))),?_}
 ac_rfl
 have he:("":Str)∈ss:=B.pm.mem_iff.mpr (cb ws);have J:p∈ss:=B.lv.sub.subset hp;obtain⟨⟨dx,b,d,q,mv,j,y,h3,h4,h5,h6⟩,pm,_,_⟩:=id B;refine{_,rfl,x,dx,_,rfl,j,GD _ _ _ _ ∅ ∅ ∅ ∅,_,rfl,x,p,g,ws,ss,ls,rfl,B,hp,?_};refine{_,rfl,by show 2<=sizeLine;decide,λc M=>{by show 1<=sizeLine;decide,λz m=>?_}}
 have R0:dN (upd (upd H c (.tup [.str "",.str p])) z (.lst [.ref c])) z [c] (tJ g ws ss p 0):=by
  refine{a6,rfl,λi r xs j y=>?_}
  match i,j,y with
  |0,j,y=>
   cases j;cases y;exact a7.upd m _ _ a6
 have s0:a7 H (upd (upd H c (.tup [.str "",.str p])) z (.lst [.ref c])):=(a7.upd M).trans (a7.upd m);refine{_,rfl,(n:Int),rfl,by lia,by lia,?_};rw[wae];refine dh (lo:=0) (n:=n) (λi σ C=>∃(l:Addr) (o:List Addr) (v4:Option V),σ=[some (.ref x),some (.str p),some (.int (n:Int)),some (.ref l),v4,none]/\a7 H C/\dN C l o (tJ g ws ss p i)) {z,[c],none,rfl,s0,R0} ?_ ?_
 .rintro i σ C hi ⟨l,o,v4,rfl,e,R2⟩;have a:(tJ g ws ss p i).length<=100:=wa0 (o8 g ws ss p i) (wa0 (wfY (by lia) (by lia)) f);refine{_,rfl,_,rfl,x,l,o,_,g,ws,ss,ls,rfl,B.same e,R2,λr hr=>?_,a,I,λl' O H3 u f3 R3=>{l',O,_,rfl,e.trans u,R3}};obtain⟨a1,a2⟩:=tV he J i r hr;exact{a1,by lia}
 .rintro σ C ⟨l,o,v4,rfl,e,R2⟩;have B2:=B.same e;obtain⟨⟨R,_,_,_,_,S,_⟩,_⟩:=id B2;refine{_,rfl,x,R,_,rfl,S,GD _ _ _ _ ∅ ∅ ∅ ∅,x,g,ws,ss,ls,rfl,B2,λlv H3 u f3 U=>?_};have R3:=R2.same u;have a:(tJ g ws ss p n).length<=100:=wa0 (o8 g ws ss p n) f;have C5:=R3.len;refine{_,rfl,l,rfl,{_,aK.of R3.l},λlr v=>?_};refine Dp (prs:=(tJ g ws ss p n).map nW) (λq=>nK q.2 (ls.map V.str)) jG (aL K l (o.map V.ref)) (by rw[BA];exact R3.t) v (ay (by lia)) (λH' s'=>aK.of (s' _ _ R3.l)) (λqv D Q' hq G X=>?_) (λqv D Q' hq _ G X=>?_) (λys D G Y t4=>?_)
  .obtain⟨q',_,rfl⟩:=ZR.mp hq;exact{_,rfl,_,rfl,lv,_,rfl,.inl (aK.of (G _ _ U)),rfl,dX _,_,rfl,X D (a7.refl _)}
  .exact{_,rfl,_,rfl,by show 2<=sizeLine;decide,λr' Z=>X r' _ (a7.upd Z) a6}
  .rw[yu]at t4;exact k lr ys D ((e.trans u).trans G) (none_of (e.trans u) v) ⟨Y,t4⟩
theorem mI(L:Lk K mg):aQ P w K mg base cI 5 L.oo L.oH ["band","wide"] (yN L.aA):=by
 refine L.jx.F.dF (N:=["band","wide","ends","place"]) (λgn A outer s H vs Q E nd hr h=>?_);obtain⟨x,n,g,ws,ss,ls,rfl,B,DY,hn,GK,C4,B4,k⟩:=h;have hu:=eY hr
 refine{_,(a5 (ai (i:=2) eL)
  (a5 (forA (aM (fI (pv 0) L.aP.cl L.iy (jC L))) (az (i:=3)) (a9 (eQ hu (pv 2) (pv 3) (fv rfl (ax [] []) (ax [] []) ⋯ (aM (aj (lG L) L.iD (a8 (pv 0) (a8 (pv 3) (aF (pv 1)))))) (λ_ _ _ _ _ _=>bb) (λ_ _ _ _ _ _=>(pv 1))) rfl)))
  (a9 (aw (pv 2))))),?_}
 ac_rfl
 refine λu v=>?_;have X:a7 H (upd H u (.dK [])):=a7.upd v;have B0:=B.same X;obtain⟨⟨dx,b,d,q,mv,h1,h2,h3,h4,h5,h6⟩,pm,_,_⟩:=id B0;refine{_,rfl,x,dx,_,rfl,h1,GD _ _ _ _ ∅ ∅ ∅ ∅,x,g,ws,ss,ls,rfl,B0,λlp Y O f1 R=>?_};have OM:lp≠u:=λz=>by rw[z,a6]at f1;cases f1
 have nd:ls.Nodup:=B.nd.sublist B.lv.sub;have zz:ls.length<=900:=wa0 B.lv.sub.length_le B4
 refine{lp,rfl,{_,aK.of R},dJ (K:=K) (a:=lp) (xs:=ls.map V.str) (λi σ Z=>∃v3 r,σ=[some (.ref x),some (.int (n:Int)),some (.ref u),v3]/\Z u=some (.dK (bY r))/\r.map (·.1)=ls.take i/\(∀m∈r,Z m.2=some (.lst (((aN g ws ss ls n m.1).map (·.2)).map V.str)))/\(∀m∈r,Y m.2=none)/\(∀c o,Y c=some o->c≠u->Z c=some o))
  {none,[],rfl,O _ _ a6,rfl,λm C=>(nomatch C),λm C=>(nomatch C),λc o e _=>e} (λi σ Z _ {_,_,_,_,_,_,_,J}=>aK.of (J _ _ R OM)) ?_ ?_}
 .rintro i y σ H5 hy ⟨v3,r,rfl,D,f,j,G,J⟩;obtain⟨p,NV,rfl,hi,B5,nC⟩:=gi hy;have QO:a7 H H5:=λc o e=>J _ _ (O _ _ (X _ _ e)) (af e v);refine{_,rfl,_,rfl,_,rfl,x,p,n,g,ws,ss,ls,rfl,B.same QO,B5,DY,hn,GK,C4,λlb rs H6 s6 f6 R6=>?_};have JN:=dP g ws ss ls n p;have C5:=R6.len;refine{lb,rfl,{_,aK.of R6.l},λe he=>?_};refine mY (prs:=(aN g ws ss ls n p).map nW) (λ_=>true) (λq=>q.2) (aL K lb (rs.map V.ref)) (by rw[BA];exact R6.t) he (ay (by lia)) (λH' s'=>aK.of (s' _ _ R6.l)) (λq H7 Q' _ _ qq=>qq H7 (a7.refl _)) (λq H7 Q' _ _ _ qq=>{_,rfl,qq H7 (a7.refl _)}) (λH7 s7 h7=>?_)
  have e7:(((aN g ws ss ls n p).map nW).filter λ_=>true).map (λq=>q.2)=((aN g ws ss ls n p).map (·.2)).map V.str:=by
   rw[waD.mpr (λ_ _=>rfl),ZV,ZV];rfl
  rw[e7]at h7;have M:=s6.trans s7;have d6:=M _ _ D;have I:H5 e=none:=none_of s6 he;have S:p∉r.map (·.1):=by rw[f];exact gW nd NV
  have QP:r.length<=900:=by have:=congrArg wcO f;rw[ZI,wa5]at this;lia
  refine{_,rfl,_,rfl,u,_,rfl,kh.k (k:=wac p) d6 (by unfold bY;rw[ZI];exact bO (by lia)),?_};have T:e≠u:=λz=>by rw[z,D]at I;cases I
  have e1:Y e=none:=by
   cases q:Y e with
   |none=>rfl
   |some o=>
    have:=J _ _ q T;rw[this]at I;cases I
  refine{_,r++[(p,e)],rfl,?_,?_,?_,?_,?_}
  .rw[a6,fi _ (mW S)];unfold bY;rw[wa1];rfl
  .rw[wa1,f,nC];rfl
  .intro m C;rcases waj.mp C with z |z
   .have nm:m.2≠u:=λq=>by
     have:=G m z;rw[q,O _ _ a6]at this;cases this
    rw[ae nm];exact M _ _ (j m z)
   .have:m=(p,e):=by simpa using z
    subst this;rw[ae T];exact h7
  .intro m C;rcases waj.mp C with z |z
   .exact G m z
   .have:m=(p,e):=by simpa using z
    subst this;exact e1
  .intro c o hc U;rw[ae U];exact M _ _ (J c o hc U)
 .rintro σ H5 ⟨v3,r,rfl,D,f,j,G,J⟩;rw[ZI,wam]at f;exact{_,rfl,k u r H5 (λc o e=>J _ _ (O _ _ (X _ _ e)) (af e v)) v D f j λm C=>none_of X (none_of O (G m C))}
theorem p9(L:Lk K mg):aQ P w K mg base cI 1 L.qB L.qP ["places","weights"] (Fe K):=by
 have T:=L.T;refine L.lz.F.dF (N:=["places","weights"]) (λj A outer s H y Q E nd n h=>?_);obtain⟨l,d,o,m,f,rfl,g,p,hd,hw,k⟩:=h;have q:=eY n;refine{_,(a9 (aw (aI (iQ rfl) (by rfl) T.sum Ai (aF (bV rfl (ax ["weights"] [1]) (aM (pv 0)) (λ_ _ _ _ _ _=>bb) (λ_ _ _ _ _ _=>(cJ q (pv 1) (pv 0) (λ_ _=>rfl)))))))),?_}
 ac_rfl
 refine{_,rfl,l,rfl,{_,g},λr a=>?_};refine comp_map (Hf f) (aL K l (o.map V.str)) a (by rw[ZI];exact ay (by lia)) (λB t=>t.seq g) (λz b C u c v=>?_) (λb c i=>?_)
 .obtain⟨e,x,rfl⟩:=ZR.mp u;have g3:=eK.rd (k:=(wac e:Key)) (hd.same c);rw[dm,hw e x]at g3;exact{_,rfl,_,rfl,d,_,rfl,g3,v b (a7.refl _)}
 .rw[pq]at i;exact{r,_,rfl,aK.of i,k b c}
theorem J1(L:Lk K mg):aQ P w K mg base cI 6 L.G5 L.G6 ["band","many","wide","weights"] (KZ L.aA):=by
 have T:=L.T;refine L.G7.F.dF (N:=["band","many","wide","weights","ends"]) (λgn A outer s H vs Q E nd hr h=>?_);obtain⟨x,d,many,n,m,f,g,ws,ss,ls,rfl,B,C,j,l,r,hd,hw,k⟩:=h;have S:=eY hr
 refine{_,(a5 (bL (aj (eO L) L.et (a8 (pv 0) (a8 (pv 1) (aF (pv 2))))))
  (a5 (ai (i:=4) (aj (mI L) L.jx (a8 (pv 0) (aF (pv 2)))))
  (a9 (aw (aI (sO rfl) (by rfl) T.all KJ (aF (bV rfl (ax ["ends","weights","many"] [4,3,1]) (sU (pv 4)) (λ_ _ _ _ _ _=>bb) (λ_ _ _ _ _ _=>(cV Et (aj (p9 L) L.lz (a8 (cJ S (pv 1) (pv 0) (λ_ _=>rfl)) (aF (pv 2)))) (aS gV (pv 3) (cJ S (pv 2) (pv 0) (λ_ _=>rfl))) (gp _)))))))))),?_}
 ac_rfl
 obtain⟨ra,rb,rc,rd,U⟩:=id r
 have DY:g.length^n<=64:=by
  rw[wae]at U;have:((g.length^n:Nat):Int)<=64:=by rw[wbT];exact U
  omega
 have zz:ls.length<=900:=wa0 B.lv.sub.length_le l;refine{_,rfl,_,rfl,_,rfl,x,many,n,g,ws,ss,ls,rfl,B,j,r,?_};refine{_,rfl,_,rfl,x,n,g,ws,ss,ls,rfl,B,(),(),C,j,l,λt D H1 s1 u X Y Z ef=>?_}
 have Ly:d≠t:=by
  intro z;rw[z]at hd;rcases hd with z |⟨o,z⟩<;>rw[u]at z<;>cases z
 have G:∀q∈D,q.2≠t:=λq I z=>by have:=Z q I;rw[z,X]at this;cases this
 refine{_,rfl,t,_,rfl,.inl X,λo H2 h2 y=>λlc M=>?_}
 have O:a7 H H2:=λc oc e=>by
  rw[y c (af e u)];exact s1 _ _ e
 have J:=gN t o (bY D);rw[fK,Y]at J;refine comp_map (λv=>match v with |.str p=>.bl (decide (many*f p<=dQ g ws ss ls n f p)) |_=>.non) J M (by rw[ZI];exact ay ()) (λH' s'=>s' _ _ h2) (λz H3 Q' hz b qq=>?_) (λH3 b h3=>?_)
 .obtain⟨p,hp,rfl⟩:=ZR.mp hz;obtain⟨a,ha,hv⟩:=gJ (mv:=D) (k:=p) (by rw[Y];exact hp);have e1:=eK.f (k:=(wac p:Key)) (b _ _ h2);rw[hv]at e1;have R:H2 a=some (.lst (((aN g ws ss ls n p).map (·.2)).map V.str)):=by rw[y a (G _ ha)];exact Z _ ha
  have JN:=dP g ws ss ls n p;refine{_,rfl,_,rfl,t,_,rfl,e1,_,rfl,a,d,(aN g ws ss ls n p).map (·.2),m,f,rfl,aK.of (b _ _ R),by rw[ZI];omega,hd.same (O.trans b),λe he=>?_,λH4 s4=>?_}
  .obtain⟨q,I,rfl⟩:=ZR.mp he;exact hw _ (cG I)
  .have g3:=eK.rd (k:=(wac p:Key)) (hd.same ((O.trans b).trans s4));rw[dm,hw p hp]at g3;refine{_,rfl,_,rfl,_,rfl,d,_,rfl,g3,_,_,rfl,rfl,.inl {(),()},_,_,rfl,rfl,?_};have q4:=qq H4 s4;have eb:dQ g ws ss ls n f p=(((aN g ws ss ls n p).map (·.2)).map f).sum:=by unfold dQ;rw[ZV];rfl
   have q5:Q' (.bl (decide (many*f p<=dQ g ws ss ls n f p))) H4:=q4;rw[eb]at q5;exact q5
 .have e3:(ls.map V.str).map (λv=>match v with |.str p=>V.bl (decide (many*f p<=dQ g ws ss ls n f p)) |_=>.non)=(ls.map λp=>decide (many*f p<=dQ g ws ss ls n f p)).map V.bl:=by
   rw[ZV,ZV];rfl
  rw[e3]at h3;refine{lc,_,rfl,aK.of h3,?_};rw[we1];exact k H3 (O.trans b)
theorem Bd(L:Lk K mg):aQ P w K mg base cI 2 L.wo L.wx ["ends","many","weights"] D8:=by
 have T:=L.T;refine L.wC.F.dF (N:=["ends","many","weights","lower","place"]) (λU A outer s H vs Q E nd X h=>?_);obtain⟨v,z,many,n,o,I,f,g,ws,ss,ls,rfl,l,M,Y,Z,nd,zz,Z5,W8,B,k⟩:=h;have C:=eY X
 refine{_,(a5 (ai (i:=3) eL)
  (a5 (forA (rS (pv 0)) (az (i:=4)) (a9 (eQ C (pv 3) (pv 4) (aI (pC rfl) (by rfl) T.min HK (a8 (cJ C (pv 2) (pv 4) (λ_ _=>rfl)) (aF (aS nO (aj (p9 L) L.lz (a8 (cJ C (pv 0) (pv 4) (λ_ _=>rfl)) (aF (pv 2)))) (pv 1))))) rfl)))
  (a9 (aw (pv 3))))),?_}
 ac_rfl
 refine λdl m=>?_;have O:a7 H (upd H dl (.dK [])):=a7.upd m;have J:=gN v o (bY I);rw[fK,M]at J;refine{_,rfl,v,_,rfl,.inr {o,O _ _ l,?_}};refine kj J (λj σ r=>∃(v4:Option V),σ=[some (.ref v),some (.int many),some (.ref z),some (.ref dl),v4]/\r dl=some (.dK (aY (bE (ku g ws ss ls many n f) (ls.take j))))/\a7 H r) ⟨none,rfl,a6,O⟩ (λj σ r _ {_,_,_,b}=>b _ _ l) ?_ ?_
 .rintro j y σ r hy ⟨v4,rfl,x,b⟩;obtain⟨p,D,rfl,hj,t,nC⟩:=gi hy;have d:=B.same b;have g3:=eK.rd (k:=(wac p:Key)) d;rw[dm,gF f ls p t]at g3;obtain⟨a,ha,hv⟩:=gJ (mv:=I) (k:=p) (by rw[M];exact t);have R:=eK.f (k:=(wac p:Key)) (b _ _ l);rw[hv]at R;have G:=b _ _ (Y _ ha);have JN:=dP g ws ss ls n p;refine{_,rfl,_,rfl,z,_,rfl,g3,_,rfl,_,rfl,v,_,rfl,R,_,rfl,a,z,(aN g ws ss ls n p).map (·.2),_,f,rfl,aK.of G,by rw[ZI];lia,d,λe he=>?_,λH4 S=>?_}
  .obtain⟨q,hq,rfl⟩:=ZR.mp he;exact gF f ls _ (cG hq)
  have eb:(((aN g ws ss ls n p).map (·.2)).map f).sum=dQ g ws ss ls n f p:=by unfold dQ;rw[ZV];rfl
  refine{_,rfl,_,_,rfl,rfl,{by lia,by lia},_,_,rfl,?_};have h4:=S _ _ x;have u:p∉(bE (ku g ws ss ls many n f) (ls.take j)).map (·.1):=by rw[pJ];exact gW nd D
  refine{_,rfl,_,rfl,dl,_,rfl,kh.k (k:=wac p) h4 (by rw[iR];unfold bE;rw[ZI,wa5];exact bO (by lia)),?_};refine{_,rfl,?_,λc oc e=>?_}
  .rw[a6,pF u,eb,nC];unfold bE;rw[wa1];rfl
  .rw[ae (af e m)];exact S _ _ (b _ _ e)
 .rintro σ r ⟨v4,rfl,x,b⟩;rw[ZI,wam]at x;exact{_,rfl,k dl r b m x}
theorem zp(L:Lk K mg):aQ P w K mg base cI 6 L.nk L.ud ["band","many","wide","most"] (Ii L.aA):=by
 refine L.ui.F.dF (N:=["band","many","wide","most","ends","weights","place","lower"]) (λgn A outer s H vs Q E nd hr h=>?_);obtain⟨x,many,n,most,g,ws,ss,ls,rfl,B,GK,T,U,X,T6,k⟩:=h;have hu:=eY hr;have M5:(A.deeper (wd7 "greatest" (aD (top 31)) s.heap.objs.size L.nk gn)).units<wbf:=hr.wO
 refine{_,(a5 (bL (aj (eO L) L.et (a8 (pv 0) (a8 (pv 1) (aF (pv 2))))))
  (a5 (ai (i:=4) (aj (mI L) L.jx (a8 (pv 0) (aF (pv 2)))))
  (a5 (ai (i:=5) eL)
  (a5 (forA (sU (pv 4)) (az (i:=6)) (a9 (eQ hu (pv 5) (pv 6) (pv 3) rfl)))
  (a9 (iN wcH (bB da) (a5 (ai (i:=7) (aj (Bd L) L.wC (a8 (pv 4) (a8 (pv 1) (aF (pv 5))))))
  (a5 (bp (cD (Ks M5) (pv 7) (pv 5)) (a9 (aw (pv 5))) aH)
  (a9 (ai (i:=5) (pv 7))))))))))),?_}
 ac_rfl
 obtain⟨Y,rb,rc,rd,re⟩:=id X
 have DY:g.length^n<=64:=by
  rw[wae]at re;have:((g.length^n:Nat):Int)<=64:=by rw[wbT];exact re
  lia
 have nd:ls.Nodup:=B.nd.sublist B.lv.sub;have zz:ls.length<=900:=wa0 B.lv.sub.length_le U;refine{_,rfl,_,rfl,_,rfl,x,many,n,g,ws,ss,ls,rfl,B,T,X,?_};refine{_,rfl,_,rfl,x,n,g,ws,ss,ls,rfl,B,by lia,by lia,GK,T,U,λd D H1 s1 QQ h1 ek er ef=>?_};have Wa:∀q∈D,q.2≠d:=λq hq z=>by have:=er q hq;rw[z,h1]at this;cases this
 refine λa b=>?_;have G:d≠a:=af h1 b;have Z:(upd H1 a (.dK [])) d=some (.dK (bY D)):=a7.upd b _ _ h1;refine{_,rfl,d,_,rfl,.inl Z,λo H2 h2 l=>?_};have I:H2 a=some (.dK []):=by rw[l a (wb4 G),a6]
 have s2:a7 H H2:=λc M e=>by
  rw[l c (af e QQ)];exact a7.upd b _ _ (s1 _ _ e)
 have O:∀m∈D,H2 m.2=some (.lst (((aN g ws ss ls n m.1).map (·.2)).map V.str)):=λm r=>by
  rw[l _ (Wa m r)];exact a7.upd b _ _ (er m r)
 have t:H a=none:=none_of s1 b;have J:=gN d o (bY D);rw[fK,ek]at J;refine kj J (λj σ u=>∃(v6:Option V),σ=[some (.ref x),some (.int many),some (.int (n:Int)),some (.int most),some (.ref d),some (.ref a),v6,none]/\u a=some (.dK (aY (bE (λ_=>most) (ls.take j))))/\∀c M,H2 c=some M->c≠a->u c=some M) {none,rfl,I,λc M e _=>e} (λj σ u _ {_,_,_,v}=>v _ _ h2 G) ?_ ?_
 .rintro j y σ u hy ⟨v6,rfl,h3,v⟩;obtain⟨p,M7,rfl,hj,B5,nC⟩:=gi hy;have Gd:p∉(bE (λ_=>most) (ls.take j)).map (·.1):=by rw[pJ];exact gW nd M7
  refine{_,rfl,_,rfl,_,rfl,a,_,rfl,kh.k (k:=wac p) h3 (by rw[iR];unfold bE;rw[ZI,wa5];exact bO (by lia)),?_};refine{_,rfl,?_,λc M e hc=>by rw[ae hc];exact v c M e hc};rw[a6,pF Gd,nC];unfold bE;rw[wa1];rfl
 rintro σ u ⟨v6,rfl,h3,v⟩;rw[ZI,wam]at h3;have QS:=v _ _ h2 G;have s3:a7 H u:=λc M e=>v _ _ (s2 _ _ e) (af e t);have QW:∀m∈D,m.2≠a:=λm r z=>by have:=O m r;rw[z,I]at this;cases this
 have OS:∀m∈D,u m.2=some (.lst (((aN g ws ss ls n m.1).map (·.2)).map V.str)):=λm r=>v _ _ (O m r) (QW m r);clear v h2 I O er h1 l Z J b
 refine{λq σ H4=>∃(a:Addr) (f:Str->Int) (v6 v7:Option V),q=(ls.map λp=>(f p).toNat).sum/\σ=[some (.ref x),some (.int many),some (.int (n:Int)),some (.int most),some (.ref d),some (.ref a),v6,v7]/\a7 u H4/\H a=none/\H4 a=some (.dK (aY (bE f ls)))/\(∀p∈ls,0<=f p)/\(∀p∈ls,f p<=most)/\(∀h:Str->Int,(∀p∈ls,h p<=most)->CT g ws ss ls many n h->∀p∈ls,h p<=f p),
  {_,a,λ_=>most,v6,none,rfl,rfl,a7.refl _,t,h3,λ_ _=>T6,λ_ _=>wem _,λh hh _ p hp=>hh p hp},?_}
 rintro q σ H4 ⟨a,f,v6,v7,rfl,rfl,s4,t,h4,R,T9,Ta⟩;refine{true,rfl,eJ ?_};refine{λσ' H'=>∃(dl:Addr) (v6 v7:Option V),σ'=[some (.ref x),some (.int many),some (.int (n:Int)),some (.int most),some (.ref d),some (.ref dl),v6,v7]/\a7 u H'/\H dl=none/\H' dl=some (.dK (aY (bE (ku g ws ss ls many n f) ls)))/\¬∀p∈ls,ku g ws ss ls many n f p=f p,?_,?_}
 .rintro σ' H' ⟨dl,v6,v7,rfl,s',S,h',zy⟩;exact{_,KS Y R zy,dl,_,_,_,rfl,rfl,s',S,h',Ft Y R,λp hp=>wdp (Fs many n f p) (T9 p hp),λh hh C=>CV Y C (Ta h hh C)}
 .refine{_,rfl,_,rfl,_,rfl,d,a,many,n,o,D,f,g,ws,ss,ls,rfl,s4 _ _ QS,ek,λm r=>s4 _ _ (OS m r),by lia,nd,zz,Y,rb,.inl h4,λdl H5 s5 S h5=>?_};have Tb:=s5 _ _ h4;refine{_,rfl,_,rfl,dl,a,_,_,rfl,rfl,.inl h5,.inl Tb,sY _,sY _,_,rfl,?_};refine zF (λhe=>?_) (λhe=>?_)
  .have e:=JB.mp he;exact{_,rfl,k a f H5 ((s3.trans s4).trans s5) t Tb {R,T9,HW Y e,Ta}}
  .exact{_,rfl,dl,_,_,rfl,s4.trans s5,none_of s3 (none_of s4 S),h5,λe=>he (JB.mpr e)}
theorem i3(L:Lk K mg):aQ P w K mg base cI 5 L.m9 L.mn ["band","many","wide","weights"] (Ik K L.aA L.av):=by
 refine L.g9.F.dF (N:=["band","many","wide","weights","homes","lines","place","blocks"]) (λgn A outer s H vs Q E nd hr h=>?_);obtain⟨x,d,many,n,m,f,g,ws,ss,ls,rfl,B,GK,C4,B4,DZ,hd,hw,k⟩:=h;have hu:=eY hr
 refine{_,(a5 (bL (aj (eO L) L.et (a8 (pv 0) (a8 (pv 1) (aF (pv 2))))))
  (a5 (ai (i:=4) (bV rfl (ax ["weights"] [3]) (aM (fI (pv 0) L.aP.cl L.iy (jC L))) (λ_ _ _ _ _ _=>fZ (cD kl (cJ hu (pv 1) (pv 0) (λ_ _=>rfl)) aq)) (λ_ _ _ _ _ _=>(pv 0))))
  (a5 (ai (i:=5) (cC fM))
  (a5 (forA (aM (pv 4)) (az (i:=6)) (a5 (ai (i:=7) (aj (lG L) L.iD (a8 (pv 0) (a8 (pv 6) (aF (pv 2))))))
  (a9 (bL (i9 wap waA waH cN (pv 5) (aF (fv rfl (ax ["homes"] [4]) (ax ["homes"] [4]) ⋯ (aM (pv 7)) (λ_ _ _ _ _ _=>fZ (fX (gU (K:=K) rfl) (pv 1) (pv 2) rfl)) (λ_ _ _ _ _ _=>(cM (a8 (pv 0) (aF (EK (K:=K) rfl wap wcy wf6 (D1 (K:=K) rfl) (pv 2) (aF (pv 1))))))))))))))
  (a9 (aw (jh L.uj (fG L) (hr.mono ⋯) rfl L.xC L.ez.b .nil lX (a8 (pv 4) (a8 (bV rfl (ax ["weights"] [3]) (aM (pv 4)) (λ_ _ _ _ _ _=>bb) (λ_ _ _ _ _ _=>(cJ hu (pv 1) (pv 0) (λ_ _=>rfl)))) (aF (pv 5))))))))))),?_}
 ac_rfl
 obtain⟨ra,rb,rc,rd,re⟩:=id DZ
 have DY:g.length^n<=64:=by
  rw[wae]at re;have:((g.length^n:Nat):Int)<=64:=by rw[wbT];exact re
  lia
 have zz:ls.length<=900:=wa0 B.lv.sub.length_le B4;refine{_,rfl,_,rfl,_,rfl,x,many,n,g,ws,ss,ls,rfl,B,C4,DZ,?_};obtain⟨⟨dx,b,d0,q,mv,h1,h2,h3,h4,h5,h6⟩,pm,_,_⟩:=id B;refine{_,rfl,x,dx,_,rfl,h1,GD _ _ _ _ ∅ ∅ ∅ ∅,x,g,ws,ss,ls,rfl,B,λlv H1 s1 f1 hv=>?_};refine{lv,rfl,{_,aK.of hv},λR JO=>?_};refine di (λv=>match v with |.str p=>decide (0<f p) |_=>false) (λv=>v) (aL K lv (ls.map V.str)) JO (by rw[ZI];exact ay (by lia)) (λH' s'=>aK.of (s' _ _ hv)) (λz I Q' hz s2 X=>?_) (λz I Q' hz _ s2 X=>{_,rfl,X I (a7.refl _)}) (λI s2 hh=>?_)
 .obtain⟨p,hp,rfl⟩:=ZR.mp hz;have g3:=eK.rd (k:=(wac p:Key)) (hd.same (s1.trans s2));rw[dm,hw p hp]at g3;have q2:Q' (decide (0<f p)) I:=X I (a7.refl _);exact{_,rfl,_,rfl,d,_,rfl,g3,_,_,rfl,rfl,_,rfl,q2}
 have Wb:((ls.map V.str).filter (λv=>match v with |.str p=>decide (0<f p) |_=>false)).map (λv=>v)=(au ls f).map V.str:=by
  rw[wdo,we9];rfl
 rw[Wb]at hh;have Tc:(au ls f).length<=900:=wa0 (waT _ _) zz;have NX:∀p∈au ls f,p∈ls:=λp hp=>(wa6.mp hp).1;have JP:=s1.trans s2;refine{wal _,λu C=>?_};have sb:a7 I (upd I u (.lst [])):=a7.upd C;have Y:(upd I u (.lst [])) u=some (.lst []):=a6;generalize upd I u (.lst [])=Hb at sb Y;have Wc:R≠u:=af hh C
 refine{_,rfl,R,rfl,{_,aK.of (sb _ _ hh)},dJ (K:=K) (a:=R) (xs:=(au ls f).map V.str) (λj σ H3=>∃(v6 v7:Option V) (as:List V),σ=[some (.ref x),some (.int many),some (.int (n:Int)),some (.ref d),some (.ref R),some (.ref u),v6,v7]/\H3 u=some (.lst as)/\(∀c o,Hb c=some o->c≠u->H3 c=some o)/\aO K (aG Hb H3) (((au ls f).take j).map λp=>bG (fS g ws ss ls n (au ls f) p)) as)
  {none,none,[],rfl,Y,λc o e _=>e,rfl} (λj σ H3 _ {_,_,_,_,_,kk,_}=>aK.of (kk _ _ (sb _ _ hh) Wc)) ?_ ?_}
 .rintro j y σ H3 hy ⟨v6,v7,as,rfl,QX,kk,hR⟩;obtain⟨p,M7,rfl,hj,B5,nC⟩:=gi hy;have J:a7 I H3:=λc o e=>kk _ _ (sb _ _ e) (af e C);have B3:=B.same (JP.trans J);refine{_,rfl,_,rfl,_,rfl,x,p,n,g,ws,ss,ls,rfl,B3,NX p B5,by lia,by lia,GK,C4,λlb rb S D f4 R4=>?_};have G:=D _ _ QX;have JN:=dP g ws ss ls n p
  have T8:as.length=j:=by
   rw[hR.len,ZI,wa5]
   lia
  refine{_,rfl,.inl {rfl,_,aK.of G},_,rfl,lb,rfl,{_,aK.of R4.l},λlc J4=>?_};have M:S R=some (.lst ((au ls f).map V.str)):=D _ _ (J _ _ hh);refine lS (prs:=(aN g ws ss ls n p).map nW) (λq=>nK q.2 ((au ls f).map V.str)) (λq=>.tup [.at q.1,.at (.int (match q.2 with |.str e=>((au ls f).idxOf e:Nat) |_=>0))]) (aL K lb (rb.map V.ref)) (by rw[ZI,ZI,R4.len]) (λi q T=>?_) J4 (by rw[ZI,R4.len];exact ay (by lia)) (λH' s'=>aK.of (s' _ _ R4.l)) (λq O Q' T U X=>?_) (λq O Q' T Wd U X=>?_) (λO U r5=>?_)
  .have hi:i<rb.length:=by have:=(ZO.mp T).1;rw[ZI,<-R4.len]at this;exact this
   rw[ZM]at T
   cases e:(aN g ws ss ls n p)[i]? with
   |none=>rw[e]at T;cases T
   |some z=>
    rw[e]at T;cases T;refine{rb[i],by rw[ZM,ZJ hi];rfl,fJ.of (R4.t.2 i rb[i] (km z) (ZJ hi) (by rw[ZM,e];rfl))}
  .obtain⟨z,hz,rfl⟩:=ZR.mp T;exact{_,rfl,_,rfl,R,_,rfl,.inl (aK.of (U _ _ M)),rfl,dX _,_,rfl,X O (a7.refl _)}
  .obtain⟨z,hz,rfl⟩:=ZR.mp T
   have hm:z.2∈au ls f:=by
    have:nK (.str z.2) ((au ls f).map V.str)=true:=Wd;rw[iL]at this;exact of_decide_eq_true this
   obtain⟨i1,i2⟩:=pG hm;refine{_,rfl,_,rfl,.inl {rfl,_,aK.of (U _ _ M)},_,rfl,R,au ls f,z.2,(au ls f).idxOf z.2,rfl,rfl,aK.of (U _ _ M),by lia,i1,i2,by show 2<=sizeLine;decide,λr hr=>?_};exact X _ _ (a7.upd hr) (ky hr (z.1,(au ls f).idxOf z.2))
  have el:((((aN g ws ss ls n p).map nW).filter λq=>nK q.2 ((au ls f).map V.str)).map λq=>gL.tup [.at q.1,.at (.int (match q.2 with |.str e=>((au ls f).idxOf e:Nat) |_=>0))])=(fS g ws ss ls n (au ls f) p).map gj:=by
   unfold fS;rw[we9,ZV,ZV]
   have ep:((λq:V×V=>nK q.2 ((au ls f).map V.str)) ∘ nW)=λq:Str×Str=>decide (q.2∈au ls f):=by
    funext q;exact iL q.2 _
   rw[ep];rfl
  rw[el]at r5;refine{u,_,_,rfl,rfl,U _ _ G,by rw[T8];exact waI (show j<=900 by lia) (by rw[wbF];decide),?_};have NY:=D.trans U;have Td:=U _ _ G;have kp:∀c o,O c=some o->c≠u->(upd O u (.lst (as++[.ref lc]))) c=some o:=λc o e hc=>by rw[ae hc];exact e
  refine{_,_,as++[.ref lc],rfl,a6,λc o e hc=>kp _ _ (NY _ _ (kk c o e hc)) hc,?_};rw[nC,wa1];refine gM (aO.same ((gR NY).trans (bN Y kp)) _ _ hR) ?_
  have old:a7 (aG S O) (aG Hb O):=λc o e=>by
   unfold aG at e ⊢
   cases q:Hb c with
   |none=>
    cases q2:S c with
    |none=>rw[q2]at e;exact e
    |some z=>rw[q2]at e;cases e
   |some z=>
    by_cases hc:c=u
    .rw[hc,G]at e;cases e
    .rw[D _ _ (kk _ _ q hc)]at e;cases e
  exact b7.same (old.trans (bN Y kp)) _ _ r5
 .rintro σ H3 ⟨v6,v7,as,rfl,QX,kk,hR⟩;rw[ZI,wam]at hR;have J:a7 I H3:=λc o e=>kk _ _ (sb _ _ e) (af e C);have Z:=JP.trans J;have NZ:=J _ _ hh;refine{_,rfl,_,rfl,R,rfl,{_,aK.of NZ},λlw JQ=>?_};refine comp_map (Hf f) (aL K R ((au ls f).map V.str)) JQ (by rw[ZI];exact ay (by lia)) (λH' s'=>aK.of (s' _ _ NZ)) (λz S Q' hz D X=>?_) (λS D O0=>?_)
  .obtain⟨p,hp,rfl⟩:=ZR.mp hz;have g3:=eK.rd (k:=(wac p:Key)) (hd.same (Z.trans D));rw[dm,hw p (NX p hp)]at g3;exact{_,rfl,_,rfl,d,_,rfl,g3,X S (a7.refl _)}
  rw[pq]at O0;have G:=D _ _ QX;have We:=D _ _ NZ;refine{_,rfl,λy dy ny QY Wf=>?_};have sm:a7 S (upd (upd S dy (.own y)) y (.ins L.av dy [])):=dn ny QY;refine{y,dy,.ref R,.ref lw,.ref u,au ls f,(au ls f).map f,bz g ws ss ls n (au ls f),rfl,a6,og (sm _ _ We),iU (sm _ _ O0),?_,by lia,by rw[ZI];lia,by unfold bz;rw[ZI];lia,?_,λa' b' c' O QZ r1 r2 r3 Wg=>{rfl,?_}}
  .have Wh:aO K S ((au ls f).map λp=>bG (fS g ws ss ls n (au ls f) p)) as:=aO.same ((aX _ _).trans D) _ _ hR;refine{u,as,rfl,.inl (sm _ _ G),?_}
   have e:(bz g ws ss ls n (au ls f)).map bG=(au ls f).map λp=>bG (fS g ws ss ls n (au ls f) p):=by
    unfold bz;rw[ZV];rfl
   rw[e];exact aO.same sm _ _ Wh
  .intro l hl;obtain⟨p,_,rfl⟩:=ZR.mp hl;have:=Ap g ws ss ls n (au ls f) p
   lia
  .have U:a7 S O:=λc o e=>Wg _ _ (sm _ _ e) (af e ny);refine k y O (Z.trans (D.trans U)) ?_;have Ra:H y=none:=none_of (Z.trans D) ny;have nw:=λ(d:gL) (v:V) (r:b7 K (aG _ O) d v)=>b7.same (ee ((Z.trans D).trans sm)) d v r;exact{dy,a',b',c',bR Ra QZ,nw _ _ r1,nw _ _ r2,nw _ _ r3}
theorem jZ(L:Lk K mg):aQ P w K mg base cI 4 L.kF L.kT ["sheet"] (FK K L.av):=by
 refine L.hO.F.dF (N:=["sheet"]) (λz A outer s H Z Q E nd B h=>?_);obtain⟨x,hs,ws,lns,rfl,S,n1,C,D,G,k⟩:=h;refine{_,(a9 (aw (jh L.uj (fG L) (B.mono ⋯) rfl L.xC L.ez.b .nil lX (a8 (aC (pv 0) rfl) (a8 (aC (pv 0) rfl) (aF (aC (pv 0) rfl))))))),?_}
 ac_rfl
 obtain⟨j,g,bw,cl,l,I,m,J⟩:=id S;refine{_,rfl,x,L.av,j,_,_,rfl,l,L.ao.cl,L.ao.dH,cz g bw cl,_,rfl,x,L.av,j,_,_,rfl,l,L.ao.cl,L.ao.bK,bM g bw cl,_,rfl,x,L.av,j,_,_,rfl,l,L.ao.cl,L.ao.cf,bj g bw cl,?_};intro y i n p M;have sm:a7 H (upd (upd H i (.own y)) y (.ins L.av i [])):=dn n p;refine{y,i,.ref g,.ref bw,.ref cl,hs,ws,lns,rfl,a6,b7.same sm _ _ I,b7.same sm _ _ m,b7.same sm _ _ J,n1,C,D,G,λO R T a d U X Y f=>{rfl,?_}};have q:a7 H a:=λc o e=>f _ _ (sm _ _ e) (af e n);have t:=λ(u:gL) (v:V) (r:b7 K (aG _ a) u v)=>b7.same (ee sm) u v r;exact k y a q {i,O,R,T,bR n d,t _ _ U,t _ _ X,t _ _ Y}
theorem iF(L:Lk K mg):aQ P w K mg base cI 5 L.ou L.oK ["self"] (Dc K L.aE L.av):=by
 refine L.gH.F.dF (N:=["self"]) (λd A outer s H p Q E nd q h=>?_);obtain⟨x,m,cp,ks,hs,ws,lns,rfl,⟨e,a,b,c,z,f,ha,r,hc,S⟩,n1,g,i,j,k⟩:=h;refine{_,(a9 (aw (aj (jZ L) L.hO (aF (aC (pv 0) rfl))))),?_}
 ac_rfl
 exact{_,rfl,x,L.aE,e,_,_,rfl,f,L.aR.cl,L.aR.Ay,tu a b c z,z,hs,ws,lns,rfl,S,n1,g,i,j,λy l n o=>k y l n o}
theorem eS(L:Lk K mg):aQ P w K mg base cI 1 L.kK L.kZ ["self","desk"] (Gh K L.ak L.aA L.aE):=by
 refine L.dU.F.dF (N:=["self","desk"]) (λG A outer s H vs Q E nd f h=>?_);obtain⟨x,R,d,rfl,⟨⟨I,p,xb,a,l,dp,wa,wb,wc,wz,ys,J,_,_,_,hl,_⟩,ok⟩,hd,k⟩:=h;refine{_,(a9 (aw (fv rfl (ax [] []) (ax [] []) ⋯ (aM (b5 b9 (aC (pv 0) rfl) (pv 1) (λ_ _=>rfl))) (λ_ _ _ _ _ _=>bb) (λ_ _ _ _ _ _=>(cM (a8 (pv 0) (aF (pv 1)))))))),?_}
 ac_rfl
 obtain⟨l',M,O,g,j⟩:=id hl;cases O;have c:=du hd;obtain⟨v,m,rd⟩:=j.at (i:=d) (d:=bG (R.wl.getD d [])) (by rw[ZM,c];rfl);have S:=ok.w.ln _ (ZT c);have m8:=ok.m8;obtain⟨y,T,rfl,B,b,U⟩:=js rd;have n:=b;rw[ZI]at n;refine{_,rfl,x,L.ak,I,_,_,rfl,J,L.ag.cl,L.ag.cf,yW ..,_,rfl,l,M,_,_,rfl,rfl,.inl g,bq m,y,rfl,{_,B},λV e=>?_};refine ux (prs:=(R.wl.getD d []).map eA) (λ_=>true) (λq=>.tup [.at q.1,.at q.2]) (aL K y T) b (λi q c=>let ⟨r,X,Y⟩:=U i q c;{r,X,fJ.of Y}) e (ay (by lia)) (λC o=>o.seq B) (λq D Z _ _ t=>t D (a7.refl _)) (λq D Z c _ s3 t=>?_) (λC u o h' r=>?_)
 .obtain⟨z,hz,rfl⟩:=ZR.mp c;exact{_,rfl,_,rfl,by show 2<=sizeLine;decide,λr f=>t _ _ (a7.upd f) (ky f z)}
 .rw[waD.mpr (λ_ _=>rfl),ZV]at r;exact k V u C o r e h'
theorem rH.same(h:rH K C CB g j H x p)(s:a7 H l):rH K C CB g j l x p:=by
 obtain⟨a,q⟩:=h.t;exact{h with w:=h.w.same s,t:={a,q.same s}}
theorem mJ(L:Lk K mg):aQ P w K mg base cI 1 L.oB L.oS ["_law_row","_law_words"] (L1 K):=by
 have T:=L.T;refine L.jB.F.dF (N:=["_law_row","_law_words","_law_size","_law_end"]) (λU A outer s H vs Q E nd hr h=>?_);obtain⟨r,a,ws,ss,rfl,O,pm,b,X,R,Y,k⟩:=h
 refine{_,(a5 (forA (DG rfl T.range (a8 (aI (pC rfl) (by rfl) T.min HK (a8 (AX T.len (pv 0)) (aF aq))) (a8 aq (aF (Jq ED aq))))) (az (i:=2)) (a5 (ai (i:=3) (df sR (pv 0) (cW (aS mU (AX T.len (pv 0)) (pv 2))) gD))
  (a9 (bp (bB (aI (nQ rfl) (by rfl) T.any HI (aF (bV rfl (ax ["_law_size","_law_end"] [2,3]) (aM (pv 1)) (λ_ _ _ _ _ _=>bb) (λ_ _ _ _ _ _=>(sS (cV kl (AX T.len (pv 0)) (pv 1) (gp _)) (sG (cV nM (df sR (pv 0) gD (cW (pv 1))) (pv 2) (gp _))))))))) (a9 (aw (pv 3))) aH))))
  (a9 (aw eE))),?_}
 ac_rfl
 obtain⟨M,Z,Z6,Z7,g⟩:∃M:Nat,(if (4:Int)<(r.length:Int) then(4:Int) else(r.length:Int))=(M:Int)/\M<=4/\M<=r.length/\r.length-M<=r.length-4:=by
  by_cases z:(4:Int)<(r.length:Int)
  .exact{4,if_pos z,(),(),()}
  .exact{r.length,if_neg z,(),(),()}
 refine{_,rfl,r,rfl,ay (),_,_,rfl,_,rfl,(M:Int),0,congrArg (λz=>[V.int z,.int 0,.int (-1)]) Z,{(),(),(),()},?_};rw[show ((M:Int)-0).toNat=M by omega];refine kj (xZ (M:Int) (-1) M) (λi σ t=>a7 H t/\(∃B C,σ=[some (.str r),some (.ref a),B,C])/\∀m,r.length-M<=m->m<r.length-M+i->jm ws (bD r m)=false) {a7.refl _,⟨none,none,rfl⟩,λm c u=>()} (λ_ _ _ _ _=>trivial) ?_ ?_
 .rintro i x σ t D ⟨d,⟨B,C,rfl⟩,f⟩
  have hi:i<M:=by
   have:=(ZO.mp D).1;rw[ZI,wau]at this;exact this
  have ex:x=.int ((M:Int)+(i:Int)*(-1)):=by
   rw[ZM,wgf hi]at D;exact(ZU D).symm
  rw[ex];obtain⟨sz,G⟩:∃sz:Nat,(M:Int)+(i:Int)*(-1)=(sz:Int):={M-i,()};rw[G];obtain⟨n,hn⟩:∃n,n=r.length-M+i:={_,rfl};have ec:(r.length:Int)-(sz:Int)=(n:Int):=();rw[<-hn]at f;have I:n<r.length:=();have dl:(bD r n).length=sz:=by rw[<-aJ,fm,waN,aJ];omega
  refine{_,rfl,_,rfl,r,rfl,ay (),_,rfl,_,_,rfl,rfl,_,rfl,r,rfl,ay (),?_};rw[ec];refine{_,rfl,a,rfl,{_,d.seq O},λl hl=>?_};refine comp_map (BL sz (bD r n)) (aL K a (ws.map V.str)) hl (by rw[ZI];exact ay ()) (λH' s'=>(d.trans s').seq O) (λy v Q' hy _ q=>?_) (λv S j=>?_)
  .obtain⟨w,hw,rfl⟩:=ZR.mp hy;have w5:=b w hw;refine{_,rfl,w,rfl,ay (),_,rfl,_,_,rfl,rfl,_,rfl,?_};refine zF (λc=>?_) (λc=>?_)
   .refine{_,rfl,_,rfl,_,rfl,w,rfl,ay (),_,rfl,rfl,?_};have o:=q v (a7.refl _)
    have J:BL sz (bD r n) (.str w)=.bl (decide (V.str (cH w sz)=V.str (bD r n))):=by
     show V.bl (decide ((w.length:Int)>(sz:Int))&&_)=_;rw[c,wcg]
    rw[J]at o;exact o
   .have o:=q v (a7.refl _)
    have J:BL sz (bD r n) (.str w)=.bl false:=by
     show V.bl (decide ((w.length:Int)>(sz:Int))&&_)=_;rw[wgN.mpr c,wcp]
    rw[J]at o;exact o
  rw[Az sz _ dl]at j;refine{l,_,rfl,aK.of j,?_};rw[wde];refine{_,rfl,?_};show if jm ws (bD r n)=true then _ else _
  refine zF (λu=>?_) (λu=>?_)
  .refine{_,rfl,?_};have e:=wg pm b R (n:=n) (n0:=r.length-M) g (we3 I) f (.inr u);have p:=k v (d.trans S);rw[e]at p;exact p
  .refine{d.trans S,{_,_,rfl},λm h0 c=>?_}
   by_cases z:m=n
   .rw[z];exact wgN.mpr u
   .exact f m h0 ()
 .rintro σ t ⟨d,⟨B,C,rfl⟩,f⟩;rw[ZI,wau]at f;have e:=wg pm b R (n:=r.length) (n0:=r.length-M) g (ZS _) (λm h0 c=>f m h0 ()) (.inl rfl);have p:=k t d;rw[e,gO]at p;exact p
end
end K40
namespace Sx
inductive DL(K:ZK)(C:Addr)(vs:List V)(H:Hp)(Q:VK)(eC:XK):Prop
 |mk (x:Addr) (d:Nat) (hs:List Str) (ws:List Int) (lns:List (List (Str×Nat))) (_:vs=[.ref x,.int (d:Int)]) (_:bQ K C H x hs ws lns) (_:d<lns.length) (_:(∀l∈lns,∀q∈l,q.2<lns.length)) (_:lns.getD d []≠[]) (_:lns.length<=1000) (_:∀(l:Addr) (rs:List Nat) (H':Hp),a7 H H'->H l=none->H' l=some (.lst ((nI rs).map V.int))->Reach lns rs->Q (.ref l) H')
inductive Go(K:ZK)(C CP CS CX CO:Addr)(vs:List V)(H:Hp)(Q:VK)(E:XK):Prop
 |mk (x:Addr) (many:Int) (n:Nat) (g:Str) (bw ss ls:List Str) (_:vs=[.ref x,.int many,.int (n:Int)]) (_:aT C H x g bw ss ls) (_:(∀w∈bw,1<=w.length)) (_:(ch g).Nodup) (_:2<=g.length) (_:g.length<=10) (_:ss.length<=900) (_:eU g.length many n) (_:(D4 g bw ss many n->∀(y:Addr) (f0 f:Str->Int) (cp:List rV) (ks:List Nat) (hs:List Str) (ws:List Int) (lns:List (List (Str×Nat))) (H':Hp),a7 H H'->kz K CP CS (aG H H') y (bE f ls) cp ks hs ws lns->rY g bw ss ls many n f0->(∀p∈ls,f p<=f0 p)->fF g bw ss ls many n f cp ks hs ws lns->Q (.ref y) H')) (_:Qo CX g bw ss many n H E) (_:(D4 g bw ss many n->xr g bw ss ls many n->∀H',a7 H H'->E (.ref CO) none H'))
inductive Gp(K:ZK)(vs:List V)(H:Hp)(Q:VK)(eC:XK):Prop
 |mk (v:V) (d:Nat) (a:Addr) (many:Int) (n:Nat) (wl:List (List (Str×Nat))) (ts:List Nat) (_:vs=[v,.int (d:Int),.ref a]) (_:b7 K H (fT wl) v) (_:aK K H a ((nI ts).map V.int)) (_:IM many n wl) (_:d<wl.length) (_:(∀t∈ts,(t:Int)<many)) (_:ts.length<=100000) (_:n<=10) (_:∀p H',a7 H H'->H' p=some (.tup [.str (cQ wl d ts).1,.int ((cQ wl d ts).2:Int)])->Q (.ref p) H')
inductive DM(K:ZK)(C CB CP CS CX CO:Addr)(vs:List V)(H:Hp)(Q:VK)(E:XK):Prop
 |mk (x dx xb:Addr) (many:Int) (n:Nat) (g:Str) (bw ss ls:List Str) (_:vs=[.ref x,.ref xb,.int many,.int (n:Int)]) (_:H x=some (.ins C dx [])) (_:aT CB H xb g bw ss ls) (_:(∀w∈bw,1<=w.length/\w.length<=900)) (_:bw.length<=1000) (_:("":Str)∈ss) (_:(ch g).Nodup) (_:2<=g.length) (_:g.length<=10) (_:ss.length<=900) (_:eU g.length many n) (_:(D4 g bw ss many n->∀(p a l:Addr) (f0 f:Str->Int) (cp:List rV) (ks:List Nat) (hs:List Str) (ws:List Int) (lns:List (List (Str×Nat))) (b:Nat) (H':Hp),(∀c o,H c=some o->c≠x->H' c=some o)->H' x=some (.ins C dx (lU p xb many (n:Int) a l (cQ (dg lns ks many.toNat) 0 (wag b 0)).1 ((cQ (dg lns ks many.toNat) 0 (wag b 0)).2:Int)))->kz K CP CS (aG H H') p (bE f ls) cp ks hs ws lns->b7 K (aG H H') (jK (ks.map λd=>hs.getD d "")) (.ref a)->b7 K (aG H H') (fT (dg lns ks many.toNat)) (.ref l)->rY g bw ss ls many n f0->(∀p∈ls,f p<=f0 p)->fF g bw ss ls many n f cp ks hs ws lns->IM many n (dg lns ks many.toNat)->iT bw n b->Q .non H')) (_:Qo CX g bw ss many n H E) (_:(D4 g bw ss many n->xr g bw ss ls many n->∀H',a7 H H'->E (.ref CO) none H'))
inductive J5(K:ZK)(C CB CP CS:Addr)(vs:List V)(H:Hp)(Q:VK)(eC:XK):Prop
 |mk (g:Str) (a:Addr) (many:Int) (n:Nat) (bw:List Str) (_:vs=[.str g,.ref a,.int many,.int (n:Int)]) (_:aK K H a (bw.map V.str)) (_:vT g) (_:bw.length<=6) (_:(∀w∈bw,uP g w)) (_:eU g.length many n) (_:∀(v:V) (H':Hp),a7 H H'->(v=.non\/∃x,v=.ref x/\Lz K C CB CP CS H' x g bw many n)->Q v H')
end Sx
namespace L2
open PySem.Spec PyProof.Rows
section
variable{X:Cx}{pins:List (Addr×Obj)}{σ:St}{H:Hp}{s:Shared}{A:Around}
theorem LJ(I:Inv X pins σ H s){a b:Addr}{p q:Str×Nat}(l:A.units<wbf)(ha:H a=some (.tup (pQ p)))(g:H b=some (.tup (pQ q))):wdu A s (.ref a) (.ref b) (decide (p=q)):=by
 by_cases e:a=b
 .subst e;rw[ha]at g;rw[decide_eq_true (Eg (HO.tup.inj (ZU g)))];exact we2 _
 .obtain⟨k,m,n,_⟩:=I.tuple (fJ.of ha);obtain⟨d,o,r,_⟩:=I.tuple (fJ.of g);obtain⟨f,h,rfl,t,u⟩:=Jm m;obtain⟨v1,i,rfl,v,w⟩:=Jm o
  have R:=wgM (A:=A) (e:=λj=>if j=0 then k9 (.str p.1) (.str q.1) else k9 (.int (p.2:Int)) (.int (q.2:Int))) n r l (λj x y=>by
   have c:j<2:=x
   match j,c with
   |0,_=>exact kc t v rfl rfl
   |1,_=>exact kc u w rfl rfl)
  refine wep e ?_
  have z:((wak (min #[f,h].size #[v1,i].size)).all (λj=>if j=0 then k9 (.str p.1) (.str q.1) else k9 (.int (p.2:Int)) (.int (q.2:Int))) && #[f,h].size == #[v1,i].size)=decide (p=q):=by
   show ((if 0=0 then k9 (.str p.1) (.str q.1) else _)&&((if 1=0 then _ else k9 (.int (p.2:Int)) (.int (q.2:Int)))&&true)&&true)=_;rw[if_pos rfl,if_neg ⋯,wg5,wg5];show (decide (p.1=q.1)&&decide ((p.2:Int)=(q.2:Int)))=_;rw[<-Bool.decide_and,decide_eq_decide,Prod.ext_iff];exact and_congr_right λ_=>{whp,λz=>by rw[z]}
  exact z ▸ R
end
section
variable{X:Cx}
theorem C6{g:List (Addr×Obj)}{σ:St}{H:Hp}{s:Shared}{A:Around}(I:Inv X g σ H s){r:Addr}{q:Str×Nat}{e:Value->Bool}(l:A.units<wbf)(he:∀c p,H c=some (.tup (pQ p))->e (.ref c)=decide (p=q))(t:H r=some (.tup (pQ q))){j:List Addr}{prs:List (Str×Nat)}(C:bu H j (prs.map pQ)):∀y∈j.map ZY,wdu A s y (.ref r) (e y):=λy a=>by
 obtain⟨c,hc,rfl⟩:=ZR.mp a;obtain⟨d,b,h⟩:=C.mem hc;obtain⟨p,_,rfl⟩:=ZR.mp b;rw[he c p h];exact LJ I l h t
theorem DN(g:X.A.units+1<wbf):jc X (waE .NotIn) (PB X.K):=by
 intro a s σ H x y v u Q I f i h;obtain⟨r,l,b,j,q,rfl,rfl,m,hl,c,k⟩:=h;cases f;cases i;obtain⟨n,o,pl,p⟩:=I.list hl;obtain rfl:=ph o;obtain⟨e,d⟩:=JE H q;refine wgn e pl.isList (λw hw=>C6 I (A:=X.A.in1) g d m c w (by simpa using hw)) {.bl _,H,I,rfl,?_};rw[show (b.map ZY).toArray.any e=(b.map ZY).any e by simp,(Ep d c).2];exact k
theorem DP(j:X.A.units+1<wbf):Hh X "list.count" (λx xs H Q=>∃(l:Addr) (g:List Addr) (r:Addr) (prs:List (Str×Nat)) (q:Str×Nat),x=.ref l/\xs=[.ref r]/\H r=some (.tup (pQ q))/\aK X.K H l (g.map V.ref)/\bu H g (prs.map pQ)/\Q (.int (prs.count q:Nat)) H):=by
 intro b s σ H x xs v B Q I i a h;obtain⟨l,g,r,prs,q,rfl,rfl,m,hl,c,k⟩:=h;cases i;obtain⟨u,rfl,o⟩:=a.one;cases o;obtain⟨p,t,pl,C⟩:=I.list hl;obtain rfl:=ph t;obtain⟨e,d⟩:=JE H q;obtain⟨⟨cls,w,data,sl⟩,f,hc,n,hd⟩:=pl.isList;simp only at hc hd;subst hc hd;refine wd0 wf7 {_,f,rfl} PySem.F.entry_list_count (PySem.F.args_list_count_2 _ _) (PySem.SeqAt.list_countAt l (g.map ZY).toArray n w sl (.ref r) e) {f,λy z=>?_,?_}
 .exact C6 I j d m c y (by simpa using z)
 .refine{.int _,H,I.tok _,{_,rfl},?_};rw[show ((g.map ZY).toArray.toList.countP e)=prs.count q by simpa using(Ep d c).1];exact k
end
end L2
namespace K40
section
variable{P:wad}{w:World}{K:ZK}{mg:Str->Option Value}{base:Heap}
local macro_rules|`(tactic|ac_rfl)=>`(tactic|try dsimp only[cZ,d1,b0,b4])
theorem rK(L:Lk K mg):aQ P w K mg base cI 1 L.kG L.kU ["sheet","desk"] (DL K L.av):=by
 have T:=L.T;refine L.lB.F.dF (N:=["sheet","desk","reached","waiting","line","word","end"]) (λgn A outer s H vs Q E nd m h=>?_);obtain⟨x,d,hs,ws,lns,rfl,S,hd,he,zy,hn,k⟩:=h;have hu:=eY m
 refine{_,(a5 (ai (i:=2) eL)
  (a5 (ai (i:=3) (cC (aF (pv 1))))
  (a5 (iN wcH (cD kl (AY T.len (pv 3)) aq) (a5 (ai (i:=4) (b5 b9 (aC (pv 0) rfl) (zZ wap wgt PySem.F.type_list_pop Ky (pv 3)) (λ_ _=>rfl)))
  (a9 (forA (aM (pv 4)) (fj rfl (aU (az (i:=5)) (aU (az (i:=6)) dG))) (a9 (bp (zO (vI hu (pv 6) (pv 2))) (a5 (eQ hu (pv 2) (pv 6) da rfl)
  (a9 (bL (i9 wap waA waH cN (pv 3) (aF (pv 6)))))) aH))))))
  (a9 (aw (bg (mX rfl) (by rfl) T.list gA (aF (pv 2)))))))),?_}
 ac_rfl
 obtain⟨dx,ah,bw,cl,hx,rh,DW,rl⟩:=id S;obtain⟨M6,xs,ec,hc,xR⟩:=id rl;cases ec;have xl:xs.length=lns.length:=by rw[xR.len,ZI]
 refine λrd Rb=>?_;refine{_,rfl,by show 1<=sizeLine;decide,λwl Ax=>?_};have I:rd≠wl:=af a6 Ax;have s0:a7 H (upd (upd H rd (.dK [])) wl (.lst [.int (d:Int)])):=(a7.upd Rb).trans (a7.upd Ax);have Te:(upd (upd H rd (.dK [])) wl (.lst [.int (d:Int)])) rd=some (.dK (dB [])):=by rw[ae I,a6];rfl
 have Tf:(upd (upd H rd (.dK [])) wl (.lst [.int (d:Int)])) wl=some (.lst ((nI [d]).map V.int)):=a6;have Tg:H wl=none:=none_of (a7.upd Rb) Ax;generalize upd (upd H rd (.dK [])) wl (.lst [.int (d:Int)])=H0 at s0 Te Tf
 refine{λq σ X=>∃(c Y:List Nat) (v4 J v6:Option V),q=2*(lns.length-c.length)+Y.length/\σ=[some (.ref x),some (.int (d:Int)),some (.ref rd),some (.ref wl),v4,J,v6]/\a7 H X/\X rd=some (.dK (dB c))/\X wl=some (.lst ((nI Y).map V.int))/\c.Nodup/\(∀r∈c,r<lns.length)/\(∀w∈Y,w<lns.length)/\(∀r∈c,r∉Y->∀q∈lns.getD r [],q.2∈c)/\(d∉Y->∀q∈lns.getD d [],q.2∈c)/\Y.length<=c.length+1,
  {_,[],[d],none,none,none,rfl,rfl,s0,Te,Tf,wco,λr h=>absurd h wbA,λw h=>by rw[wa4.mp h];exact hd,λr h=>absurd h wbA,λh=>absurd (wa4.mpr rfl) h,ZS _},?_}
 rintro q σ X ⟨c,Y,v4,J,v6,rfl,rfl,s3,OT,M,nd,Rc,Th,Z,OJ,O⟩;have C5:=kB nd Rc
 by_cases Ti:Y=[]
 .subst Ti;refine{_,rfl,wl,_,rfl,.inl (aK.of M),_,_,rfl,rfl,false,rfl,bo ?_};refine{_,rfl,rd,_,rfl,OT,λl hl=>?_};rw[HC];refine k l c _ (s3.trans (a7.upd hl)) (none_of s3 hl) a6 {λr m=>Z r m wbA,Rc,λz=>?_,nd}
  cases e:lns.getD d [] with
  |nil=>exact zy e
  |cons q qs=>
   have:=OJ wbA q (by rw[e];exact ZZ ..);rw[z]at this;cases this
 obtain⟨z,n,rfl,hz,Ge⟩:=HD Ti;refine{_,rfl,wl,_,rfl,.inl (aK.of M),_,_,rfl,rfl,true,congrArg V.bl (decide_eq_true (by rw[ZI,cO,ZP];show (0:Int)<((_+1:Nat):Int);lia)),eJ ?_};have Wi:z<lns.length:=Th z (war _ (wa4.mpr rfl));have Tj:lns[z]?=some (lns.getD z []):=by rw[ZL,ZJ Wi];rfl
 have QJ:∀q∈lns.getD z [],q.2<lns.length:=he _ (ZT Tj);obtain⟨v,LI,Rf⟩:=xR.at (i:=z) (d:=bG (lns.getD z [])) (by rw[ZM,Tj];rfl);obtain⟨a,rr,rfl,hS,hT⟩:=dA Rf;have T1:rr.length=(lns.getD z []).length:=by rw[hT.1,ZI,ZI]
 refine{λσ' H'=>∃(ad:List Nat) (J v6:Option V),σ'=[some (.ref x),some (.int (d:Int)),some (.ref rd),some (.ref wl),some (.ref a),J,v6]/\a7 H H'/\H' rd=some (.dK (dB (c++ad)))/\H' wl=some (.lst ((nI (n++ad)).map V.int))/\(c++ad).Nodup/\(∀r∈c++ad,r<lns.length)/\(∀q∈lns.getD z [],q.2∈c++ad),?_,?_}
 .rintro σ' H' ⟨ad,J,v6,rfl,s',Wj,Wk,Tl,FV,f⟩;have O1:=kB Tl FV;rw[ZP]at O1;refine{_,?_,c++ad,n++ad,_,J,v6,rfl,rfl,s',Wj,Wk,Tl,FV,λw hw=>?_,λr m R q G=>?_,λR q G=>?_,?_}
  .rw[ZP,ZP,ZP];show _<2*(lns.length-c.length)+(n.length+1)
   lia
  .rcases waj.mp hw with hw |hw
   .exact Th w (waG _ hw)
   .exact FV w (war _ hw)
  .rcases waj.mp m with m |m
   .by_cases u:r=z
    .rw[u]at G;exact f q G
    .refine waG _ (Z r m (λj=>?_) q G);rcases waj.mp j with j |j
     .exact R (waG _ j)
     .exact u (wa4.mp j)
   .exact absurd (war _ m) R
  .by_cases u:d=z
   .rw[u]at G;exact f q G
   .refine waG _ (OJ (λj=>?_) q G);rcases waj.mp j with j |j
    .exact R (waG _ j)
    .exact u (wa4.mp j)
  .rw[ZP]at O;rw[ZP,ZP];have:n.length+1<=c.length+1:=O
   lia
 refine{_,rfl,x,L.av,dx,_,_,rfl,s3 _ _ hx,L.ao.cl,L.ao.cf,bj ah bw cl,_,rfl,.inl {rfl,_,aK.of M},wl,_,_,rfl,rfl,M,hz,?_};rw[Ge];have s4:a7 H (upd X wl (.lst ((nI n).map V.int))):=λb o e=>by rw[ae (af e Tg)];exact s3 _ _ e
 have JM:(upd X wl (.lst ((nI n).map V.int))) rd=some (.dK (dB c)):=by rw[ae I];exact OT
 have O0:(upd X wl (.lst ((nI n).map V.int))) wl=some (.lst ((nI n).map V.int)):=a6;generalize upd X wl (.lst ((nI n).map V.int))=H4 at s4 JM O0;refine{cl,xs,_,_,rfl,rfl,s4.seq (.inl hc),bq LI,?_};refine{_,rfl,a,rfl,{_,s4.seq hS},dJ (K:=K) (a:=a) (xs:=rr.map V.ref) (QE lns c n x rd wl a d z H) {[],_,_,rfl,s4,by rw[waL];exact JM,by rw[waL];exact O0,by rw[waL];exact nd,by rw[waL];exact Rc,λq G=>by rw[wfN]at G;cases G} (λi σ H5 _ q=>q.s.seq hS) ?_ ?_}
 .rintro i y σ H5 hy ⟨ad,J,v6,rfl,s5,B,U,C,D,f⟩;have hi:i<rr.length:=by have:=(ZO.mp hy).1;rwa[ZI]at this
  have Rg:i<(lns.getD z []).length:=by lia
  rw[ZM,ZJ hi]at hy;cases hy;have NS:H rr[i]=some (.tup [.str (lns.getD z [])[i].1,.int ((lns.getD z [])[i].2:Int)]):=hT.2 i rr[i] (jG (eA (lns.getD z [])[i])) (ZJ hi) (by rw[ZM,ZM,ZJ Rg];rfl);have NW:(lns.getD z []).take (i+1)=(lns.getD z []).take i++[(lns.getD z [])[i]]:=by rw[waw,ZJ Rg];rfl
  have JH:=QJ _ (wah Rg);generalize (lns.getD z [])[i]=q at NS NW JH;have Wl:=kB C D;refine{rr[i],_,rfl,fJ.of (s5 _ _ NS),rfl,_,_,rfl,_,_,rfl,rfl,?_};have g:=eK.k (k:=(waQ (q.2:Int):Key)) B;rw[A9]at g
  by_cases j:q.2∈c++ad
  .rw[if_pos j]at g;refine{_,rfl,_,rfl,rd,_,rfl,g,false,rfl,bo ?_};refine{ad,_,_,rfl,s5,B,U,C,D,λp t=>?_};rw[NW]at t;rcases waj.mp t with t |t
   .exact f p t
   .rw[wa4.mp t];exact j
  .rw[if_neg j]at g;refine{_,rfl,_,rfl,rd,_,rfl,g,true,rfl,eJ ?_};refine{_,rfl,_,rfl,rd,_,rfl,kh.k (k:=waQ (q.2:Int)) B (bO (by unfold dB;rw[ZI];lia)),?_};rw[KB j];have Tn:(upd H5 rd (.dK (dB (c++ad++[q.2])))) wl=some (.lst ((nI (n++ad)).map V.int)):=by rw[ae I.symm];exact U
   refine{_,rfl,.inl {rfl,_,aK.of Tn},_,rfl,wl,_,_,rfl,rfl,Tn,?_,?_}
   .rw[ZP]at O Wl;rw[ZI,cO,ZP];have:n.length+1<=c.length+1:=O;exact bO (by lia)
   refine{ad++[q.2],_,_,rfl,λb o e=>by rw[ae (af e Tg),ae (af e Rb)];exact s5 _ _ e,by rw[ae I,a6,waX],by rw[a6,<-waX,vO (n++ad),wa1];rfl,?_,λr m=>?_,λp t=>?_}
   .rw[<-waX];refine weG.mpr {C,by simp,λa ha b hb e=>?_};rw[wa4.mp hb]at e;rw[e]at ha;exact j ha
   .rw[<-waX]at m;rcases waj.mp m with m |m
    .exact D r m
    .rw[wa4.mp m];exact JH
   .rw[<-waX];rw[NW]at t;rcases waj.mp t with t |t
    .exact waG _ (f p t)
    .rw[wa4.mp t];exact war _ (wa4.mpr rfl)
 .rintro σ H5 ⟨ad,J,v6,rfl,s5,B,U,C,D,f⟩;rw[ZI,T1,wam]at f;exact⟨ad,J,v6,rfl,s5,B,U,C,D,f⟩
theorem DQ(L:Lk K mg):aQ P w K mg base cI 1 L.z7 L.za ["lines","desk","data"] (Gp K):=by
 refine L.zf.F.dF (N:=["lines","desk","data","row","thing","step"]) (λX A outer s H vs Q E nd hr h=>?_);obtain⟨v,d,a,many,n,wl,ts,rfl,Y,T,z,hd,m,Z,hn,k⟩:=h
 refine{_,(a5 (ai (i:=3) eE)
  (a5 (forA (aM (pv 2)) (az (i:=4)) (a5 (ai (i:=5) (b5 b9 (b5 b9 (pv 0) (pv 1) (λ_ _=>rfl)) (pv 4) (λ_ _=>rfl)))
  (a5 (sL (i:=3) nd rfl (wdg rfl) (b5 fO (pv 5) aq (λ_ _=>rfl)) Hr)
  (a9 (ai (i:=1) (b5 fO (pv 5) aq (λ_ _=>rfl)))))))
  (a9 (aw (cM (a8 (pv 3) (aF (pv 1)))))))),?_}
 ac_rfl
 obtain⟨cl,xs,rfl,hc,B⟩:=id Y;refine{_,rfl,a,rfl,{_,T},dJ (K:=K) (a:=a) (xs:=(nI ts).map V.int) (λi σ u=>∃(v4 C:Option V),σ=[some (.ref cl),some (.int ((cQ wl d (ts.take i)).2:Int)),some (.ref a),some (.str (cQ wl d (ts.take i)).1),v4,C]/\a7 H u) {none,none,rfl,a7.refl _} (λi σ u _ {_,_,_,c}=>c.seq T) ?_ ?_}
 .rintro i y σ u D ⟨v4,C,rfl,c⟩;have hi:i<ts.length:=by have:=(ZO.mp D).1;rwa[ZI,cO]at this
  have g:ts[i]?=some ts[i]:=ZJ hi;rw[tj g]at D;cases D;have G:=m _ (wah hi);have nC:ts.take (i+1)=ts.take i++[ts[i]]:=by rw[waw,g];rfl
  generalize ts[i]=t at g G nC;obtain⟨w1,w2⟩:=xG z hd (ts:=ts.take i) λx hx=>m x ((waB _ _).subset hx);have e:=wF wl d (ts.take i) t;rw[<-nC]at e;have I:=du w1;have GJ:=z.ln _ (ZT I);have J:=z.wd _ (ZT I);have M:ur wl (cQ wl d (ts.take i)) t=((cQ wl d (ts.take i)).1++((wl.getD (cQ wl d (ts.take i)).2 []).getD t ("",0)).1,((wl.getD (cQ wl d (ts.take i)).2 []).getD t ("",0)).2):=rfl;rw[M]at e;generalize cQ wl d (ts.take i)=O at *;obtain⟨v,R,rd⟩:=B.at (i:=O.2) (d:=bG (wl.getD O.2 [])) (by rw[ZM,I];rfl);generalize wl.getD O.2 []=f at *;obtain⟨b,j,rfl,hS,U⟩:=dA rd;have C5:j.length=f.length:=by rw[U.1,ZI,ZI]
  have l:t<f.length:=by lia
  have o:t<j.length:=by lia
  have r:H j[t]=some (.tup [.str f[t].1,.int (f[t].2:Int)]):=U.2 t j[t] (jG (eA f[t])) (ZJ o) (by rw[ZM,ZM,ZJ l];rfl);have eq:f.getD t ("",0)=f[t]:=by rw[ZL,ZJ l];rfl
  have S:=J _ (wah l);rw[eq]at e;generalize f[t]=q at *;refine{_,rfl,_,rfl,cl,xs,_,_,rfl,rfl,c.seq (.inl hc),bq R,_,rfl,b,_,_,_,rfl,rfl,c.seq hS,bq (v:=.ref j[t]) (by rw[ZM,ZJ o];rfl),?_};refine{_,rfl,_,rfl,j[t],_,_,_,rfl,rfl,fJ.of (c _ _ r),rfl,_,_,rfl,rfl,ay ?_,?_}
  .rw[w2,S,wa5];have h1:n*min i ts.length<=10*99999:=wfM hn (by lia)
   lia
  refine{_,rfl,j[t],_,_,_,rfl,rfl,fJ.of (c _ _ r),rfl,?_};rw[e];exact{_,_,rfl,c}
 .rintro σ u ⟨v4,C,rfl,c⟩;rw[ZI,cO,wam];refine{_,rfl,_,rfl,by show 2<=sizeLine;decide,λp hp=>?_};exact k p _ (c.trans (a7.upd hp)) a6
theorem pd(L:Lk K mg):aQ P w K mg base cI 6 L.iX L.iZ ["band","many","wide","weights"] (FJ L.aA):=by
 have T:=L.T;refine L.j0.F.dF (N:=["band","many","wide","weights","sheet","lots","homes","closed","place"]) (λgn A outer s H vs Q E nd hr h=>?_);obtain⟨x,d,many,n,f,g,ws,ss,ls,rfl,B,M9,O2,GK,C4,B4,DZ,hd,C,X,To,k⟩:=h;have hu:=eY hr
 refine{_,(a5 (ai (i:=4) (aj (i3 L) L.g9 (a8 (pv 0) (a8 (pv 1) (a8 (pv 2) (aF (pv 3)))))))
  (a5 (fP (i:=5) rfl (ax ["sheet"] [4]) nd rfl rfl (dj rfl T.range (aF (AY T.len (aC (pv 4) rfl)))) (λ_ _ _ _ _ _=>bb) (λ_ _ _ _ _ _=>(aj (rK L) L.lB (a8 (pv 1) (aF (pv 0))))))
  (a5 (fP (i:=6) rfl (ax ["sheet"] [4]) nd rfl rfl (aM (J0 rfl (by rfl) T.min (by rfl) T.len (aF (pv 5)))) (λ_ _ _ _ _ _=>bb) (λ_ _ _ _ _ _=>(b5 (gf (K:=K) rfl) (lL (K:=K) rfl (pv 1) rfl) (pv 0) (λ_ _=>rfl))))
  (a5 (ai (i:=7) eL)
  (a5 (forA (sU (pv 3)) (az (i:=8)) (a9 (eQ hu (pv 7) (pv 8) (yd (fX vC (pv 8) (pv 6) rfl) (cJ hu (pv 3) (pv 8) (λ_ _=>rfl)) aq) rfl)))
  (a9 (aw (pv 7)))))))),?_}
 ac_rfl
 have nd:ls.Nodup:=B.nd.sublist B.lv.sub;have zz:ls.length<=900:=wa0 B.lv.sub.length_le B4;refine{_,rfl,_,rfl,_,rfl,_,rfl,x,d,many,n,bE f ls,f,g,ws,ss,ls,rfl,B,GK,C4,B4,DZ,.inl hd,gF f ls,λy H1 s1 S1=>?_};have S:=S1.same (aX _ _);have hB:=ib.first (g:=g) (ws:=ws) (ss:=ss) (n:=n) (many:=many) C X;have Tc:(au ls f).length<=ls.length:=waT _ _;have D:=hB.l;have Z8:(1:Int)<=many:=by have:=DZ.a;lia
 generalize Tp:au ls f=hs at S hB Tc D;generalize Rh:bz g ws ss ls n hs=lns at S hB D
 have Ri:hs≠[]:=λz=>by
  have h1:=vM C;rw[Tp,z]at h1;have:(0:Int)=(ls.map f).sum:=h1
  lia
 have OU:0<hs.length:=wc0.mpr Ri
 have Rj:∀i,i<lns.length->lns.getD i []≠[]:=λi hi z=>by
  have M:lns[i]?=some (lns.getD i []):=by rw[ZL,ZJ hi];rfl
  have h1:=hB.b i _ M;rw[z]at h1;have h2:many*(hs.map f).getD i 0<=0:=h1;have hw:=hB.w;have h3:=hB.p _ (iS (ws:=hs.map f) (i:=i) (by lia));have:=Int.mul_pos (show 0<many by lia) (show 0<(hs.map f).getD i 0 by lia)
  lia
 obtain⟨dx,ah,bw,cl,hx,rh,DW,rl⟩:=id S;have hh:=oh rh;refine{_,rfl,y,L.av,dx,_,_,rfl,hx,L.ao.cl,L.ao.dH,cz ah bw cl,ah,_,rfl,.inl (.inl hh),_,rfl,by lia,by rw[ZI];lia,λll Rk=>?_};have en:(((hs.map V.str).length:Nat):Int).toNat=hs.length:=by rw[ZI,wae]
 rw[en];refine ye (λi v H'=>∃q m,v=.ref q/\q≠ll/\H' q=some (.lst ((nI m).map V.int))/\Reach lns m) (λi v Ha Hb ys h hl kp=>?_) (mO 0 hs.length) Rk (ay (by rw[ZI,wau];lia)) (λ_ _=>wbc) (λi v H3 ys Q' hv s3 Hy qq=>?_) (λys H3 s3 h3 JR hR=>?_)
 .obtain⟨q,m,rfl,M,Rl,O⟩:=h;exact{q,m,rfl,M,kp _ _ Rl M,O}
 .have hi:i<hs.length:=by have:=(ZO.mp hv).1;rwa[ZI,wau]at this
  rw[ZM,wgf hi]at hv
  have hv:v=.int (i:Int):=by
   rw[<-ZU hv];show V.int (0+(i:Int))=_;rw[wds]
  subst hv;refine{_,rfl,_,rfl,y,i,hs,_,lns,rfl,S.same s3,by lia,λl hl q M=>by rw[D];exact hB.e l hl q M,Rj i (by lia),by lia,λl m H' s' fl O1 r=>?_};exact qq _ H' s' {l,m,rfl,(λz=>by rw[z,Hy]at fl;cases fl),O1,r}
 obtain⟨ps,rfl,OV⟩:=HF (ys:=ys) (R:=λq=>∃m,H3 q=some (.lst ((nI m).map V.int))/\Reach lns m) λv hv=>by
  obtain⟨i,hi,e⟩:=wbt hv;obtain⟨q,m,e1,_,e2,e3⟩:=hR i v (by rw[ZJ hi,e]);exact⟨q,e1,m,e2,e3⟩
 have hpl:ps≠[]:=λz=>by
  rw[ZI,ZI,wau,z]at JR;have:0=hs.length:=JR
  lia
 refine{_,rfl,ll,ps,rfl,aK.of h3,hpl,λq M=>by obtain⟨m,e,_⟩:=OV q M;exact{_,aK.of e},λq M=>?_};obtain⟨m,O,r⟩:=OV q M;have C5:=kB r.nd r.lt;refine{q,rfl,{_,aK.of O},λlh JO=>?_};refine di (λ_=>true) (λv=>match v with |.int d=>.str (hs.getD d.toNat "") |_=>.non) (aL K q _) JO (ay (by rw[ZI,cO];lia)) (λH' s'=>aK.of (s' _ _ O)) (λv H8 Q' hy s8 qq=>qq H8 (a7.refl _)) (λv H4 Q' hy _ s4 qq=>?_) (λH4 s4 h4=>?_)
 .obtain⟨n',C0,rfl⟩:=xc hy;have Y:n'<hs.length:=by rw[<-D];exact r.lt n' C0
  have U:=s3.trans s4;exact{_,rfl,y,L.av,dx,_,_,rfl,U _ _ hx,L.ao.cl,L.ao.dH,cz ah bw cl,_,rfl,ah,_,_,_,rfl,rfl,U.seq (.inl hh),bq (v:=.str (hs.getD n' "")) (by rw[ZM,ZJ Y,ZL,ZJ Y];rfl),qq H4 (a7.refl _)}
 have e4:(((nI m).map V.int).filter λ_=>true).map (λv=>match v with |.int d=>V.str (hs.getD d.toNat "") |_=>.non)=(m.map λd=>hs.getD d "").map V.str:=by
  rw[waD.mpr (λ_ _=>rfl)];unfold nI;rw[ZV,ZV,ZV];rfl
 rw[e4]at h4;have U:=s3.trans s4;refine λdl t=>?_;have G:=s1.trans U;have Ly:d≠dl:=af (G _ _ hd) t;have IV:(upd H4 dl (.dK [])) d=some (.dK (aY (bE f ls))):=a7.upd t _ _ (G _ _ hd);refine{_,rfl,d,_,rfl,.inl IV,λo H5 h5 LK=>?_};have Td:H5 dl=some (.dK []):=by rw[LK dl (wb4 Ly),a6]
 have Wm:lh≠d:=λz=>by rw[z]at h4;rw[G _ _ hd]at h4;cases h4
 have Wn:H5 lh=some (.lst ((m.map λd=>hs.getD d "").map V.str)):=by rw[LK lh Wm];exact a7.upd t _ _ h4
 have k5:∀c I,H c=some I->c≠d->H5 c=some I:=λc I e hc=>by rw[LK c hc];exact a7.upd t _ _ (G _ _ e)
 have Rm:H dl=none:=none_of G t;have Rn:dl≠lh:=λz=>by rw[z]at t;rw[h4]at t;cases t
 have J:=gN d o (aY (bE f ls));rw[show ((aY (bE f ls)).map λkv=>kV kv.1)=ls.map V.str by unfold aY bE;rw[ZV,ZV];rfl]at J;refine kj J (λj σ H6=>∃(v8:Option V),σ=[some (.ref x),some (.int many),some (.int (n:Int)),some (.ref d),some (.ref y),some (.ref ll),some (.ref lh),some (.ref dl),v8]/\H6 dl=some (.dK (aY (bE (cF (m.map λd=>hs.getD d "") f) (ls.take j))))/\∀c I,H5 c=some I->c≠dl->H6 c=some I) {none,rfl,Td,λc I e _=>e} (λj σ H6 _ {_,_,_,Z}=>Z _ _ h5 Ly) ?_ ?_
 .rintro j v σ H6 hy ⟨v8,rfl,h6,Z⟩;obtain⟨p,M7,rfl,hj,B5,nC⟩:=gi hy;have Gd:p∉(bE (cF (m.map λd=>hs.getD d "") f) (ls.take j)).map (·.1):=by rw[pJ];exact gW nd M7
  have put:∀u,u=cF (m.map λd=>hs.getD d "") f p->putK (aY (bE (cF (m.map λd=>hs.getD d "") f) (ls.take j))) (wac p:Key) (.int u)=aY (bE (cF (m.map λd=>hs.getD d "") f) (ls.take (j+1))):=λu Wo=>by
   rw[pF Gd,nC,Wo];unfold bE;rw[wa1];rfl
  have hlen:(aY (bE (cF (m.map λd=>hs.getD d "") f) (ls.take j))).length<sizeLine:=by rw[iR];unfold bE;rw[ZI,wa5];exact bO (by lia)
  have g6:=eK.f (k:=(wac p:Key)) (Z _ _ h5 Ly);rw[dm,gF f ls p B5]at g6;refine{_,rfl,_,rfl,lh,_,rfl,.inl (aK.of (Z _ _ Wn (wb4 Rn))),rfl,dX _,decide (p∈m.map λd=>hs.getD d ""),congrArg V.bl (iL p _),?_}
  by_cases hp:p∈m.map λd=>hs.getD d ""
  .rw[decide_eq_true hp];refine eJ {_,rfl,_,rfl,d,_,rfl,g6,_,rfl,_,rfl,dl,_,rfl,kh.k (k:=wac p) h6 hlen,?_};exact{_,rfl,by rw[a6,put (f p) (by unfold cF;rw[if_pos hp])],λc I e hc=>by rw[ae hc];exact Z c I e hc}
  .rw[decide_eq_false hp];refine bo {_,rfl,_,rfl,dl,_,rfl,kh.k (k:=wac p) h6 hlen,?_};exact{_,rfl,by rw[a6,put 0 (by unfold cF;rw[if_neg hp])],λc I e hc=>by rw[ae hc];exact Z c I e hc}
 rintro σ H6 ⟨v8,rfl,h6,Z⟩;rw[ZI,wam]at h6;subst Tp;subst Rh;exact{_,rfl,k dl _ H6 (λc o e hc=>Z _ _ (k5 c o e hc) (af e Rm)) Rm h6 (tL C) (Dz C X r) (D3 C (λd hd=>by rw[<-D];exact r.lt d hd) r.ne) (yJ C) (D2 C)}
end
end K40
namespace L2
open PySem.Spec PyProof.Rows PySem.W Builtin Builtin.ObjectAttr
section
variable{CB:Addr}{ta tv:TE}{name:Str}
def LL(K:ZK)(CB:Addr)(ta tv:TE)(name:Str):TS:=λD σ H=>tv σ H λy H1=>ta σ H1 λz H2=>∃x C nm d fs,z=.ref x/\H2 x=some (XD x C d)/\H2 d=some (.xd fs)/\fs.length<=50/\eV K C CB nm/\findIn K (.ref C) name=some none/\fs.lookup name=none/\D.nx σ (upd H2 d (.xd (fs++[(name,y)])))
end
section
variable{prog:wad}{w:World}{A:Around}{E:Value->Shared->Prop}{s:Shared}{K:ZK}{x C CB:Addr}{mA:Str->Option Value}{name:Str}{v:Value}
theorem DR{Q:Unit->Shared->Prop}(X:K.In s.heap)(hx:s.heap.get? x=some (rN C d t))(hd:s.heap.Ns1 d mA)(hw:wdf mA ns)(hl:ns.length<=100)(hc:clsIn K C=some cd)(hm:cd.mro=.ref C::nD CB)(hh:cd.hasDict=true)(ha:findIn K (.ref C) name=some none)
 (hs:findIn K (.ref C) "__setattr__"=some (some (.builtin "object.__setattr__")))
 (h:∀h' tk,(∀b,b≠d->h'.get? b=s.heap.get? b)->h'.Ns1 d (λy=>if y=name then some v else mA y)->Q .unit {s with heap:=h',toks:=tk}) :
 wpAny (model prog w) A (setAttr (.ref x) name v) Q E s:=by
 obtain⟨od,es,ep,e1,_⟩:=id hd;have J:InstAt s.heap x (rN C d t) C (some od):=⟨hx,rfl,rfl,e1⟩;refine weF X J hs (wk (s:={s with toks:=s.toks+1}) X J hc hm ha ?_);unfold storeInOwnDict;refine ZN (waa ?_);rw[if_neg (by simp)];unfold ownDictForStores instanceDict;refine ZN (ZN (wfG hx ?_));dsimp only;refine ZN (wen (s:={s with toks:=s.toks+1}) (wdC X hc) ?_);rw[hh];simp only[wg6,wbw,if_false];refine waa ?_;show wpAny _ _ (storeInDict d (.str name s.toks) name v) _ _ _;unfold storeInDict newKeyGuard;refine ZN (waa (ZN (wgs hd λh' C0 Ju=>?_)));obtain⟨oD,Wq,Ws,Ro,Tq,Tr⟩:=C0.count (wfh name v hw);refine ZN (weS Ro (by grind [weT,wa0,wbF]) ?_)
 wp_walk
 exact h h' _ (λb hb=>Ju.2 b hb) C0
end
section
variable{X:Cx}{CB:Addr}{o value:Expr}{ta tv:TE}{name:Str}{pos pos':Pos}
theorem Gq(ha:PE X o ta)(J:PE X value tv)(hs:wbD value (some (.Attribute o name pos')) pos.line X.env=pure false):PS X (.Assign [.Attribute o name pos'] value pos) (LL X.K CB ta tv name):=by
 refine{?_};intro c s σ H D I h;refine wcv (bS (J c s σ H _ I h) λu G ⟨y,L,M,O,q⟩=>bS (ha c G σ L _ M q) λQ E R=>?_) hs;obtain⟨z,i,g,S,x,C,T,d,fs,V,Y,hd,hl,U,hn,Z,q2⟩:=R;subst V;obtain rfl:Q=ZY x:=S;obtain⟨⟨t,ht⟩,_⟩:=g.bc x _ Y;obtain⟨mA,ns,r⟩:=g.bc d _ hd;obtain⟨qn,N,bs,sn,sub,ab,m,dd,k0,k1,k2,k3,k5,lk⟩:=U.lk;refine DR (CB:=CB) g.gC ht ns (Ds r) (by rw[ZI];lia) (cd:={name:=T,bases:=bs,mro:=.ref C::nD CB,ns:=N,qualname:=qn,hasDict:=true,slotNames:=sn,subclasses:=sub,abstract:=ab,collection:=m,hasDel:=false}) (by unfold clsIn;rw[lk]) rfl rfl hn U.sa λp tk k j=>{σ,_,?_,q2};obtain⟨o',_,_,eo,_⟩:=id j;have nx:∀{b:Addr} {o:HO},i b=some o->(∀fs,o≠.xd fs)->b≠d:=λe n z=>by rw[z,hd]at e;exact n _ (ZU e).symm
 have A:∀{b:Addr},i b=none->b≠d:=λe z=>by rw[z,hd]at e;cases e
 have un:Un (pY X.stack) [] i (upd i d (.xd (fs++[(name,y)]))) E.heap p:=by
  refine{λb o q n _ _=>by rw[k b (A n)];exact q,λb o q n _ _=>{o.slots,by rw[k b (A n)];exact q},λb o q n _=>?_,λb o q _=>?_,λb vs q=>?_,λb o v q=>?_,λb ps q=>?_}
  .rw[ae (A n)];exact n
  .by_cases z:b=d
   .rw[z];exact{_,eo}
   .exact{o,by rw[k b z];exact q}
  .rw[ae (nx q λψ z=>by cases z)];exact q
  .rw[ae (nx q λψ z=>by cases z)];exact q
  .exact{#[],by rw[ae (nx q λψ z=>by cases z),q];simp}
 have bc:jb X.prog X.w (upd i d (.xd (fs++[(name,y)]))) p:=λa o e=>by
  by_cases z:a=d
  .subst z;rw[a6]at e;cases e;refine{_,j,λf=>?_};rw[yZ Z]
   by_cases e:f=name
   .rw[if_pos e,if_pos e];exact O
   .rw[if_neg e,if_neg e];exact r f
  .rw[ae z]at e;refine(g.bc a o e).uK (λb u l q=>?_) (λb q=>?_) λb vs q=>?_
   .rw[k b ?_]
    .exact q
    .rintro rfl;rcases l with rfl |l
     .exact z rfl
     .rw[hd]at l;cases l
   .rw[ae (λB=>by rw[B,hd]at q;cases q)];exact q
   .rw[ae (λB=>by rw[B,hd]at q;cases q)];exact q
 exact g.vA (s':={E with heap:=p,toks:=tk}) rfl un bc g.bare λb z=>absurd z (by simp)
end
end L2
namespace HT
open PyProof.Rows
noncomputable def zq(n d:Nat):Option Int->Nat
 |none=>d
 |some v=>if v<0 then(v+(n:Int)).toNat else min v.toNat n
theorem J6(n d k:Nat):zq n d (some (k:Int))=min k n:=by
 show (if (k:Int)<0 then((k:Int)+(n:Int)).toNat else min (k:Int).toNat n)=min k n;rw[if_neg (by lia),wae]
end HT
namespace L2
open PySem.Spec PyProof.Rows
section
variable{lo hi:Option Expr}
noncomputable def lH(xs:List V)(lo hi:Option Int):List V:=(xs.drop (HT.zq xs.length 0 lo)).take (HT.zq xs.length xs.length hi-HT.zq xs.length 0 lo)
theorem zr(xs:List V)(lo hi:Option Int):(lH xs lo hi).length<=xs.length:=by
 unfold lH;rw[wa5,waN]
 lia
theorem C7(xs:List V)(n:Nat):lH xs none (some (n:Int))=xs.take n:=by simp_all [lH,HT.zq,wel,Nat.sub_zero,if_neg,wfj,Nat.min_eq_right,wam,wb9]
theorem zt(xs:List V)(k:Nat):lH xs (some (k:Int)) none=xs.drop k:=by
 unfold lH HT.zq;simp only;split
 .lia
 .by_cases h:k<=xs.length
  .rw[show min ((k:Int)).toNat xs.length=k by lia];exact wb9 (by rw[waN];exact ZS _)
  .rw[show min ((k:Int)).toNat xs.length=xs.length by lia,wbn,wfN,wdI (by lia)]
theorem J7(xs:List V){i j:Nat}(h:i<=j):lH xs (some (i:Int)) (some (j:Int))=(xs.drop i).take (j-i):=by
 unfold lH HT.zq;simp only;rw[if_neg (by lia),if_neg (by lia)]
 by_cases a:i<=xs.length
 .by_cases b:j<=xs.length
  .rw[show min ((i:Int)).toNat xs.length=i by lia,show min ((j:Int)).toNat xs.length=j by lia]
  .rw[show min ((i:Int)).toNat xs.length=i by lia,show min ((j:Int)).toNat xs.length=xs.length by lia];rw[wb9 (by rw[waN];exact ZS _),wb9 (by rw[waN];lia)]
 .rw[show min ((i:Int)).toNat xs.length=xs.length by lia,wdI (ZS _),wdI (by lia),List.take_nil,List.take_nil]
end
section
variable{a:Expr}
theorem xM(lo hi:Option Int)(n:Nat):(wgT lo hi none n).1=((HT.zq n 0 lo:Nat):Int)/\(wgT lo hi none n).2.1=((HT.zq n n hi:Nat):Int)/\(wgT lo hi none n).2.2=1:=by
 have key:∀(i:Int) (d:Nat),max 0 (min (if i<0 then i+(n:Int) else i) (n:Int))=((HT.zq n d (some i):Nat):Int):=by
  intro i d
  by_cases h:i<0<;>simp only[HT.zq,h,if_true,if_false]<;>lia
 exact{by cases lo with |none=>rfl |some i=>exact key i 0,by cases hi with |none=>rfl |some i=>exact key i n,rfl}
theorem va(g:List Value)(lo hi:Option Int):slicePick g.toArray lo hi none=((g.drop (HT.zq g.length 0 lo)).take (HT.zq g.length g.length hi-HT.zq g.length 0 lo)).toArray:=by
 obtain⟨a,b,c⟩:=xM lo hi g.toArray.size;unfold slicePick;rw[a,b,c];simp only[sliceRange_one,pick_run,wa3]<;>rfl
inductive Rp(K:ZK)(x:V)(lo hi:Option Int)(H:Hp)(Q:VK):Prop
 |mk (a xs) (_:x=.ref a) (_:aK K H a xs) (_:∀p,H p=none->Q (.ref p) (upd H p (.lst (lH xs lo hi))))
theorem Gr(ns:List Int)(lo hi:Option Int):∃g:List Int,lH (ns.map V.int) lo hi=g.map V.int/\g.length<=ns.length:=by
 refine{_,by unfold lH;rw[<-wdK,<-wd5],?_};rw[wa5,waN]
 lia
end
section
variable{X:Cx}
theorem jD:Qc X (Rp X.K):=by
 intro e s σ H x v m n lo hi sl Q I g hs pl i h;obtain⟨a,c,rfl,j,q⟩:=h;cases g;obtain⟨k,r,f,l⟩:=I.list j;have d:=r.length;refine{"list",_,slot_list_getitem.lookup,f.isList.typeIs,?_};refine wpAny_getItem_list_slice f.isList hs pl i .none (by simp) ?_ (by grind);rw[va,<-d];refine{.ref s.heap.objs.size,_,I.laid (t':=s.toks) (o:=.lst (lH c lo hi)) (λb ob q=>ZQ _ q) (ZS _) ?_,rfl,q _ (I.bc.fresh (ZS _))};exact{wa0 (zr c lo hi) l,_,0,(r.drop (HT.zq c.length 0 lo)).take (HT.zq c.length c.length hi-HT.zq c.length 0 lo),wa9 _ rfl}
end
end L2
namespace K40
section
variable{P:wad}{w:World}{K:ZK}{mg:Str->Option Value}{base:Heap}
local macro_rules|`(tactic|ac_rfl)=>`(tactic|try dsimp only[cZ,d1,b0,b4])
theorem j5(L:Lk K mg):aQ P w K mg base cI 2 L.fz L.fB ["line","kept","many"] (Iq K):=by
 refine L.fC.F.dF (N:=["line","kept","many"]) (λU A outer s H vs Q E nd p h=>?_);obtain⟨v,b,many,ks,f,rfl,X,R,t,u,m0,k⟩:=h;refine{_,(a9 (aw (fv rfl (ax ["kept"] [1]) (ax ["kept"] [1]) ⋯ (aM (df jD (aj (mG L) L.jz (a8 (pv 0) (aF (pv 1)))) gD (cW (pv 2)))) (λ_ _ _ _ _ _=>bb) (λ_ _ _ _ _ _=>(cM (a8 (pv 0) (aF (EK (K:=K) rfl wap wcy wf6 (DH (K:=K) rfl) (pv 2) (aF (pv 1)))))))))),?_}
 ac_rfl
 have x:many=((many.toNat:Nat):Int):=();refine{_,rfl,_,rfl,v,b,ks,f,rfl,X,R,u,λy B C Y=>?_};obtain⟨a,d,rfl,Z,S⟩:=dA (b7.same (aX _ _) _ _ Y);have C5:d.length=(cu ks f).length:=by rw[S.1,ZI,ZI]
 have Vk:=F0 ks f;refine{_,rfl,((many.toNat:Nat):Int),congrArg V.int x,a,_,rfl,Z,λj D=>?_};rw[C7,<-wd5];have m:=a7.upd (H:=B) (o:=.lst ((d.take many.toNat).map V.ref)) D;have G:(upd B j (.lst ((d.take many.toNat).map V.ref))) j=some (.lst ((d.take many.toNat).map V.ref)):=a6;generalize upd B j (.lst ((d.take many.toNat).map V.ref))=H2 at m G;refine{j,rfl,{_,aK.of G},λl hl=>?_};refine lS (prs:=((cu ks f).take many.toNat).map eA) (λ_=>true) (λq=>match q.2 with |.int e=>.tup [.at q.1,.at (.int (ks.idxOf e.toNat:Int))] |_=>.at .non) (aL K j _) (by grind) (λi q g=>?_) hl (ay (by grind)) (λT I=>aK.of (I _ _ G)) (λq J Q' _ _ M=>M J (a7.refl _)) (λq J Q' g _ s3 M=>?_) (λT I r=>?_)
 .rw[ZM]at g
  have hi:i<((cu ks f).take many.toNat).length:=by
   cases e:((cu ks f).take many.toNat)[i]? with
   |none=>rw[e]at g;cases g
   |some z=>exact(ZO.mp e).1
  have c:i<many.toNat/\i<d.length:=by rw[wa5]at hi;omega
  rw[wdi c.1,ZJ ()]at g;cases g;refine{d[i],by rw[ZM,wdi c.1,ZJ c.2];rfl,fJ.of (m _ _ ?_)};exact S.2 i d[i] (jG (eA (cu ks f)[i])) (ZJ c.2) (by rw[ZM,ZM,ZJ ()];rfl)
 .obtain⟨z,hz,rfl⟩:=ZR.mp g;have O:=of_decide_eq_true (wa6.mp ((waB _ _).subset hz)).2;have n:aK K J b ((nI ks).map V.int):=((C.trans m).trans s3).seq R;obtain⟨i1,i2⟩:=Ib O;refine{_,rfl,_,rfl,.inl {rfl,_,n},_,rfl,b,nI ks,(z.2:Int),ks.idxOf z.2,rfl,rfl,n,by rw[cO];exact t,i1,i2,by show 2<=sizeLine;decide,λr p=>?_};exact M _ _ (a7.upd p) (ky p (z.1,ks.idxOf z.2))
 .rw[waD.mpr (λ_ _=>rfl),ZV]at r;refine k _ T ((C.trans m).trans I) (b7.same (ee (C.trans m)) _ _ ?_);unfold dZ bG;rw[ZV];exact r
theorem jE(L:Lk K mg):aQ P w K mg base cI 1 L.qI L.qU ["_law_script","_law_place_here"] (Nm K):=by
 have T:=L.T;refine L.ir.F.dF (N:=["_law_script","_law_place_here"]) (λb A outer s H e Q E nd f h=>?_);obtain⟨a,ns,p,rfl,c,k⟩:=h;refine{_,(a9 (aw (aI (iQ rfl) (by rfl) T.sum Ai (aF (df jD (pv 0) (cW (pv 1)) (cW (aS gq (pv 1) aq))))))),?_}
 ac_rfl
 refine{_,rfl,_,rfl,_,rfl,_,rfl,_,_,rfl,rfl,_,rfl,a,_,rfl,c,λl hl=>?_};obtain⟨d,em,_⟩:=Gr ns (some p) (some (p+1));rw[em];exact{l,d,rfl,aK.of a6,k _ _ (a7.upd hl)}
theorem lI(L:Lk K mg):aQ P w K mg base cI 1 L.mi L.my ["_law_cell","_law_many"] Ff:=by
 have T:=L.T;refine L.iE.F.dF (N:=["_law_cell","_law_many","_law_found","_law_one","_law_turn","_law_two","_law_more"]) (λx A outer s H C Q E nd D h=>?_);obtain⟨c,m,rfl,G,k⟩:=h
 refine{_,(a5 (ai (i:=2) (cC fM))
  (a5 (ai (i:=3) (aS sM (pv 0) aq))
  (a5 (bp (cD nM (aS eF (pv 0) aq) aq) (a5 (forA (dj rfl T.range (aF (pv 1))) (az (i:=4)) (a5 (bL (i9 wap waA waH cN (pv 2) (aF (aS eF (pv 3) aq))))
  (a9 (ai (i:=3) (aS sM (pv 3) aq)))))
  (a9 (aw (pv 2)))) aH)
  (a5 (ai (i:=5) (aS eF (aS sM (pv 3) aq) aq))
  (a5 (ai (i:=3) (aS eF (pv 3) aq))
  (a5 (forA (dj rfl T.range (aF (aS gq (pv 1) aq))) (az (i:=4)) (a5 (ai (i:=6) (aS gq (aS gq (aS gq (aS gV (pv 3) aq) (aS gV (pv 5) (pv 5))) (aS gV aq (pv 4))) aq))
  (a5 (ai (i:=3) (pv 5))
  (a5 (ai (i:=5) (aS eF (pv 6) aq))
  (a9 (bL (i9 wap waA waH cN (pv 2) (aF (pv 5)))))))))
  (a9 (aw (df jD (pv 2) (cW aq) gD))))))))),?_}
 ac_rfl
 refine{wal _,λl hl=>?_};have t:a7 H (upd H l (.lst [])):=a7.upd hl;have app:∀{f:Hp} {d:List Int} {v:Int},a7 H f->f l=some (.lst (d.map V.int))->a7 H (upd f l (.lst (d.map V.int++[.int v])))/\(upd f l (.lst (d.map V.int++[.int v]))) l=some (.lst ((d++[v]).map V.int)):=λ{f d v} j g=>{λb I e=>by rw[ae (af e hl)];exact j _ _ e,by rw[a6,wa1];rfl};refine{_,rfl,_,_,rfl,rfl,{⋯,∅},?_};refine{_,rfl,_,_,rfl,rfl,(by show (0:Int)<2;decide),rfl,_,rfl,zF (λ_=>?_) (λ_=>?_)}
 .refine{_,rfl,(m:Int),rfl,by lia,by lia,?_};rw[wae];refine dh (lo:=0) (n:=m) (λi σ f=>∃(one:Int) (d:List Int) (v4:Option V),σ=[some (.int c),some (.int (m:Int)),some (.ref l),some (.int one),v4,none,none]/\a7 H f/\f l=some (.lst (d.map V.int))/\d.length=i) {_,[],none,rfl,t,a6,rfl} ?_ ?_
  .rintro i σ f hi ⟨one,d,v4,rfl,j,g,o⟩;refine{_,rfl,.inl {rfl,_,aK.of g},_,rfl,_,_,rfl,rfl,(by show (0:Int)<1999999973;decide),l,_,_,rfl,rfl,g,by rw[ZI];exact bO (by lia),?_};exact{_,rfl,_,_,rfl,rfl,{⋯,∅},_,d++[one%1999999973],_,rfl,(app j g).1,(app j g).2,by rw[ZP,o];rfl}
  .rintro σ f ⟨one,d,v4,rfl,j,g,o⟩;exact{_,rfl,k l d f j hl g o}
 .refine{_,rfl,_,_,rfl,rfl,{⋯,∅},_,_,rfl,rfl,(by show (0:Int)<1999999943;decide),?_};have q:=wbi (c/2/1999999973) (show (1999999943:Int)≠0 by decide);have u:=wb8 (c/2/1999999973) (show (0:Int)<1999999943 by decide);refine{_,rfl,_,_,rfl,rfl,(by show (0:Int)<1999999973;decide),?_};refine{_,rfl,_,_,rfl,rfl,_,rfl,by lia,by lia,?_};rw[show ((m:Int)+2).toNat=m+2 by lia];refine dh (lo:=0) (n:=m+2) (λi σ f=>∃(one a:Int) (d:List Int) (v4 v6:Option V),σ=[some (.int c),some (.int (m:Int)),some (.ref l),some (.int one),v4,some (.int a),v6]/\0<=a/\a<2000000000/\a7 H f/\f l=some (.lst (d.map V.int))/\d.length=i) {c/2%1999999973,c/2/1999999973%1999999943,[],none,none,rfl,q,by lia,t,a6,rfl} ?_ ?_
  .rintro i σ f hi ⟨one,a,d,v4,v6,rfl,q,u,j,g,o⟩;refine{_,rfl,_,_,rfl,rfl,.inr {⋯,⋯},_,rfl,_,rfl,_,_,rfl,rfl,.inl {by lia,by lia},_,_,rfl,rfl,_,rfl,_,_,rfl,rfl,.inl {⋯,⋯},_,_,rfl,rfl,_,_,rfl,rfl,?_};refine{_,rfl,?_};refine{_,rfl,_,_,rfl,rfl,(by show (0:Int)<1999999973;decide),?_};have y:=wbi (one*1664525+a*a+97*(0+(i:Int))+40503) (show (1999999973:Int)≠0 by decide);have J:=wb8 (one*1664525+a*a+97*(0+(i:Int))+40503) (show (0:Int)<1999999973 by decide);refine{_,rfl,.inl {rfl,_,aK.of g},_,rfl,l,_,_,rfl,rfl,g,by rw[ZI];exact waI (m:=2000) (by lia) (by rw[wbF];decide),?_};exact{_,_,d++[(one*1664525+a*a+97*(0+(i:Int))+40503)%1999999973],_,_,rfl,y,by lia,(app j g).1,(app j g).2,by rw[ZP,o];rfl}
  .rintro σ f ⟨one,a,d,v4,v6,rfl,q,u,j,g,o⟩;refine{_,rfl,_,rfl,l,_,rfl,aK.of g,λz p=>?_};have B:=zt (d.map V.int) 2;have r:lH (d.map V.int) (some 2) none=(d.drop 2).map V.int:=by rw[wdK];exact B
   rw[r];exact k z (d.drop 2) _ (j.trans (a7.upd p)) (none_of j p) a6 (by rw[waN];lia)
theorem xN(L:Lk K mg):aQ P w K mg base cI 2 L.qJ L.qV ["_law_script"] (Ij K):=by
 have T:=L.T;refine L.rk.F.dF (N:=["_law_script","_law_known","_law_xs","_law_size","_law_step","_law_signs","_law_words","_law_k","_law_ys","_law_long"]) (λgn A outer s H vs Q E nd hr h=>?_);obtain⟨a,ns,rfl,hS,k⟩:=h
 refine{_,(a5 (ai (i:=1) eE)
  (a5 (ai (i:=2) (aj (lI L) L.iE (a8 (aj (jE L) L.ir (a8 (pv 0) (aF aq))) (aF aq))))
  (a5 (ai (i:=3) (b5 b9 (cC (nT (is:=[2,2,2,3,2,4,2,3]) ∅)) (aS eF (b5 b9 (pv 2) aq (λ_ _=>rfl)) aq) (λ_ _=>rfl)))
  (a5 (ai (i:=4) (b5 b9 (cC (nT (is:=[1,5,7,11,13,35]) ∅)) (aS eF (b5 b9 (pv 2) aq (λ_ _=>rfl)) aq) (λ_ _=>rfl)))
  (a5 (ai (i:=5) (i9 wfB wfO wfP Bv eE (aF (bV rfl (ax ["_law_known","_law_xs","_law_step"] [1,2,4]) (dj rfl T.range (aF (pv 3))) (λ_ _ _ _ _ _=>bb) (λ_ _ _ _ _ _=>(b5 EC (pv 1) (aS eF (aS gq (b5 (gf (K:=K) rfl) (pv 2) aq (λ_ _=>rfl)) (aS gV (pv 3) (pv 0))) aq) (λ_ _=>rfl)))))))
  (a5 (ai (i:=6) (cC fM))
  (a5 (forA (dj rfl T.range (aF (b5 b9 (cC (nT (is:=[0,1,2,3,1,2,3,6]) ∅)) (aS eF (b5 b9 (pv 2) aq (λ_ _=>rfl)) aq) (λ_ _=>rfl)))) (az (i:=7)) (a5 (ai (i:=8) (df jD (aj (lI L) L.iE (a8 (aj (jE L) L.ir (a8 (pv 0) (aF (aS gq aq (aS eF (pv 7) aq))))) (aF aq))) (cW (aS gV (aS nO (pv 7) aq) aq)) gD))
  (a5 (ai (i:=9) (b5 b9 (cC (nT (is:=[2,3,4,2,3,4,1,5]) ∅)) (aS eF (b5 b9 (pv 8) aq (λ_ _=>rfl)) aq) (λ_ _=>rfl)))
  (a9 (bL (i9 wap waA waH cN (pv 6) (aF (i9 wfB wfO wfP Bv eE (aF (bV rfl (ax ["_law_signs","_law_size"] [5,3]) (aM (df jD (pv 8) (cW aq) (cW (aS gq aq (pv 9))))) (λ_ _ _ _ _ _=>bb) (λ_ _ _ _ _ _=>(b5 EC (pv 1) (aS eF (pv 0) (pv 2)) (λ_ _=>rfl)))))))))))))
  (a9 (aw (cM (a8 (pv 5) (aF (pv 6))))))))))))),?_}
 ac_rfl
 refine{_,rfl,a,ns,0,rfl,hS,λc1 H1 s1=>?_};refine{c1,4,rfl,⋯,λlx xs H2 s2 fx h2 Z=>?_};obtain⟨x0,x1,x2,x3,rfl⟩:=IC Z;clear Z;have JP:=s1.trans s2;obtain⟨n,hn,n1⟩:=La _ (wbi x0 (show (8:Int)≠0 by decide)) (wb8 x0 (show (0:Int)<8 by decide));refine{⋯,λp hp=>?_};have G:=a7.upd (o:=.lst [.int 2,.int 2,.int 2,.int 3,.int 2,.int 4,.int 2,.int 3]) hp _ _ h2;have J8:=JP.trans (a7.upd (o:=.lst [.int 2,.int 2,.int 2,.int 3,.int 2,.int 4,.int 2,.int 3]) hp);refine{_,rfl,lx,_,0,_,rfl,rfl,aK.of G,rfl,_,_,rfl,rfl,(by show (0:Int)<8;decide),p,_,_,_,rfl,rfl,aK.of a6,hn,?_};generalize upd H2 p _=H3 at G J8;obtain⟨sp,To,Ts⟩:=Lb _ (wbi x2 (show (6:Int)≠0 by decide)) (wb8 x2 (show (0:Int)<6 by decide));refine{⋯,λp2 O3=>?_};have f:=a7.upd (o:=.lst [.int 1,.int 5,.int 7,.int 11,.int 13,.int 35]) O3 _ _ G;have Ma:=J8.trans (a7.upd (o:=.lst [.int 1,.int 5,.int 7,.int 11,.int 13,.int 35]) O3);refine{_,rfl,lx,_,2,_,rfl,rfl,aK.of f,rfl,_,_,rfl,rfl,(by show (0:Int)<6;decide),p2,_,_,_,rfl,rfl,aK.of a6,To,?_};generalize upd H3 p2 _=H4 at f Ma
 have Tu:sp<=35:=by
  simp only[wao,wbA,or_false]at Ts
  lia
 have Z9:n<=4:=by
  simp only[wao,wbA,or_false]at n1
  lia
 obtain⟨st,Wt⟩:∃st:Nat,x1%36=(st:Int):={(x1%36).toNat,by lia};have Rq:st<36:=by lia
 refine{rfl,_,rfl,(n:Int),rfl,by lia,by lia,λl hl=>?_};rw[wae];refine comp_map (HU st sp) (mO 0 n) hl (by rw[ZI,wau];exact ay (by lia)) (λ_ _=>trivial) (λx H5 Q' Z s5 q=>?_) (λH5 s5 m=>?_)
 .obtain⟨i,hi,rfl⟩:=ZR.mp Z;have Za:i<n:=waM.mp hi;have hd:(st+i*sp)%36<(ch fk).length:=by rw[aJ,yE];exact Nat.mod_lt _ ⋯
  have e1:(ch fk)[(st+i*sp)%36]?=some ((ch fk).getD ((st+i*sp)%36) 0):=by rw[ZL,ZJ hd];rfl
  have e2:=bq e1
  have e3:(((st+i*sp)%36:Nat):Int)=(x1+(sp:Int)*(0+(i:Int)))%36:=by
   rw[wds,wgw (sp:Int),Int.natCast_emod,wda,wcc,<-Wt];show (x1%36+(i:Int)*(sp:Int))%36=_;rw[Int.emod_add_emod]
  rw[e3]at e2
  have e4:HU st sp (.int (0+(i:Int)))=.str {#[(ch fk).getD ((st+i*sp)%36) 0]}:=by
   rw[wds];rfl
  have q':=q H5 (a7.refl _);rw[e4]at q';exact{_,rfl,_,rfl,lx,_,1,_,rfl,rfl,aK.of (s5 _ _ f),rfl,_,rfl,_,rfl,_,_,rfl,rfl,.inl {by lia,by lia},_,_,rfl,rfl,_,_,rfl,rfl,(by show (0:Int)<36;decide),fk,_,_,rfl,rfl,ay (by rw[yE];decide),e2,q'}
 have Tv:((wak n).map λ(i:Nat)=>V.int (0+(i:Int))).map (HU st sp)=((kr st sp n).map λc=>({#[c]}:Str)).map V.str:=by
  unfold kr;rw[ZV,ZV,ZV];refine waK λi _=>?_;show HU st sp (.int (0+(i:Int)))=_;rw[wds];rfl
 have d:(kr st sp n).length=n:=by unfold kr;rw[ZI,wau]
 rw[Tv]at m;refine{_,l,_,rfl,rfl,aK.of m,?_,?_}
 .have u:∀r:List Nat,((r.map λc=>({#[c]}:Str)).map (·.length)).sum=r.length:=by
   intro r
   induction r with
   |nil=>rfl
   |cons c r ih=>rw[wab,wab,wb5,ih,wan];show 1+r.length=_;lia
  rw[u,ZI,d];show n+n*0<=16777216
  lia
 have I:∀r:List Nat,((r.map λc=>({#[c]}:Str)).map ch).flatten=r:=by
  intro r
  induction r with
  |nil=>rfl
  |cons c r ih=>rw[wab,wab,wbV,ih];rfl
 have Tw:=yP Rq Ts n1 (x:=wcZ "" ((kr st sp n).map λc=>({#[c]}:Str))) (by rw[pL ∅,I]);have C4:(wcZ "" ((kr st sp n).map λc=>({#[c]}:Str))).length=n:=by rw[<-aJ,pL ∅,I,d]
 generalize wcZ "" ((kr st sp n).map λc=>({#[c]}:Str))=g at Tw C4 ⊢;clear m Tv d I;have Tx:=Ma.trans s5;have Wu:=s5 _ _ f;obtain⟨nw,Ww,Zb⟩:=Lc _ (wbi x3 (show (8:Int)≠0 by decide)) (wb8 x3 (show (0:Int)<8 by decide));refine{wal _,λJ M=>?_};have fw:H J=none:=none_of Tx M;have Wx:=a7.upd (o:=.lst []) M _ _ Wu;have JS:=Tx.trans (a7.upd (o:=.lst []) M);refine{⋯,λp3 O=>?_};have Tz:=a7.upd (o:=.lst [.int 0,.int 1,.int 2,.int 3,.int 1,.int 2,.int 3,.int 6]) O _ _ Wx;have TB:=a7.upd (o:=.lst [.int 0,.int 1,.int 2,.int 3,.int 1,.int 2,.int 3,.int 6]) O _ _ (a6 (H:=H5) (a:=J) (o:=.lst []));have O4:=JS.trans (a7.upd (o:=.lst [.int 0,.int 1,.int 2,.int 3,.int 1,.int 2,.int 3,.int 6]) O);refine{_,rfl,lx,_,3,_,rfl,rfl,aK.of Tz,rfl,_,_,rfl,rfl,(by show (0:Int)<8;decide),p3,_,_,_,rfl,rfl,aK.of a6,Ww,?_};generalize upd (upd H5 J _) p3 _=H7 at Tz TB O4;refine{_,rfl,by lia,by lia,?_};rw[wae]
 refine dh (lo:=0) (n:=nw) (λi σ H8=>∃(ws:List Str) (v7 v8 v9:Option V),σ=[some (.ref a),some (.str fk),some (.ref lx),some (.int (n:Int)),some (.int (sp:Int)),some (.str g),some (.ref J),v7,v8,v9]/\a7 H H8/\H8 J=some (.lst (ws.map V.str))/\ws.length=i/\∀w∈ws,uP g w)
  {[],none,none,none,rfl,O4,TB,rfl,(λw h=>nomatch h)} ?_ ?_
 .rintro i σ H8 hi ⟨ws,v7,v8,v9,rfl,s8,h8,Ax,R⟩;refine{_,rfl,_,rfl,_,_,rfl,rfl,(by show (0:Int)<3;decide),_,_,rfl,rfl,a,ns,_,rfl,s8.seq hS,λcc H9 s9=>?_};refine{cc,12,rfl,⋯,λly ys LN E1 fy DS hy=>?_};have hq:(0+(i:Int))/3*6=((i/3*6:Nat):Int):=by lia
  have TC:i/3*6<=6:=by lia
  refine{_,rfl,_,_,rfl,rfl,{⋯,⋯},_,_,rfl,rfl,.inr {⋯,⋯},_,rfl,ly,_,rfl,aK.of DS,λl2 m=>?_}
  have ec:lH (ys.map V.int) (some ((0+(i:Int))/3*6)) none=(ys.drop (i/3*6)).map V.int:=by
   rw[wdK,hq];exact zt _ _
  rw[ec];have S:(ys.drop (i/3*6)).length ≥ 6:=by rw[waN];lia
  generalize ys.drop (i/3*6)=zs at S;have B:(upd LN l2 (.lst (zs.map V.int))) l2=some (.lst (zs.map V.int)):=a6;have J9:=((s8.trans s9).trans E1).trans (a7.upd (o:=.lst (zs.map V.int)) m);have JT:=a7.upd (o:=.lst (zs.map V.int)) m _ _ (E1 _ _ (s9 _ _ h8));generalize upd LN l2 _=Gs at B J9 JT
  obtain⟨C,D,rfl⟩:∃C D,zs=C::D:=by
   cases zs with
   |nil=>exact absurd S ⋯
   |cons C D=>exact⟨C,D,rfl⟩
  obtain⟨lg,Wy,Zc,Zd⟩:=Ld _ (wbi C (show (8:Int)≠0 by decide)) (wb8 C (show (0:Int)<8 by decide));refine{⋯,λp4 U=>?_};have v:=a7.upd (o:=.lst [.int 2,.int 3,.int 4,.int 2,.int 3,.int 4,.int 1,.int 5]) U _ _ B;have Ja:=J9.trans (a7.upd (o:=.lst [.int 2,.int 3,.int 4,.int 2,.int 3,.int 4,.int 1,.int 5]) U);have X:=a7.upd (o:=.lst [.int 2,.int 3,.int 4,.int 2,.int 3,.int 4,.int 1,.int 5]) U _ _ JT;refine{_,rfl,l2,_,0,_,rfl,rfl,aK.of v,(bq (xs:=(C::D).map V.int) (j:=0) rfl),_,_,rfl,rfl,(by show (0:Int)<8;decide),p4,_,_,_,rfl,rfl,aK.of a6,Wy,?_};generalize upd Gs p4 _=TF at v Ja X;refine{_,rfl,.inl {rfl,_,aK.of X},rfl,_,rfl,?_};refine{_,rfl,_,rfl,_,_,rfl,rfl,_,rfl,l2,_,rfl,aK.of v,λl3 Hy=>?_}
  obtain⟨ms,em,Ze⟩:∃ms:List Int,lH ((C::D).map V.int) (some 1) (some (1+(lg:Int)))=ms.map V.int/\ms.length=lg:=by
   refine{D.take lg,?_,by rw[wa5];rw[wan]at S;lia};rw[show (1+(lg:Int))=((1+lg:Nat):Int) by lia,show (1:Int)=((1:Nat):Int) from rfl,J7 _ (by lia),wd5];show (((D.map V.int).take (1+lg-1)))=_;rw[wbW]
  rw[em];have OW:=Ja.trans (a7.upd (o:=.lst (ms.map V.int)) Hy);have O5:=a7.upd (o:=.lst (ms.map V.int)) Hy _ _ X;refine{l3,rfl,{_,aK.of a6},λlc J4=>?_}
  have TH:0<(n:Int):=by
   simp only[wao,wbA,or_false]at n1
   lia
  refine Ey (λy=>∃t,y=.str t/\∃cc,t={#[cc]}/\cc∈ch g) (aL K l3 (ms.map V.int)) J4 (by rw[ZI];exact ay (by lia)) (λH' s'=>s'.seq (aK.of a6)) (λx TK Q' Z Y q=>?_) (λus TK Y d hR Wz=>?_)
  .obtain⟨y,hy,rfl⟩:=ZR.mp Z;have y0:=wbi y (show (n:Int)≠0 by lia);have y1:=wb8 y TH;obtain⟨dd,WB⟩:∃dd:Nat,y%(n:Int)=(dd:Int):={(y%(n:Int)).toNat,by lia};have hd:dd<(ch g).length:=by rw[aJ];lia
   have e1:(ch g)[dd]?=some (ch g)[dd]:=by simp[hd]
   have e2:=bq e1;rw[<-WB]at e2;exact{_,rfl,_,rfl,_,rfl,_,_,rfl,rfl,TH,g,_,_,rfl,rfl,ay (by lia),e2,q _ TK {_,rfl,_,rfl,wah hd} (a7.refl _)}
  obtain⟨ts,rfl,TL⟩:=Bn hR;rw[ZI,ZI]at d;have u:=yt TL;refine{_,lc,ts,rfl,rfl,aK.of Wz,?_,?_}
  .rw[u];show ts.length+ts.length*0<=16777216
   lia
  have TN:uP g (wcZ "" ts):=CK ∅ (by lia) (by lia) TL;generalize wcZ "" ts=wd at TN;have OX:=OW.trans Y;have WC:=Y _ _ O5;refine{J,_,_,rfl,rfl,WC,by rw[ZI];exact bO (by lia),?_};refine{ws++[wd],_,_,_,rfl,λb o e=>?_,?_,by simp[Ax],λw hw=>?_}
  .rw[ae (af e fw)];exact OX _ _ e
  .rw[a6,wa1];rfl
  .rcases waj.mp hw with z |z
   .exact R w z
   .rw[wa4.mp z];exact TN
 .rintro σ H8 ⟨ws,v7,v8,v9,rfl,s8,h8,Ax,R⟩;refine{_,rfl,_,rfl,by show 2<=sizeLine;decide,λq hq=>?_};exact k q J g ws _ (s8.trans (a7.upd hq)) (none_of s8 hq) fw a6 (a7.upd hq _ _ h8) Tw (by lia) R
theorem xO(L:Lk K mg):aQ P w K mg base cI 2 L.qK L.qW ["_law_script","_law_signs"] (HM K):=by
 have T:=L.T;refine L.rm.F.dF (N:=["_law_script","_law_signs","_law_some","_law_many","_law_wide"]) (λV A outer s H vs Q E nd hr h=>?_);obtain⟨a,ns,g,rfl,Y,u,v,k⟩:=h;obtain⟨x,l,y,B,Z,C,D⟩:∃(x:Pos) (l:List Expr) (y B:Pos),bU (top 80)=.Assign [.Name "_law_some" x] (.List l y) B::(bU (top 80)).tail/\(∀X,PA X l (sr Qp))/\∀env,wbD (.List l y) (some (.Name "_law_some" x)) B.line env=pure false:={_,_,_,_,rfl,λ_=>by repeat first |exact fM |refine Hw ?_,λ_=>rfl};rw[Z]
 refine{_,(G3 (i:=2) nd rfl (wdg rfl) C (a5 (pw (b5 b9 (pv 2) (aS eF (aj (jE L) L.ir (a8 (pv 0) (aF aq))) aq) (λ_ _=>rfl)) (fj rfl (aU (az (i:=3)) (aU (az (i:=4)) dG))))
  (Hq (bp (cD kl (AX T.len (pv 1)) aq) (a9 (ai (i:=4) (aI (pC rfl) (by rfl) T.min HK (a8 (pv 4) (aF aq))))) aH)
  (a9 (aw (cM (a8 (pv 3) (aF (pv 4)))))))) (D _)),?_}
 ac_rfl
 refine Bw λe G I hl hI=>{hl ▸ (by show 12<=sizeLine;decide),λb f=>?_};have d:=I.trans (a7.upd (o:=.lst G) f);have M:=a6 (H:=e) (a:=b) (o:=.lst G);have O:=a7.upd (o:=.lst G) f;generalize upd e b _=Zf at d M O;refine{_,rfl,_,rfl,a,ns,4,rfl,d.seq Y,λc H2 J=>?_};have R:=wbi c (show (12:Int)≠0 by decide);obtain⟨⟨many,wide⟩,m,m2,m8,n,r⟩:=Le _ R (wb8 c (show (0:Int)<12 by decide));obtain⟨q,t,hm⟩:=hI _ _ m;have t:=bq t;rw[Int.toNat_of_nonneg R]at t;have j:=d.trans J;refine{_,_,rfl,rfl,(by show (0:Int)<12;decide),b,_,_,_,rfl,rfl,aK.of (J _ _ M),t,q,_,rfl,fJ.of (J _ _ (O _ _ hm)),rfl,_,_,rfl,_,_,rfl,rfl,?_};refine{λσ S=>S=H2/\∃(wd:Int),σ=[some (.ref a),some (.str g),some (.ref b),some (.int many),some (.int wd)]/\1<=wd/\wd<=6/\(2<g.length->wd<=3),?_,?_}
 .refine{_,rfl,g,rfl,ay (by lia),_,_,rfl,rfl,_,rfl,zF (λU=>?_) (λU=>?_)}
  .refine{_,rfl,wide,3,rfl,?_}
   by_cases z:(3:Int)<wide
   .rw[if_pos z];exact{rfl,3,rfl,⋯,⋯,λ_=>wem _}
   .rw[if_neg z];exact{rfl,wide,rfl,n,r,λ_=>by lia}
  .exact{rfl,wide,rfl,n,r,λz=>absurd (decide_eq_true (by lia)) U}
 .rintro σ S ⟨rfl,wd,rfl,n,r,w3⟩;refine{_,rfl,_,rfl,by show 2<=sizeLine;decide,λp m=>?_};exact k p many wd _ (j.trans (a7.upd m)) (none_of j m) a6 (FQ u v m2 m8 n r w3)
end
end K40
namespace L2
open PySem.Spec PyProof.Rows PySem.W
section
variable{t:Nat}{C:Addr}
noncomputable abbrev eX(C t:Addr):Obj:={cls:=.ref C,data:=.fields #[.ref t,.none,.none,.none,.bool false,.none]}
noncomputable abbrev pW(vs:List Value):Obj:={cls:=.type "tuple",data:=.seq vs.toArray}
end
end L2
namespace L2
open PySem.Spec PyProof.Rows
noncomputable def XN(x C:Addr):HO:=.ext λh=>∃t,h.get? x=some (eX C t)
def LO(K:ZK)(CB:Addr)(t:TA):TE:=λσ H Q=>t σ H λvs H1=>∃x C nm m,vs=[.ref x,m]/\H1 x=some (XN x C)/\eV K C CB nm/\Q .non H1
def LQ(K:ZK)(C:Addr)(sp:Sp)(E:XK)(t:TA):TS:=λ_ σ H=>t σ H λvs H1=>vs.length<=sizeLine/\∀x,H1 x=none ->
 sp (.ref x::vs) (upd H1 x (XN x C)) (λv H2=>v=.non/\((H2 x=some (XN x C)/\E (.ref C) none (del H2 x))\/∃d,H2 x=some (XD x C d)/\E (.ref C) (some d) (del H2 x))) E0
section
variable{prog:wad}{w:World}{A:Around}{R:wdF->Shared->Prop}{h:Heap}{g:Array wcS}{d:Drawn}{t:Nat}{os:wbv}{nm q:Str}{C CB N:Addr}{bs:List Value}{hdct:Bool}{sn:List Str}{sub:List Value}{ab:Bool}{col:Option Bool}{dd:Option Addr}{k0 k1 k2 k3 k5:Option Value}
theorem Gu{rest:List Value}{init:Value}{p:Around}(l:h.get? C=some (wbj nm q C N bs (nD CB) hdct sn sub ab col dd k0 k1 k2 k3 k5 "ValueError.__new__"))
 (hi:Looks (model prog w) h (weK (.ref C) "__init__") (some init)) (J:∀self,Looks (model prog w) h (bindSpecial init self) (init,[self])) (j:rest.length<=sizeLine)
 (T:codeAny (model prog w) p (.call init {.ref (h.objs.size+1)::rest,[]}) (InitBack (h.objs.size+1) R) {(h.push (pW rest)).push (eX C h.objs.size),g,d,t,os}) :
 wpAny (model prog w) p (weh.«type.__call__» {.ref C::rest,[]}) (λfin s'=>match fin with |.done f=>R (.ok f) s' |.again I=>I.quiet=true/\codeAny (model prog w) A I R s') (λe s'=>R (.error e) s') ⟨h,g,d,t,os⟩:=by
 have F:=wbJ
 repeat (first |with_reducible refine waO l ?_ |with_reducible refine wpAny_madeBy_exc l ?_ |wp_step)
 refine codeAny_call_builtin_code (wdm _ F.quiet) (II l ?_);refine IJ l ?_ j;show wpAny _ _ _ _ _ _;have k:∀b o,h.get? b=some o->((h.push (pW rest)).push (eX C h.objs.size)).get? b=some o:=λb o e=>ZQ _ (ZQ _ e)
 have a:=ZQ {cls:=.ref C,data:=.fields #[.ref h.objs.size,.none,.none,.none,.bool false,.none]}
  (ZQ {cls:=.type "tuple",data:=.seq rest.toArray} l)
 have c:((h.push {cls:=.type "tuple",data:=.seq rest.toArray}).push {cls:=.ref C,data:=.fields #[.ref h.objs.size,.none,.none,.none,.bool false,.none]}).get? (h.objs.size+1)=some {cls:=.ref C,data:=.fields #[.ref h.objs.size,.none,.none,.none,.bool false,.none]}:=by heap_get
 have i:(ZY C::nD CB).contains (.ref C)=true:=by simp
 have m:=hi.keeps k;have b1:=(J (.ref (h.objs.size+1))).keeps k;unfold isInstance
 repeat (first |with_reducible refine waO c ?_ |(with_reducible refine wbu a ?_;rw[i]) |wp_step)
 show wpAny _ _ (weK (.ref C) _) _ _ _;refine m.at ?_;refine wb0 (ZN (b1.at ?_));refine ZN (wcI (wbG T λr s' z=>?_));rcases r with e |(v |_ |_ |_)<;>first |exact z |exact z.elim |skip
 obtain⟨rfl,z⟩:=z
 wp_walk
 exact z
theorem zu{rest:List Value}{init:Value}(l:h.get? C=some (wbj nm q C N bs (nD CB) hdct sn sub ab col dd k0 k1 k2 k3 k5 "ValueError.__new__"))
 (hi:Looks (model prog w) h (weK (.ref C) "__init__") (some init)) (p:∀self,Looks (model prog w) h (bindSpecial init self) (init,[self])) (j:rest.length<=sizeLine)
 (r:codeAny (model prog w) (A.under (.builtin "type.__call__" {.ref C::rest,[]})) (.call init {.ref (h.objs.size+1)::rest,[]}) (InitBack (h.objs.size+1) R) {(h.push (pW rest)).push (eX C h.objs.size),g,d,t,os}) :
 codeAny (model prog w) A (.call (.ref C) {rest,[]}) R ⟨h,g,d,t,os⟩:=by
 have f1:=tc_lookup;have f2:=PySem.tc_bind (.ref C);have a:(⟨h,g,d,t,os⟩:Shared).TypeIs (.ref C) "type":={_,l,rfl};refine wfi ?_;show wpAny _ _ (callAny (.ref C) _) _ _ _
 repeat (any_goals (first |assumption |with_reducible refine waO l ?_ |wp_step))
 refine{rfl,?_};exact codeAny_call_builtin_at (wdm _ ∅) entry_typeCall (wpAny_check_type_call_sub l (Gu l hi p j r))
end
section
variable{CB C:Addr}{name:Str}{ta tv:TE}
def O6(K:ZK)(CB:Addr)(ta tv:TE)(name:Str):TS:=λD σ H=>tv σ H λy H1=>ta σ H1 λz H2=>∃x C nm,z=.ref x/\H2 x=some (XN x C)/\eV K C CB nm/\findIn K (.ref C) name=some none /\
 ∀d,H2 d=none->D.nx σ (upd (upd H2 d (.xd [(name,y)])) x (XD x C d))
end
section
variable{P:wad}{w:World}{H:Hp}{h:Heap}{x C t:Addr}
theorem LR(e:h.get? x=some (eX C t)):bZ P w H h x (XN x C):={⟨t,e⟩,{_,e},λc d ⟨a,b⟩ k=>{a,k _ b}}
end
section
variable{X:Cx}{CB C f:Addr}{fd:wb3}{ps:List Str}{sp:Sp}{E:XK}{k:Nat}{p pos i5:Pos}{e:Expr}{es:List Expr}{t:TA}{x nm:Str}
theorem Inv.newExc(I:Inv X g σ H s)(us:List Value)(C:Addr) :
 Inv X g σ (upd H (s.heap.objs.size+1) (XN (s.heap.objs.size+1) C)) {s with heap:=(s.heap.push (pW us)).push (eX C s.heap.objs.size)}:=by
 have c:=I.kept (h':=s.heap.push (pW us)) (t':=s.toks) λb u q=>ZQ _ q;refine c.laid (a:=s.heap.objs.size+1) (t':=s.toks) (λb u q=>ZQ _ q) (wdh (wbo _ _)) (LR (t:=s.heap.objs.size) ?_);have:=wa9 (s.heap.push (pW us)) (o:=eX C s.heap.objs.size) rfl;rwa[wbo]at this
theorem Gv(hT:Bq X E)(hc:X.calm=true)(U:eV X.K C CB nm)(hi:findIn X.K (.ref C) "__init__"=some (some (.ref f)))(J:isFn X.K (.ref f)=true)
 (F:aQ X.prog X.w X.K X.mg X.base cI k f fd ps sp) (hr:cU (k+1) X.A) (hb:Binds X.K fd ps []) (hg:Gl X x) (hm:X.mg x=some (.ref C)) (ha:PA X (e::es) t)
 (T:(x==("__debug__":Str))=false:=by decide) (he:starEach (e::es) X.env=(false,eval e X.env)::starEach es X.env:=by rfl) (hpl:(backTo i5 (starEach es X.env)).any (·.1)=false:=by rfl) :
 PS X (.Raise (some (.Call (.Name x p) (e::es) [] i5)) none pos) (LQ X.K C sp E t):=by
 refine{?_};intro a s σ H D I h;obtain⟨Z,N,bs,sn,sub,ab,col,dd,k0,k1,k2,k3,k5,lk⟩:=U.lk;refine qx (C:=C) (CB:=CB) (nm:=nm) (q:=Z) (N:=N) (bs:=bs) (hdct:=true) (sn:=sn) (sub:=sub) (ab:=ab) (col:=col) (dd:=dd) (k0:=k0) (k1:=k1) (k2:=k2) (k3:=k3) (k5:=k5) (I.ok.hd hc) ?_;refine wb6 (fY I hg hm ?_ T);refine wc4 (h₀:=X.base) I.ok.mod.Je U.kp (bS (ha i5 a s σ H _ I h) λc i ⟨vs,H1,j,r,m,q⟩=>{j.gC,?_}) he hpl;have B:=j.bc.fresh (wc2 i.heap.objs.size);have Q:=q (i.heap.objs.size+1) B;have G:=Inv.newExc j c C;have R:Vals (V.ref (i.heap.objs.size+1)::vs) (ZY (i.heap.objs.size+1)::c):=.cons rfl r
 have hl:(ZY (i.heap.objs.size+1)::c++[]).length=ps.length:=by
  have S:=R.length;rw[F.len _ _ _ _ Q]at S;rw[waL];exact S.symm
 have n:=hb _ (ZY (i.heap.objs.size+1)::c) G.gC hl;rw[waL]at n;obtain⟨L,g,dr,tk,os⟩:=i;refine wcI (zu (j.gC _ _ lk) (wek j.gC hi) (λself=>bind_fn j.gC self (beq_iff_eq.mp J)) (by show c.length<=sizeLine;rw[<-r.length];exact m) ?_);refine wbG (F.run _ X.stack _ _ {ZY (L.objs.size+1)::c,[]} (ZY (L.objs.size+1)::c) _ _ E0 (hr.make C c []) (G.Ho.make C c []) n R Q) λrr Y b=>?_
 cases rr with
 |error e=>exact waz b
 |ok fl=>
  cases fl with
  |next=>exact waz b
  |brk=>exact waz b
  |cont=>exact waz b
  |ret u=>
   obtain⟨v,H',l,rv,ev,q3⟩:=G.after b;subst ev;refine{rv,?_};have o:X.s₀.heap.objs.size<=L.objs.size+1:=wa0 j.sz (wc2 _);rcases q3 with⟨y,M⟩ |⟨d,y,M⟩
   .obtain⟨⟨O,z⟩,_⟩:=l.bc _ _ y;exact{_,none,O,rfl,l.gC _ _ lk,z,hT a σ _ Y _ C none (l.del y) {o,gb,_,_,z,by show 1<6;decide,.inl rfl} M}
   .obtain⟨⟨O,z⟩,_⟩:=l.bc _ _ y;exact{_,some d,O,rfl,l.gC _ _ lk,z,hT a σ _ Y _ C (some d) (l.del y) {o,gb,_,_,z,by show 1<6;decide,.inl rfl} M}
end
end L2
namespace L2
open PySem.Spec PyProof.Rows PySem.W Builtin Builtin.ObjectAttr
section
variable{prog:wad}{w:World}{A:Around}{E:Value->Shared->Prop}{s:Shared}{K:ZK}{x C CB:Addr}{name:Str}{v:Value}
theorem Gw{Q:Unit->Shared->Prop}(X:K.In s.heap)(hx:s.heap.get? x=some (eX C t))(hc:clsIn K C=some cd)(hm:cd.mro=.ref C::nD CB)(hh:cd.hasDict=true)(ha:findIn K (.ref C) name=some none)
 (hs:findIn K (.ref C) "__setattr__"=some (some (.builtin "object.__setattr__")))
 (h:∀h' d tk,s.heap.objs.size<=d->(∀b o,b≠x->s.heap.get? b=some o->h'.get? b=some o)->h'.get? x=some {cls:=.ref C,dict:=some d,data:=.fields #[.ref t,.none,.none,.none,.bool false,.none]}->h'.Ns1 d (λy=>if y=name then some v else none)->Q .unit {s with heap:=h',toks:=tk}) :
 wpAny (model prog w) A (setAttr (.ref x) name v) Q E s:=by
 have J:InstAt s.heap x (eX C t) C none:=⟨hx,rfl,rfl,trivial⟩;refine weF X J hs (wk (s:={s with toks:=s.toks+1}) X J hc hm ha ?_);unfold storeInOwnDict;refine ZN (waa ?_);rw[if_neg (by simp)];unfold ownDictForStores instanceDict;refine ZN (ZN (wfG hx ?_));dsimp only;refine ZN (wen (s:={s with toks:=s.toks+1}) (wdC X hc) ?_);rw[hh];have TQ:(s.heap.push {cls:=.type "dict",data:=.dict #[]}).get? x=some (eX C t):=ZQ _ hx;have TR:x≠s.heap.objs.size:=wa8 (ZX hx);simp only[wg6,wbw,if_false,Bool.not_false,Bool.false_or];rw[if_neg (by simp[typeHasDict])];refine ZN (wpAny_alloc ?_);refine ZN (wpAny_update TQ ?_);refine waa ?_
 have OY:((s.heap.push {cls:=.type "dict",data:=.dict #[]}).update x λo=>{cls:=o.cls,dict:=some s.heap.objs.size,data:=o.data,slots:=o.slots}).get? s.heap.objs.size
  =some {cls:=.type "dict",data:=.dict #[]}:=(wgg _ _ _ _ TR.symm).trans (Heap.get?_push_at rfl rfl)
 have QG:((s.heap.push {cls:=.type "dict",data:=.dict #[]}).update x λo=>{cls:=o.cls,dict:=some s.heap.objs.size,data:=o.data,slots:=o.slots}).Ns s.heap.objs.size (λ_=>none):=
  {_,#[],_,OY,rfl,λe he=>absurd he (by simp),λ_=>rfl}
 show wpAny _ _ (storeInDict s.heap.objs.size (.str name s.toks) name v) _ _ _;unfold storeInDict newKeyGuard;refine ZN (waa (ZN (wgs (wgD QG) λh' C0 Ju=>?_)));obtain⟨oD,Wq,Ws,Ro,Tq,Tr⟩:=C0.count (wfh name v Within.nil);refine ZN (weS Ro (by rw[Tq];exact weT (wa0 Tr (by grind))) ?_)
 wp_walk
 refine h h' s.heap.objs.size _ (ZS _) (λb ob WD hb=>?_) ?_ C0
 .exact(Ju.2 b (wa8 (ZX hb))).trans ((wgg _ _ _ _ WD).trans (ZQ _ hb))
 .exact(Ju.2 x TR).trans (wbd _ TQ rfl)
end
section
variable{prog:wad}{w:World}{A:Around}{s:Shared}{K:ZK}{x C CB:Addr}{R:wdF->Shared->Prop}{nm q:Str}{N:Addr}{bs:List Value}{sn:List Str}{sub:List Value}{ab:Bool}{col:Option Bool}{dd:Option Addr}{k0 k1 k2 k3 k5:Option Value}
theorem uA(X:K.In s.heap)(j:s.heap.get? x=some (eX C t))(hk:K.lookup C=some (wbj nm q C N bs (nD CB) true sn sub ab col dd k0 k1 k2 k3 k5 "ValueError.__new__"))
 (h:∀h' t',(∀b o,b≠x->s.heap.get? b=some o->h'.get? b=some o)->h'.get? x=some (eX C t')->R (.ok (.ret .none)) {s with heap:=h'}) :
 codeAny (model prog w) A (.call (.builtin "ValueError.__init__") {[.ref x,u],[]}) R s:=by
 have F:=wbJ;have f:=X _ _ hk;have J:InstAt s.heap x (eX C t) C none:=⟨j,rfl,rfl,trivial⟩;have sub:Looks (model prog w) s.heap (isInstance (.ref x) (.type "ValueError")) true:=J.type.andThen (looks_mroIn X (by unfold mroIn clsIn;rw[hk];rfl));refine wck F.init.plain F.initEntry ?_;simp only[wdP,F.initKind,F.initSplit,F.initRow];refine ZN (sub.here ?_);simp only[wg6,wbw,if_false];have a:=F.noStar;obtain⟨c,g,d,l,os⟩:=s
 repeat (first |with_reducible refine waO f ?_ |wp_step)
 have i:x≠c.objs.size:=wa8 (ZX j);refine h _ c.objs.size (λb o k e=>?_) ?_
 .rw[wat _ _ (wb4 k)];exact ZQ _ e
 .exact wbd _ (ZQ _ j) rfl
end
section
variable{prog:wad}{w:World}{A:Around}{E:Value->Shared->Prop}{s:Shared}{K:ZK}{x C CB:Addr}{nm q:Str}{N:Addr}{bs:List Value}{sn:List Str}{sub:List Value}{ab:Bool}{col:Option Bool}{dd:Option Addr}{k0 k1 k2 k3 k5:Option Value}
theorem Be{Q:Value->Shared->Prop}(X:K.In s.heap)(g:s.heap.get? x=some (eX C t))(hk:K.lookup C=some (wbj nm q C N bs (nD CB) true sn sub ab col dd k0 k1 k2 k3 k5 "ValueError.__new__"))
 (h:∀h' t',(∀b o,b≠x->s.heap.get? b=some o->h'.get? b=some o)->h'.get? x=some (eX C t')->Q .none {s with heap:=h'}) :
 wpAny (model prog w) A (call (.builtin "ValueError.__init__") [.ref x,u]) Q E s:=wcI (uA X g hk h)
end
end L2
namespace L2
open PySem.Spec PyProof.Rows
section
variable{X:Cx}{CB:Addr}{pos:Pos}{name:Str}{ta tv:TE}{o value:Expr}{pos':Pos}
theorem Jb(ha:PE X o ta)(T:PE X value tv)(hs:wbD value (some (.Attribute o name pos')) pos.line X.env=pure false):PS X (.Assign [.Attribute o name pos'] value pos) (O6 X.K CB ta tv name):=by
 refine{?_};intro g s σ H D I h;refine wcv (bS (T g s σ H _ I h) λu L ⟨y,M,O,Q,q⟩=>bS (ha g L σ M _ O q) λR G S=>?_) hs;obtain⟨z,m,i,V,x,C,Y,Z,l,U,hn,q2⟩:=S;subst Z;obtain rfl:R=ZY x:=V;obtain⟨⟨t,ht⟩,_⟩:=i.bc x _ l;obtain⟨qn,N,bs,sn,sub,ab,r,dd,k0,k1,k2,k3,k5,lk⟩:=U.lk;refine Gw (CB:=CB) i.gC ht (cd:={name:=Y,bases:=bs,mro:=.ref C::nD CB,ns:=N,qualname:=qn,hasDict:=true,slotNames:=sn,subclasses:=sub,abstract:=ab,collection:=r,hasDel:=false}) (by unfold clsIn;rw[lk]) rfl rfl hn U.sa λA d tk hd k ex ns=>{σ,_,?_,q2 d (i.bc.fresh hd)};have TU:d≠x:=λz=>by rw[z]at hd;exact absurd (wa7 (i.bc.lt l) hd) (waW _)
 have c:=i.bc.fresh hd
 have un:Un (pY X.stack) [] m (upd (upd m d (.xd [(name,y)])) x (XD x C d)) G.heap A:=by
  have nx:∀{b:Addr} {o:HO},m b=some o->(∀ψ,o≠.ext ψ)->b≠x:=λe n z=>by rw[z,l]at e;exact n _ (ZU e).symm
  have B:∀{b:Addr},m b=none->b≠x:=λe z=>by rw[z,l]at e;cases e
  refine{λb o q n _ _=>k b o (B n) q,λb o q n _ _=>{o.slots,k b o (B n) q},λb o q n _=>?_,λb o q _=>?_,λb vs q=>?_,λb o v q=>?_,λb ps q=>?_}
  .rw[ae (B n),ae (λz=>by rw[z]at q;exact absurd (wa7 (ZX q) hd) (waW _))];exact n
  .by_cases z:b=x
   .rw[z];exact{_,ex}
   .exact{o,k b o z q}
  .rw[ae (nx q λψ z=>by cases z),ae (af q c)];exact q
  .rw[ae (nx q λψ z=>by cases z),ae (af q c)];exact q
  .exact{#[],by rw[ae (nx q λψ z=>by cases z),ae (af q c),q];simp}
 have bc:jb X.prog X.w (upd (upd m d (.xd [(name,y)])) x (XD x C d)) A:=λa o e=>by
  by_cases z:a=x
  .subst z;rw[a6]at e;cases e;exact Qg ex
  .rw[ae z]at e
   by_cases J:a=d
   .subst J;rw[a6]at e;cases e;refine{_,ns,λf=>?_}
    by_cases p:f=name
    .have j:(f==name)=true:=beq_iff_eq.mpr p;simp only[wfl,j,if_pos p];exact Q
    .have j:(f==name)=false:=beq_eq_false_iff_ne.mpr p;simp only[wfl,j,if_neg p]
     trivial
   .rw[ae J]at e;refine(i.bc a o e).uK (λb u j q=>k b u ?_ q) (λb q=>?_) λb vs q=>?_
    .rintro rfl;rcases j with rfl |j
     .exact z rfl
     .rw[l]at j;cases j
    .have:b≠x:=λE=>by rw[E,l]at q;cases q
     rw[ae this,ae (af q c)];exact q
    .have:b≠x:=λE=>by rw[E,l]at q;cases q
     rw[ae this,ae (af q c)];exact q
 exact i.vA (s':={G with heap:=A,toks:=tk}) rfl un bc i.bare λb z=>absurd z (by simp)
end
section
variable{X:Cx}{CB f:Addr}{p pos apos:Pos}{e e2:Expr}{t:TA}{Mb:Str}
theorem Gx(r:Gl X Mb)(J:X.mg Mb=some (.ref CB))(B:Jn X.K CB)(ha:PA X [e,e2] t)(g:(Mb==("__debug__":Str))=false:=by decide)
 (he:starEach [e,e2] X.env=(false,eval e X.env)::starEach [e2] X.env:=by rfl) (hpl:(backTo pos (starEach [e2] X.env)).any (·.1)=false:=by rfl)
 (j:eval (.Call (.Attribute (.Name Mb p) "__init__" apos) [e,e2] [] pos) X.env=(do
   let l <-eval (.Name Mb p) X.env
   standAt apos.atName
   let (f,first) <-holding [l] (wdT l "__init__" pl)
   callWith pos f first (backTo pos (starEach [e,e2] X.env)) (backToKw pos (wcm [] X.env))):=by rfl) :
 PE X (.Call (.Attribute (.Name Mb p) "__init__" apos) [e,e2] [] pos) (LO X.K CB t):=by
 refine{?_};intro a s σ H Q I h;refine wdU (pl:=pl) (fY I r J ?_ g) j;refine PySem.W.method_cls I.gC B.sp (PySem.W.cls_value I.gC B.rd B.fc rfl ?_);refine we4 (bS (ha pos a _ σ H _ (I.tok _) h) λG i n=>?_) he hpl;obtain⟨L,v,c,w,x,C,M,m,y,d,U,q⟩:=n;subst y;obtain⟨O,R,rfl,A,S⟩:=vals2 w;cases A;obtain⟨⟨t,j⟩,_⟩:=c.bc x _ d;obtain⟨T,N,bs,V,sub,ab,D,Y,Z,k1,k2,k3,k5,lk⟩:=U.lk;refine Be c.gC j lk λh' t' k ex=>{.non,v,?_,rfl,q};have:=c.write (x:=x) (e:=x) (o:=XN x C) (h':=h') (t':=i.toks) (by rw[d];exact wbc) (.inl rfl) (λb u E z=>k b u E z) {_,ex} (LR ex);rw[K5 d]at this;exact this
end
section
variable{X:Cx}{CB C:Addr}{E:XK}{p pos i5:Pos}{e:Expr}{es:List Expr}{t:TA}{x nm:Str}
theorem fV(J:Bq X E)(hc:X.calm=true)(U:eV X.K C CB nm)(hi:findIn X.K (.ref C) "__init__"=some (some (.builtin "ValueError.__init__")))(T:Gl X x)(hm:X.mg x=some (.ref C))(ha:PA X (e::es) t)
 (l:(x==("__debug__":Str))=false:=by decide) (he:starEach (e::es) X.env=(false,eval e X.env)::starEach es X.env:=by rfl) (hpl:(backTo i5 (starEach es X.env)).any (·.1)=false:=by rfl) :
 PS X (.Raise (some (.Call (.Name x p) (e::es) [] i5)) none pos) (Hi C E t):=by
 refine{?_};intro a s σ H D I h;obtain⟨y,N,bs,sn,sub,ab,col,dd,k0,k1,k2,k3,k5,lk⟩:=U.lk;refine qx (C:=C) (CB:=CB) (nm:=nm) (q:=y) (N:=N) (bs:=bs) (hdct:=true) (sn:=sn) (sub:=sub) (ab:=ab) (col:=col) (dd:=dd) (k0:=k0) (k1:=k1) (k2:=k2) (k3:=k3) (k5:=k5) (I.ok.hd hc) ?_;refine wb6 (fY I T hm ?_ l);refine wc4 (h₀:=X.base) I.ok.mod.Je U.kp (bS (ha i5 a s σ H _ I h) λA c ⟨Q,B,d,r,f,q⟩=>{d.gC,?_}) he hpl
 obtain⟨u,rfl⟩:∃u,A=[u]:=by
  have:=r.length;rw[f]at this;exact List.length_eq_one_iff.mp this.symm
 have m:=Inv.newExc d [u] C;have i:(upd B (c.heap.objs.size+1) (XN (c.heap.objs.size+1) C)) (c.heap.objs.size+1)=some (XN (c.heap.objs.size+1) C):=a6;have j:=d.bc.fresh (wc2 c.heap.objs.size);obtain⟨k,g,R,G,os⟩:=c;refine wcI (zu (d.gC _ _ lk) (wek d.gC hi) (λself=>Looks.of_pure (wbJ.init.bind self)) (by show 1<=sizeLine;decide) ?_);obtain⟨⟨S,L⟩,_⟩:=m.bc _ _ i;refine uA m.gC L lk λh' t' M ex=>{rfl,?_};have w:=m.write (x:=k.objs.size+1) (e:=k.objs.size+1) (o:=XN (k.objs.size+1) C) (h':=h') (t':=G) (by rw[i];exact wbc) (.inl rfl) (λb u O z=>M b u O z) {_,ex} (LR ex);rw[Bg]at w;have n:=w.del (x:=k.objs.size+1) a6;rw[Bo j]at n;have v:X.s₀.heap.objs.size<=k.objs.size+1:=wa0 d.sz (wc2 _);exact{_,none,t',rfl,n.gC _ _ lk,ex,J a σ _ _ _ C none n {v,j,_,_,ex,by show 1<6;decide,.inl rfl} q}
end
end L2
namespace K40
section
variable{P:wad}{w:World}{K:ZK}{mg:Str->Option Value}{base:Heap}
local macro_rules|`(tactic|ac_rfl)=>`(tactic|try dsimp only[cZ,d1,b0,b4])
theorem mK(L:Lk K mg):aQ P w K mg base (yc P w) 1 L.oq L.oI ["sheet","many","steps","weight"] (L4 K L.av L.f9):=by
 have T:=L.T;refine L.d4.F.Dn (N:=["sheet","many","steps","weight"]) (λR A outer s H vs Q E nd hr h=>?_);obtain⟨x,many,v,w,hs,ws,lns,b,rfl,S,U,X,r,m0,m1,k⟩:=h
 refine{_,(a5 (bp (cD nM (AY T.len (pv 2)) aq) (a9 (fV cy rfl L.j2 L.hX rfl L.j1 (aF eE))) aH)
  (a5 (bp (cD iO (pv 3) aq) (a9 (fV cy rfl L.j2 L.hX rfl L.j1 (aF eE))) aH)
  (a9 (bp (cD iO (aI (iQ rfl) (by rfl) T.sum Ai (aF (fv rfl (ax ["sheet"] [0]) (ax ["sheet"] [0]) ⋯ (aM (pv 2)) (λ_ _ _ _ _ _=>bb) (λ_ _ _ _ _ _=>(b5 (gf (K:=K) rfl) (lL (K:=K) rfl (pv 2) rfl) (pv 1) (λ_ _=>rfl)))))) (aS gV (pv 1) (pv 3))) (a9 (fV cy rfl L.j2 L.hX rfl L.j1 (aF eE))) aH)))),?_}
 ac_rfl
 obtain⟨Y,Z,bw,cl,hx,rh,t,rl⟩:=id S;obtain⟨SZ,eb,hb⟩:=eN t;cases eb;obtain⟨a,n,rfl,o,I⟩:=dA U;have f:n.length=b.length:=by rw[I.1,ZI,ZI]
 have no:eG ws many b w=false->∀u,a7 H u->E (.ref L.f9) none u:=λh=>by
  rcases k with⟨p,_⟩ |⟨_,g⟩
  .rw[h]at p;cases p
  .exact g
 by_cases y:b=[]
 .subst y;have r0:n=[]:=wba f;subst r0;exact{_,rfl,a,_,rfl,.inl o,rfl,true,Ee _,eJ {rfl,no rfl H (a7.refl _)}}
 have Zg:n.length≠0:=by rw[f];exact λz=>y (wba z)
 have i:b.isEmpty=false:=by cases b with |nil=>exact absurd rfl y |cons _ _=>rfl
 refine{_,rfl,a,_,rfl,.inl o,rfl,false,congrArg V.bl (decide_eq_false λz=>by have:=V.int.inj z;rw[ZI]at this;omega),bo ?_}
 by_cases J:w<1
 .refine{_,rfl,_,_,rfl,rfl,true,congrArg V.bl (decide_eq_true J),eJ {rfl,no ?_ H (a7.refl _)}};unfold eG;rw[decide_eq_false (show ¬1<=w by omega),wcp,wdv]
 refine{_,rfl,_,_,rfl,rfl,false,congrArg V.bl (decide_eq_false J),bo ?_};refine{_,rfl,a,rfl,{_,o},λlc B=>?_};refine mY (prs:=b.map eA) (λ_=>true) (λq=>match q.2 with |.int e=>.int (ws.getD e.toNat 0) |_=>.non) (aL K a (n.map V.ref)) I B (ay ()) (λu s'=>s'.seq o) (λq c M _ _ C=>C c (a7.refl _)) (λq c M hq _ j C=>?_) (λc j O=>?_)
 .obtain⟨d,D,rfl⟩:=ZR.mp hq;have l:=r d D;have G:uG (ws.map V.int) (d.2:Int)=some (.int (ws.getD d.2 0)):=bq (by rw[ZM,ZJ l,ZL,ZJ l];rfl)
  have q2:M (.int (ws.getD d.2 0)) c:=by
   have:=C c (a7.refl _);rwa[show (eA d).2=.int (d.2:Int) from rfl]at this
  exact{_,rfl,x,L.av,Y,_,_,rfl,j _ _ hx,L.ao.cl,L.ao.bK,bM Z bw cl,_,rfl,bw,_,_,_,rfl,rfl,j.seq hb,G,q2}
 have e7:((b.map eA).filter λ_=>true).map (λq=>match q.2 with |.int e=>V.int (ws.getD e.toNat 0) |_=>.non)=(b.map λq=>ws.getD q.2 0).map V.int:=by
  rw[waD.mpr (λ_ _=>rfl),ZV,ZV];rfl
 rw[e7]at O;refine{lc,_,rfl,aK.of O,_,rfl,_,rfl,_,_,rfl,rfl,.inl {(),()},_,_,rfl,rfl,?_}
 by_cases m:b8 ws b<many*w
 .refine{true,congrArg V.bl (decide_eq_true m),eJ {rfl,no ?_ c j}};unfold eG;rw[decide_eq_false (show ¬many*w<=b8 ws b by omega),wdv,wdv]
 .refine{false,congrArg V.bl (decide_eq_false m),bo ?_};rcases k with⟨_,p⟩ |⟨g,_⟩
  .exact p c j
  .unfold eG at g;rw[i,decide_eq_true (show 1<=w by omega),decide_eq_true (show many*w<=b8 ws b by omega)]at g;cases g
theorem zv(L:Lk K mg):aQ P w K mg base (yc P w) 4 L.BQ L.BU ["sheet","many","desk","numbers","weight"] (Im K L.av L.f9):=by
 have T:=L.T;refine L.jy.F.Dn (N:=["sheet","many","desk","numbers","weight","line","chosen","others","rest","lines","weights","twin"]) (λgn A outer s H vs Q E nd hr h=>?_);obtain⟨x,a,many,p,w,ns,hs,ws,lns,rfl,S,hA,M8,Wv,m0,m1,k⟩:=h
 refine{_,(a5 (bp (bH (bB (aj (jW L) L.hH (a8 (pv 2) (aF (aC (pv 0) rfl)))))) (a9 (fV cy rfl L.j2 L.hX rfl L.j1 (aF eE))) aH)
  (a5 (ai (i:=5) (b5 b9 (aC (pv 0) rfl) (pv 2) (λ_ _=>rfl)))
  (a5 (bp (bH (bB (aI (sO rfl) (by rfl) T.all KJ (aF (bV rfl (ax ["line"] [5]) (aM (pv 3)) (λ_ _ _ _ _ _=>bb) (λ_ _ _ _ _ _=>(aj (jW L) L.hH (a8 (pv 0) (aF (pv 1)))))))))) (a9 (fV cy rfl L.j2 L.hX rfl L.j1 (aF eE))) aH)
  (a5 (qw (i:=6) rfl (ax ["numbers"] [3]) nd rfl rfl (ax ["numbers"] [3]) ⋯ (nR (by rfl) T.enum (aF (pv 5))) (λ_ _ _ _ _ _=>fZ (fX (gU (K:=K) rfl) (pv 0) (pv 2) rfl)) (λ_ _ _ _ _ _=>(pv 1)))
  (a5 (qw (i:=7) rfl (ax ["numbers"] [3]) nd rfl rfl (ax ["numbers"] [3]) ⋯ (nR (by rfl) T.enum (aF (pv 5))) (λ_ _ _ _ _ _=>fZ (fX (uL (K:=K) rfl) (pv 0) (pv 2) rfl)) (λ_ _ _ _ _ _=>(pv 1)))
  (a5 (ai (i:=8) (aS mU (b5 b9 (aC (pv 0) rfl) (pv 2) (λ_ _=>rfl)) (pv 4)))
  (a5 (bL (ia (mK L) (hr.mono ⋯) rfl L.d4.g L.d4.F.kp L.d4.b .nil (vF cy) (a8 (pv 0) (a8 (pv 1) (a8 (pv 6) (aF (pv 4)))))))
  (a5 (bL (ia (mK L) (hr.mono ⋯) rfl L.d4.g L.d4.F.kp L.d4.b .nil (vF cy) (a8 (pv 0) (a8 (pv 1) (a8 (pv 7) (aF (pv 8)))))))
  (a5 (ai (i:=9) (aS wX (aC (pv 0) rfl) (cC (aF (pv 7)))))
  (a5 (pw (pv 6) (Es (pv 9) (pv 2) set_list))
  (a5 (ai (i:=10) (aS wX (aC (pv 0) rfl) (cC (aF (pv 8)))))
  (a5 (pw (pv 4) (Es (pv 10) (pv 2) set_list))
  (a5 (ai (i:=11) (AY T.len (aC (pv 0) rfl)))
  (a9 (aw (jh L.uj (fG L) (hr.mono ⋯) rfl L.xC L.ez.b .nil lX (a8 (aS wX (aC (pv 0) rfl) (cC (aF (b5 b9 (aC (pv 0) rfl) (pv 2) (λ_ _=>rfl))))) (a8 (pv 10) (aF (bV rfl (ax ["desk","twin"] [2,11]) (aM (pv 9)) (λ_ _ _ _ _ _=>bb) (λ_ _ _ _ _ _=>(aj (uZ L) L.oX (a8 (pv 0) (a8 (pv 1) (aF (pv 2)))))))))))))))))))))))))),?_}
 ac_rfl
 refine lT λR1 c1=>?_;obtain⟨Z,G,bw,cl,hx,rh,DW,rl⟩:=id S;have hh:=oh rh;have hw:=Ia DW;obtain⟨M6,j,ec,hc,xR⟩:=id rl;cases ec;have xl:j.length=lns.length:=by rw[xR.len,ZI]
 have hn:=Wv.n;have Ax:=Wv.w;have zz:=Wv.l
 have no:cK ws lns many p ns w=false->∀H',a7 H H'->E (.ref L.f9) none H':=λh=>by
  rcases k with⟨k1,_⟩ |⟨_,k2⟩
  .rw[h]at k1;cases k1
  .exact k2
 cases h1:eM p lns.length with
 |false=>
  refine{_,rfl,_,rfl,x,L.av,Z,_,_,rfl,hx,L.ao.cl,L.ao.cf,bj G bw cl,p,cl,j,rfl,.inl hc,false,congrArg V.bl (by rw[xl];exact h1),eJ {rfl,no ?_ H (a7.refl _)}};unfold cK;rw[h1,wcp]
 |true=>
 obtain⟨d,rfl,hd⟩:∃d:Nat,p=(d:Int)/\d<lns.length:=by
  unfold eM at h1;rw[waV]at h1;have a1:=of_decide_eq_true h1.1;have a2:=of_decide_eq_true h1.2;exact{p.toNat,by lia,by lia}
 refine{_,rfl,_,rfl,x,L.av,Z,_,_,rfl,hx,L.ao.cl,L.ao.cf,bj G bw cl,_,cl,j,rfl,.inl hc,true,congrArg V.bl (by rw[xl];exact h1),bo ?_};refine c1 _ _ (lT λR2 c2=>?_);rw[wae]at k;have TU:d<j.length:=by lia
 have TV:j[d]?=some j[d]:=ZJ TU;obtain⟨dd,Md,rd⟩:=xR.get d _ TV;have TX:lns[d]?=some lns[d]:=ZJ hd;rw[ZM,TX]at Md;cases Md;have OY:lns.getD d []=lns[d]:=by rw[ZL,TX];rfl
 have Mf:lns[d]∈lns:=wah hd;have Rr:=Wv.m _ Mf;have O7:=Wv.e _ Mf
 have TY:cK ws lns many (d:Int) ns w=(ns.all (λi=>eM i lns[d].length)&&(eG ws many (aW ns lns[d]) w&&eG ws many (aV ns lns[d]) (ws.getD d 0-w))):=by
  unfold cK;rw[h1,wcg,wae,OY]
 unfold cE at k;rw[OY]at k;rw[TY]at k no;refine{_,rfl,x,L.av,Z,_,_,rfl,hx,L.ao.cl,L.ao.cf,bj G bw cl,_,rfl,cl,j,_,j[d],rfl,rfl,.inl hc,bq TV,?_};obtain⟨al,ys,el,I,JR⟩:=rd;rw[el];have yl:ys.length=lns[d].length:=by rw[JR.len,ZI]
 generalize lns[d]=f at TY Mf Rr O7 JR yl k no;refine c2 _ _ (lT λR3 c3=>?_);refine{_,rfl,a,rfl,{_,hA},λl1 Rt=>?_};refine comp_map (λv=>match v with |.int i=>V.bl (eM i ys.length) |_=>.non) (aL K a (ns.map V.int)) Rt (by rw[ZI];exact ay (by lia)) (λH' s'=>s'.seq hA) (λz H2 Q' hz s2 J=>?_) (λH2 s2 h2=>?_)
 .obtain⟨i,_,rfl⟩:=ZR.mp hz;exact{_,rfl,_,rfl,i,al,ys,rfl,s2.seq (.inl I),J H2 (a7.refl _)}
 have e2:(ns.map V.int).map (λv=>match v with |.int i=>V.bl (eM i ys.length) |_=>.non)=(ns.map λi=>eM i f.length).map V.bl:=by
  rw[ZV,ZV,yl];rfl
 rw[e2]at h2
 have O8:((ns.map λi=>eM i f.length).all id)=ns.all (λi=>eM i f.length):=by
  rw[we1];rfl
 cases h3:ns.all (λi=>eM i f.length) with
 |false=>
  refine{l1,_,rfl,aK.of h2,false,congrArg V.bl (O8.trans h3),eJ {rfl,no ?_ H2 s2}};rw[h3,wcp]
 |true=>
 refine{l1,_,rfl,aK.of h2,true,congrArg V.bl (O8.trans h3),bo ?_};refine c3 _ _ (lT λR4 c4=>?_);rw[h3,wcg]at k no;refine{_,rfl,al,ys,rfl,s2.seq (.inl I),λY J4=>?_};refine vU (λi=>nK (.int (i:Nat)) (ns.map V.int)) (s2.seq (.inl I)) J4 (ay (by lia)) (λi y H3 Q' _ s3 J=>?_) (λi y H3 Q' _ s3 J=>{_,rfl,J H3 (a7.refl _)}) (λH3 s3 TZ=>?_)
 .exact{_,rfl,_,rfl,a,_,rfl,.inl ((s2.trans s3).seq hA),rfl,iJ ns,_,rfl,J H3 (a7.refl _)}
 have WG:(λi:Nat=>nK (.int (i:Nat)) (ns.map V.int))=λi:Nat=>decide ((i:Int)∈ns):=funext λi=>su _ ns;rw[WG]at TZ;have J8:=s2.trans s3;refine c4 _ _ (lT λR5 c5=>?_);refine{_,rfl,al,ys,rfl,J8.seq (.inl I),λlo MO=>?_};refine vU (λi=>!nK (.int (i:Nat)) (ns.map V.int)) (J8.seq (.inl I)) MO (ay (by lia)) (λi y H4 Q' _ s4 J=>?_) (λi y H4 Q' _ s4 J=>{_,rfl,J H4 (a7.refl _)}) (λH4 s4 U0=>?_)
 .exact{_,rfl,_,rfl,a,_,rfl,.inl ((J8.trans s4).seq hA),rfl,iJ ns,_,rfl,J H4 (a7.refl _)}
 have Ru:(λi:Nat=>!nK (.int (i:Nat)) (ns.map V.int))=λi:Nat=>!decide ((i:Int)∈ns):=funext λi=>congrArg (!·) (su _ ns);rw[Ru]at U0;have t:=J8.trans s4;refine c5 _ _ (lT λR6 c6=>?_);have WH:=s4 _ _ TZ;have rC:b7 K H4 (bG (aW ns f)) (.ref Y):={Y,_,rfl,.inl WH,yI _ (aO.same t _ _ JR)};have rO:b7 K H4 (bG (aV ns f)) (.ref lo):={lo,_,rfl,.inl U0,yI _ (aO.same t _ _ JR)};have U1:(aW ns f).length<=5000:=wa0 (lK _ _ _) Rr;have WK:(aV ns f).length<=5000:=wa0 (lK _ _ _) Rr;have ce:∀q∈aW ns f,q.2<ws.length:=λq hq=>by rw[Ax];exact O7 q (dk hq)
 have oe:∀q∈aV ns f,q.2<ws.length:=λq hq=>by rw[Ax];exact O7 q (dk hq)
 have U2:d<ws.length:=by lia
 have Rv:uG (ws.map V.int) (d:Int)=some (.int (ws.getD d 0)):=bq (by rw[ZM,ZJ U2,ZL,ZJ U2];rfl);refine{_,rfl,x,L.av,Z,_,_,rfl,t _ _ hx,L.ao.cl,L.ao.bK,bM G bw cl,_,rfl,bw,_,_,_,rfl,rfl,t.seq (.inl hw),Rv,_,rfl,_,_,rfl,rfl,?_};show eI 8 (V.int (ws.getD d 0-w)) _ _ _;refine c6 _ _ (lT λR7 c7=>?_);have S4:=S.same t;refine{_,rfl,_,rfl,_,rfl,_,rfl,x,many,.ref Y,w,hs,ws,lns,aW ns f,rfl,S4,rC,by lia,ce,m0,m1,?_}
 cases h5:eG ws many (aW ns f) w with
 |false=>exact .inr {rfl,λH5 s5=>no (by rw[h5,wcp]) H5 (t.trans s5)}
 |true=>
 refine .inl {rfl,λH5 s5=>?_};refine c7 _ _ (lT λR8 c8=>?_);rw[h5,wcg]at k no;refine{_,rfl,_,rfl,_,rfl,_,rfl,x,many,.ref lo,ws.getD d 0-w,hs,ws,lns,aV ns f,rfl,S4.same s5,b7.same s5 _ _ rO,by lia,oe,m0,m1,?_}
 cases h6:eG ws many (aV ns f) (ws.getD d 0-w) with
 |false=>exact .inr {rfl,λH6 s6=>no h6 H6 ((t.trans s5).trans s6)}
 |true=>
 refine .inl {rfl,λH6 s6=>?_};refine c8 _ _ ?_;obtain⟨_,kk⟩:True/\_:=⟨trivial,k⟩;rcases kk with⟨_,k⟩ |⟨k1,_⟩
 rotate_left
 .rw[h6]at k1;cases k1
 have Rw:=s5.trans s6;have JS:=t.trans Rw;have WL:=b7.same Rw _ _ rC;have WM:=b7.same Rw _ _ rO;have big:∀n:Nat,n<=20000->n<=sizeLine:=λn hn=>wa0 hn (by rw[wbF];decide);refine{_,rfl,x,L.av,Z,_,_,rfl,JS _ _ hx,L.ao.cl,L.ao.cf,bj G bw cl,_,rfl,by show 1<=sizeLine;decide,λl7 U3=>?_};refine{cl,l7,j,[.ref lo],rfl,rfl,nF (JS.trans (a7.upd U3)) hc,.inl a6,big _ (by show j.length+1<=_;lia),λM C=>?_};have U4:a7 H6 (upd H6 l7 (.lst [V.ref lo])):=a7.upd U3;generalize upd H6 l7 (.lst [V.ref lo])=O at U4 C;have Zh:a7 O (upd O M (.lst (j++[V.ref lo]))):=a7.upd C
 have T7:Cg (j++[V.ref lo]).length (d:Int)=some d:=by
  have R:(j++[V.ref lo]).length=j.length+1:=by rw[ZP];rfl
  unfold Cg;rw[R,if_pos (by lia),if_pos (by lia),wae]
 refine{_,rfl,_,rfl,_,rfl,M,_,_,d,rfl,rfl,a6,T7,?_};have Oy:(upd (upd O M (.lst (j++[V.ref lo]))) M (.lst ((j++[V.ref lo]).set d (V.ref Y)))) M=some (.lst ((j++[V.ref lo]).set d (V.ref Y))):=a6
 have OZ:a7 H6 (upd (upd O M (.lst (j++[V.ref lo]))) M (.lst ((j++[V.ref lo]).set d (V.ref Y)))):=λc o e=>by
  have D:=U4 _ _ e;rw[ae (af D C),ae (af D C)];exact D
 generalize upd (upd O M (.lst (j++[V.ref lo]))) M (.lst ((j++[V.ref lo]).set d (V.ref Y)))=H8 at Oy OZ;have P0:=JS.trans OZ
 have WN:aO K H8 (((lns++[aV ns f]).set d (aW ns f)).map bG) ((j++[V.ref lo]).set d (V.ref Y)):=by
  have r1:aO K H8 (lns.map bG++[bG (aV ns f)]) (j++[V.ref lo]):=gM (aO.same P0 _ _ xR) (b7.same OZ _ _ WM)
  have e:((lns++[aV ns f]).set d (aW ns f)).map bG=(lns.map bG++[bG (aV ns f)]).set d (bG (aW ns f)):=by
   rw[List.map_set,wa1];rfl
  rw[e];exact r1.set d (b7.same OZ _ _ WL)
 refine{_,rfl,x,L.av,Z,_,_,rfl,P0 _ _ hx,L.ao.cl,L.ao.bK,bM G bw cl,_,rfl,by show 1<=sizeLine;decide,λl9 U5=>?_};refine{bw,l9,_,[.int (ws.getD d 0-w)],rfl,rfl,nF (P0.trans (a7.upd U5)) hw,.inl a6,big _ (by rw[ZI];show ws.length+1<=_;lia),λlw JQ=>?_};have U6:a7 H8 (upd H8 l9 (.lst [.int (ws.getD d 0-w)])):=a7.upd U5;generalize upd H8 l9 (.lst [.int (ws.getD d 0-w)])=Rx at U6 JQ;have Ry:ws.map V.int++[V.int (ws.getD d 0-w)]=(ws++[ws.getD d 0-w]).map V.int:=by rw[wa1];rfl
 rw[Ry]
 have Rz:Cg ((ws++[ws.getD d 0-w]).map V.int).length (d:Int)=some d:=by
  have R:((ws++[ws.getD d 0-w]).map V.int).length=ws.length+1:=by rw[ZI,ZP];rfl
  unfold Cg;rw[R,if_pos (by lia),if_pos (by lia),wae]
 refine{_,rfl,_,rfl,_,rfl,lw,_,_,d,rfl,rfl,a6,Rz,?_}
 have RA:((ws++[ws.getD d 0-w]).map V.int).set d (.int w)=(bT ws d w).map V.int:=by
  unfold bT;rw[List.map_set]
 rw[RA];have U7:(upd (upd Rx lw (.lst ((ws++[ws.getD d 0-w]).map V.int))) lw (.lst ((bT ws d w).map V.int))) lw=some (.lst ((bT ws d w).map V.int)):=a6
 have RB:a7 H8 (upd (upd Rx lw (.lst ((ws++[ws.getD d 0-w]).map V.int))) lw (.lst ((bT ws d w).map V.int))):=λc o e=>by
  have D:=U6 _ _ e;rw[ae (af D JQ),ae (af D JQ)];exact D
 generalize upd (upd Rx lw (.lst ((ws++[ws.getD d 0-w]).map V.int))) lw (.lst ((bT ws d w).map V.int))=H9 at U7 RB;have u:=P0.trans RB;refine{_,rfl,x,L.av,Z,_,_,rfl,u _ _ hx,L.ao.cl,L.ao.cf,bj G bw cl,cl,j,rfl,.inl (u.seq (.inl hc)),?_};rw[xl];have U8:d<hs.length:=by lia
 have RC:uG (hs.map V.str) (d:Int)=some (.str (hs.getD d "")):=bq (by rw[ZM,ZJ U8,ZL,ZJ U8];rfl);refine{_,rfl,x,L.av,Z,_,_,rfl,u _ _ hx,L.ao.cl,L.ao.dH,cz G bw cl,_,rfl,x,L.av,Z,_,_,rfl,u _ _ hx,L.ao.cl,L.ao.dH,cz G bw cl,_,rfl,G,_,_,_,rfl,rfl,u.seq (.inl hh),RC,by show 1<=sizeLine;decide,λl10 Jc=>?_};refine{G,l10,_,[.str (hs.getD d "")],rfl,rfl,nF (u.trans (a7.upd Jc)) hh,.inl a6,big _ (by rw[ZI];show hs.length+1<=_;lia),λlh JO=>?_};have U9:a7 H9 (upd H9 l10 (.lst [.str (hs.getD d "")])):=a7.upd Jc;generalize upd H9 l10 (.lst [.str (hs.getD d "")])=Ua at U9 JO;have O9:hs.map V.str++[V.str (hs.getD d "")]=(cm hs d).map V.str:=by unfold cm;rw[wa1];rfl
 rw[O9];have P7:=U9.trans (a7.upd (o:=.lst ((cm hs d).map V.str)) JO);have Oa:(upd Ua lh (.lst ((cm hs d).map V.str))) lh=some (.lst ((cm hs d).map V.str)):=a6;generalize upd Ua lh (.lst ((cm hs d).map V.str))=LN at P7 Oa;have JU:=RB.trans P7;have U:=JU _ _ Oy;have RD:=aO.same JU _ _ WN;have zl:((j++[V.ref lo]).set d (V.ref Y)).length=lns.length+1:=by rw[wbS,ZP,xl];rfl
 refine{_,rfl,_,rfl,M,rfl,{_,aK.of U},λlt Lh=>?_}
 have Ob:∀l∈(lns++[aV ns f]).set d (aW ns f),l.length<=5000:=λl hl=>by
  rcases wcl hl with z |z
  .rcases waj.mp z with z |z
   .exact Wv.m l z
   .rw[wa4.mp z];exact WK
  .rw[z];exact U1
 refine uw (K:=K) ((((lns++[aV ns f]).set d (aW ns f)).map (eB d lns.length)).map bG) (aL K M ((j++[V.ref lo]).set d (V.ref Y))) Lh (big _ (by rw[zl];lia)) (by rw[ZI,ZI,wbS,ZP,zl];rfl) (λH' s'=>aK.of (s' _ _ U)) (λi y dt Gs Q' hy IV B J=>?_) (λGs B Ub=>?_)
 .obtain⟨d',D,r⟩:=RD.get i y hy;rw[ZM]at D IV;rw[ZM]at IV
  cases e:((lns++[aV ns f]).set d (aW ns f))[i]? with
  |none=>rw[e]at D;cases D
  |some l=>
   rw[e]at D IV;cases D;cases IV;exact{_,rfl,_,rfl,_,rfl,y,d,lns.length,l,rfl,b7.same B _ _ r,Ob l (ZT e),λz X Ja WO=>J z X Ja WO}
 intro y dy ny QY Wf;have sm:a7 Gs (upd (upd Gs dy (.own y)) y (.ins L.av dy [])):=dn ny QY;have Gy:=u.trans P7;refine{y,dy,.ref lh,.ref lw,.ref lt,cm hs d,bT ws d w,((lns++[aV ns f]).set d (aW ns f)).map (eB d lns.length),rfl,a6,og (sm _ _ (B _ _ Oa)),iU (sm _ _ (B _ _ (P7 _ _ U7))),b7.same ((aX _ _).trans sm) _ _ Ub,?_,?_,?_,?_,λa' b' c' X RE q1 q2 q3 RF=>{rfl,?_}}
 .unfold cm;rw[ZP];show hs.length+1<=_;lia
 .unfold bT;rw[wbS,ZP];show ws.length+1<=_;lia
 .rw[ZI,wbS,ZP];show lns.length+1<=_;lia
 .intro l hl;obtain⟨l',O1,rfl⟩:=ZR.mp hl;have:=pH d lns.length l';have:=Ob l' O1
  lia
 .have Ja:a7 Gs X:=λc o e=>RF _ _ (sm _ _ e) (af e ny);refine k y X (Gy.trans (B.trans Ja)) ?_;have Ra:H y=none:=none_of (Gy.trans B) ny;have nw:=λ(dd:gL) (v:V) (r:b7 K (aG _ X) dd v)=>b7.same (ee ((Gy.trans B).trans sm)) dd v r;exact{dy,a',b',c',bR Ra RE,nw _ _ q1,nw _ _ q2,nw _ _ q3}
theorem iG(L:Lk K mg):aQ P w K mg base (yc P w) 7 L.f5 L.f7 ["band","many","wide"] (G4 L.aA L.nu):=by
 have T:=L.T;refine L.cg.F.Dn (N:=["band","many","wide","most","weights","in_all"]) (λU A outer s H vs Q E nd hr h=>?_);obtain⟨x,many,n,g,ws,ss,ls,rfl,B,r,t,u,y,k,M⟩:=h
 refine{_,(a5 (Ew wgO rfl (pB rfl T.range (a8 aq (aF (aS gq (rR (v:=.int 8) (by rfl) L.um.choose_spec {_,rfl}) aq)))) (az (i:=3)) (a5 (ai (i:=4) (aj (zp L) L.ui (a8 (pv 0) (a8 (pv 1) (a8 (pv 2) (aF (pv 3)))))))
  (a5 (ai (i:=5) (aI (DI rfl) (by rfl) T.sum Ai (aF (wY (K:=K) rfl wdy wcs wdr pD (pv 4)))))
  (a5 (bp (cD kl (pv 5) (rR (v:=.int 40) (by rfl) L.k6.choose_spec {_,rfl})) (a9 (fV cy rfl L.xD L.BZ rfl L.AZ (aF eE))) aH)
  (a9 (bp (cD kl (pv 5) aq) (a9 (aw (pv 4))) aH))))))
  (a9 (fV cy rfl L.xD L.BZ rfl L.AZ (aF eE)))),?_}
 ac_rfl
 refine{_,_,rfl,rfl,1,9,rfl,⋯,?_};refine dh (lo:=1) (n:=8) (λi σ q=>∃z v4 C:Option V,σ=[some (.ref x),some (.int many),some (.int (n:Int)),z,v4,C]/\a7 H q/\∀(m:Int) (h:Str->Int),1<=m->m<1+(i:Int)->m4 g ws ss ls many n m h->(ls.map h).sum=0) {none,none,none,rfl,a7.refl _,λm h O X=>by lia} ?_ ?_
 .rintro i σ q hi ⟨z,v4,C,rfl,j,l⟩;refine{_,rfl,_,rfl,_,rfl,_,rfl,x,many,n,1+(i:Int),g,ws,ss,ls,rfl,B.same j,r,t,u,y,by lia,λd f R Y fd D G=>?_};refine{_,rfl,.inr (.inr (.inl {rfl,.inl {_,D}})),d,_,rfl,rfl,D,λv Z=>?_};have I:=a7.upd (o:=iH v d) Z;have J:=I _ _ D;have p:(upd R v (iH v d)) v=some (iH v d):=a6;generalize upd R v (iH v d)=S at I J p;have a:=j.trans (Y.trans I);refine{v,d,_,ls.map f,rfl,p,J,Ae f ls,?_}
  by_cases b:(40:Int)<(ls.map f).sum
  .refine{_,rfl,_,_,rfl,rfl,true,congrArg V.bl (decide_eq_true b),eJ {rfl,?_}};exact M {1+(i:Int),by lia,by lia,l,.inr ⟨f,G,b⟩} S a
  refine{_,rfl,_,_,rfl,rfl,false,congrArg V.bl (decide_eq_false b),bo ?_}
  by_cases h0:(0:Int)<(ls.map f).sum
  .refine{_,rfl,_,_,rfl,rfl,true,congrArg V.bl (decide_eq_true h0),eJ {_,rfl,?_}};exact k d f S a (none_of j fd) J {{1+(i:Int),by lia,by lia,G,l},h0,by lia}
  .refine{_,rfl,_,_,rfl,rfl,false,congrArg V.bl (decide_eq_false h0),bo ?_};refine{_,_,_,rfl,a,λm h O X c=>?_}
   by_cases e:m=1+(i:Int)
   .subst e;have:=Di G c;have:=sZ c.nn
    lia
   .exact l m h O (by lia) c
 .rintro σ q ⟨z,v4,C,rfl,j,l⟩;exact{rfl,M {9,⋯,⋯,l,.inl rfl} q j}
end
end K40
namespace L2
theorem Gz{Ok:Hp->Prop}{Q:Hp->Prop}(t:List gL)(hJ:k4 J Ok xs)(hl:H l=none)(hz:xs.length<=sizeLine)(C:t.length=xs.length)(T:∀g,a7 H g->Ok g)
 (he:∀(i:Nat) (x:V) (d:gL) j,xs[i]?=some x->t[i]?=some d->a7 H j->∃p a b c,x=.ref p/\fJ K j p [a,b,c]/\∀I,(∀y g,a7 j g->b7 K (aG j g) d y->I y g)->te (some a::some b::some c::U) j I)
 (hd:∀g,a7 H g->b7 K (aG H g) (.lst t) (.ref l)->Q g):sQ K J l U uH te H Q:=by
 refine Dr (λi y g=>∀d,t[i]?=some d->∃j o,a7 H j/\j l=some o/\b7 K (aG j g) d y) ?_ hJ hl hz T (λi x j n s h k=>?_) (λn g q u m v=>?_)
 .intro i y E G n r w kp d f;obtain⟨j,o,h,k,r⟩:=r d f;exact{j,o,h,k,b7.same (bN k kp) d y r}
 .have hi:i<t.length:=by rw[C];exact(ZO.mp s).1
  obtain⟨p,a,b,c,e,z,A⟩:=he i x t[i] j s (ZJ hi) h;refine{p,a,b,c,e,z,λI B=>A I λy g q r=>B y g q λd f=>?_};rw[ZJ hi]at f;cases f;exact{j,_,h,k,r}
 .refine hd g q {l,n,rfl,.inl (bR hl u),aO.pA t n (by rw[C,m]) λi d y f D=>?_};obtain⟨j,o,h,k,r⟩:=v i y D d f;exact b7.same (ee h) d y r
end L2
namespace K40
section
variable{P:wad}{w:World}{K:ZK}{mg:Str->Option Value}{base:Heap}
local macro_rules|`(tactic|ac_rfl)=>`(tactic|try dsimp only[cZ,d1,b0,b4])
theorem j6(L:Lk K mg):aQ P w K mg base cI 5 L.gv L.jO ["self","weights","splits","kept","last"] (Io K L.aE L.av):=by
 have T:=L.T;refine L.gx.F.dF (N:=["self","weights","splits","kept","last"]) (λgn A outer s H vs Q E nd hr h=>?_);obtain⟨x,f,d,z,u,v,m,cp,ks,hs,ws,lns,rfl,C,hd,WQ,WR,S,n1,n2,n3,n4,n5,k⟩:=h
 refine{_,(a5 (cX (pv 0) (bg mV (by rfl) T.dict Fc (aF (pv 1))) rfl)
  (a5 (cX (pv 0) (G0 rfl (ax [] []) (ax [] []) (ax [] []) {⋯,⋯,⋯} (aM (pv 2)) (λ_ _ _ _ _ _=>bb) (λ_ _ _ _ _ _=>(cM (a8 (pv 0) (a8 (bg (uN (K:=K) rfl) (by rfl) T.list gA (aF (pv 1))) (aF (pv 2))))))) rfl)
  (a5 (cX (pv 0) (bg ck (by rfl) T.list gA (aF (pv 3))) rfl)
  (a9 (cX (pv 0) (aj (jZ L) L.hO (aF (pv 4))) rfl))))),?_}
 ac_rfl
 obtain⟨c,rfl,hc⟩:=eN WR;obtain⟨b,xs,rfl,hb,X⟩:=WQ;have xl:xs.length=cp.length:=by rw[X.len,ZI]
 have D:∀{d:Addr} {ys:List V} {H':Hp},aK K H d ys->(∀b o,H b=some o->b≠x->H' b=some o)->aK K H' d ys:=λhS kp=>(g8 kp).seq (wL C hS);refine{_,rfl,d,_,rfl,hd,λa G=>?_};have p:x≠a:=af C G;refine{_,rfl,x,L.aE,f,[],rfl,by rw[ae p];exact C,L.aR.cl,L.aR.bK,(show 0<1000 by decide),?_};rw[Jx];have Y:∀d o,H d=some o->d≠x->(upd (upd H a (.dK (aY m))) x (.ins L.aE f (ql a))) d=some o:=λd o e hd=>by rw[ae hd];exact a7.upd G _ _ e
 have x1:(upd (upd H a (.dK (aY m))) x (.ins L.aE f (ql a))) x=some (.ins L.aE f (ql a)):=a6;have a1:(upd (upd H a (.dK (aY m))) x (.ins L.aE f (ql a))) a=some (.dK (aY m)):=by rw[ae p.symm,a6]
 generalize upd (upd H a (.dK (aY m))) x (.ins L.aE f (ql a))=H1 at Y x1 a1 ⊢;have Z:=aO.same (g8 Y) _ _ (aO.off C _ _ X);have Uc:aK K H1 b xs:=D (.inl hb) Y;refine{_,rfl,b,rfl,{_,Uc},λg FV=>?_};refine Gz (K:=K) (cp.map xk) (aL K b xs) FV (ay (by lia)) (by rw[ZI,xl]) (λH' s'=>s'.seq Uc) (λi v dd n hv l R=>?_) (λn R r3=>?_)
 .obtain⟨d',e',r⟩:=Z.get i v hv;rw[l]at e';cases e';rw[ZM]at l
  cases e:cp[i]? with
  |none=>rw[e]at l;cases l
  |some sp=>
   rw[e]at l;cases l;obtain⟨r0,ys,rfl,hT,h2⟩:=r;obtain⟨v1,WT,rfl,⟨rfl,_⟩,h3⟩:=h2;obtain⟨v2,T3,rfl,r2,h4⟩:=h3;obtain⟨v3,RG,rfl,⟨rfl,_⟩,h5⟩:=h4;cases(show RG=[] from h5);obtain⟨l2,rfl,RH⟩:=eN r2;refine{r0,_,_,_,rfl,fJ.of (R _ _ hT),λQ' qq=>?_};refine{_,rfl,_,rfl,l2,_,rfl,.inl (R.seq RH),λl3 I=>?_};refine{_,rfl,by show 3<=sizeLine;decide,λt ht=>?_};have s4:a7 (upd n l3 (.lst ((nI sp.2.1).map V.int))) (upd (upd n l3 (.lst ((nI sp.2.1).map V.int))) t (.tup [.int (sp.1:Int),.ref l3,.int sp.2.2])):=a7.upd ht;refine qq _ _ ((a7.upd I).trans s4) ?_;exact BK (d:=sp.1) (ns:=sp.2.1) (w:=sp.2.2) (bR (none_of (a7.upd I) ht) a6) (bR I (s4 _ _ a6))
 have Zi:x≠g:=af x1 FV;have x3:=R _ _ x1;have a3:=R _ _ a1;refine{_,rfl,x,L.aE,f,ql a,rfl,x3,L.aR.cl,L.aR.kA,(show 1<1000 by decide),?_};rw[F9];have k3:∀d o,H d=some o->d≠x->(upd n x (.ins L.aE f (o1 a g))) d=some o:=λd o e hd=>by rw[ae hd];exact R _ _ (Y _ _ e hd)
 have x4:(upd n x (.ins L.aE f (o1 a g))) x=some (.ins L.aE f (o1 a g)):=a6;have a4:(upd n x (.ins L.aE f (o1 a g))) a=some (.dK (aY m)):=by rw[ae p.symm];exact a3
 have old:a7 (aG H1 n) (aG H n):=λd o e=>by
  unfold aG at e ⊢
  cases q:H d with
  |none=>
   cases J:H1 d with
   |none=>rw[J]at e;exact e
   |some z=>rw[J]at e;cases e
  |some z=>
   by_cases hd:d=x
   .rw[hd,x1]at e;cases e
   .rw[Y _ _ q hd]at e;cases e
 have r4:b7 K (aG H (upd n x (.ins L.aE f (o1 a g)))) (.lst (cp.map xk)) (.ref g):=b7.same (old.trans (bN C λd o e hd=>by rw[ae hd];exact e)) _ _ r3;generalize upd n x (.ins L.aE f (o1 a g))=U at k3 x4 a4 r4 ⊢;refine{_,rfl,c,_,rfl,.inl (D hc k3),λj M=>?_};have B:x≠j:=af x4 M
 have WU:H j=none:=by
  cases q:H j with
  |none=>rfl
  |some o=>have:=k3 _ _ q B.symm;rw[M]at this;cases this
 refine{_,rfl,x,L.aE,f,o1 a g,rfl,by rw[ae B];exact x4,L.aR.cl,L.aR.tP,(show 2<1000 by decide),?_};rw[BG];have s5:∀d o,U d=some o->d≠x->(upd (upd U j (.lst ((nI ks).map V.int))) x (.ins L.aE f (qm a g j))) d=some o:=λd o e hd=>by rw[ae hd];exact a7.upd M _ _ e
 have x5:(upd (upd U j (.lst ((nI ks).map V.int))) x (.ins L.aE f (qm a g j))) x=some (.ins L.aE f (qm a g j)):=a6;have c5:(upd (upd U j (.lst ((nI ks).map V.int))) x (.ins L.aE f (qm a g j))) j=some (.lst ((nI ks).map V.int)):=by rw[ae B.symm,a6]
 generalize upd (upd U j (.lst ((nI ks).map V.int))) x (.ins L.aE f (qm a g j))=H5 at s5 x5 c5 ⊢;have k5:∀d o,H d=some o->d≠x->H5 d=some o:=λd o e hd=>s5 _ _ (k3 _ _ e hd) hd
 have S5:bQ K L.av H5 z hs ws lns:=by
  obtain⟨dz,ah,bw,cl,hz,rh,DW,rl⟩:=id S;have WV:z≠x:=λq=>by rw[q,C]at hz;have:=ZU hz;injection this with _ _ J;cases J
  have go:=λ(dd:gL) (v:V) (r:b7 K H dd v)=>b7.same (g8 k5) dd v (b7.off C dd v r);exact{dz,ah,bw,cl,k5 _ _ hz WV,go _ _ rh,go _ _ DW,go _ _ rl}
 refine{_,rfl,z,hs,ws,lns,rfl,S5,n1,n2,n3,n4,λy O s6 S6=>?_};refine{_,rfl,x,L.aE,f,qm a g j,rfl,s6 _ _ x5,L.aR.cl,L.aR.Ay,(show 3<1000 by decide),?_};rw[yy];have up:∀{Ha:Hp},(∀d o,Ha d=some o->d≠x->(upd O x (.ins L.aE f (rB a g j y))) d=some o)->a7 (aG H Ha) (aG H (upd O x (.ins L.aE f (rB a g j y)))):=λh=>bN C h;have u6:∀d o,O d=some o->d≠x->(upd O x (.ins L.aE f (rB a g j y))) d=some o:=λd o e hd=>by rw[ae hd];exact e
 have u4:∀d o,U d=some o->d≠x->(upd O x (.ins L.aE f (rB a g j y))) d=some o:=λd o e hd=>u6 _ _ (s6 _ _ (s5 _ _ e hd)) hd
 have RJ:a7 (aG H5 O) (aG H O):=λd o e=>by
  unfold aG at e ⊢
  cases q:H d with
  |none=>
   cases J:H5 d with
   |none=>rw[J]at e;exact e
   |some z=>rw[J]at e;cases e
  |some z=>
   by_cases hd:d=x
   .rw[hd,x5]at e;cases e
   .rw[k5 _ _ q hd]at e;cases e
 exact k a g j y _ a6 G (u4 _ _ a4 p.symm) (b7.same (up u4) _ _ r4) (iU (bR WU (u6 _ _ (s6 _ _ c5) B.symm))) (S6.same (RJ.trans (up u6))) λd o e hd=>u6 _ _ (s6 _ _ (k5 _ _ e hd)) hd
theorem dW(L:Lk K mg):aQ P w K mg base cI 7 L.md L.mr ["self"] (IQ K L.ak L.aA L.aE L.av):=by
 have T:=L.T;refine L.dC.F.dF (N:=["self"]) (λC A outer s H Z Q E nd D h=>?_);obtain⟨x,p,rfl,T,k⟩:=h;refine{_,(a9 (aw (jh L.BW (j6 L) (D.mono ⋯) rfl L.G8 L.gx.b .nil lX (a8 (aC (aC (pv 0) rfl) rfl) (a8 (aC (aC (pv 0) rfl) rfl) (a8 (aC (aC (pv 0) rfl) rfl) (aF (aC (aC (pv 0) rfl) rfl)))))))),?_}
 ac_rfl
 obtain⟨l1,l2,l3,l4,_,G⟩:=T.ln;obtain⟨xb,m,q,a,l,n,⟨r,d,g,i,j,u,ha,I,hc,J⟩,_⟩:=T.t;refine{_,rfl,x,L.ak,m,_,_,rfl,n,L.ag.cl,L.ag.gm,fu ..,q,L.aE,r,_,_,rfl,u,L.aR.cl,L.aR.bK,g7 d g i j,?_};refine{_,rfl,x,L.ak,m,_,_,rfl,n,L.ag.cl,L.ag.gm,fu ..,q,L.aE,r,_,_,rfl,u,L.aR.cl,L.aR.kA,gE d g i j,?_};refine{_,rfl,x,L.ak,m,_,_,rfl,n,L.ag.cl,L.ag.gm,fu ..,q,L.aE,r,_,_,rfl,u,L.aR.cl,L.aR.tP,ji d g i j,?_};refine{_,rfl,x,L.ak,m,_,_,rfl,n,L.ag.cl,L.ag.gm,fu ..,q,L.aE,r,_,_,rfl,u,L.aR.cl,L.aR.Ay,tu d g i j,?_};intro y v B z M;have sm:a7 H (upd (upd H v (.own y)) y (.ins L.aE v [])):=dn B z;refine{y,v,d,j,.ref g,.ref i,bE p.f p.ls,p.cp,p.ks,p.hs,p.ws,p.lns,rfl,a6,.inl (sm _ _ ha),b7.same sm _ _ I,b7.same sm _ _ hc,J.same sm,by lia,by lia,by lia,G,by lia,λO R S U V X _ a1 b1 c1 Y kp=>{rfl,?_}};exact k y V (λc o e=>kp _ _ (sm _ _ e) (af e B)) {v,O,R,S,U,X,a1,b7.same (aX _ _) _ _ b1,b7.same (aX _ _) _ _ c1,Y.same (aX _ _)}
theorem vc(L:Lk K mg):aQ P w K mg base cI 8 L.oE L.oV ["_law_told_here","_law_desk","_law_words","_law_many","_law_wide"] (DF K L.ak L.aA L.aE L.av):=by
 have T:=L.T;refine L.p6.F.dF (N:=["_law_told_here","_law_desk","_law_words","_law_many","_law_wide","_law_found","_law_stand","_law_sheet","_law_kept","_law_step","_law_word","_law_goal"]) (λgn A outer s H vs Q E nd hr h=>?_);obtain⟨x,a,p,d,rfl,PT,hA,hd,k⟩:=h;have hu:=eY hr
 refine{_,(a5 (ai (i:=5) (Dt (pv 0) L.ag.cl L.dU (eS L) (aF (pv 1))))
  (a5 (bp (PW.pt (cL (bH (bB (aI bI (by rfl) T.De pK (a8 (pv 5) (aF (dY (v:=.ty "list") (by rfl) T.list gA rfl)))))) (dD (cD nN (AY T.len (pv 5)) (pv 3))))) (a9 (aw da)) aH)
  (a5 (ai (i:=6) (Dt (pv 0) L.ag.cl L.cA (d8 L) (aF (pv 1))))
  (a5 (ai (i:=7) (fI (fI (pv 0) L.ag.cl L.dC (dW L)) L.aR.cl L.gH (iF L)))
  (a5 (ai (i:=8) (aC (fI (pv 0) L.ag.cl L.dC (dW L)) rfl))
  (a5 (forA (aM (pv 5)) (az (i:=9)) (a5 (bp (PW.pt (cL (bH (bB (aI bI (by rfl) T.De pK (a8 (pv 9) (aF (dY (v:=.ty "tuple") (by rfl) T.tuple KN rfl)))))) (cL (cD nN (AY T.len (pv 9)) aq) (cL (bH (bB (aI bI (by rfl) T.De pK (a8 (b5 fO (pv 9) aq (λ_ _=>rfl)) (aF (dY (v:=.ty "str") (by rfl) T.str Af rfl)))))) (dD (bH (bB (aj (eP L) L.eu (aF (b5 fO (pv 9) aq (λ_ _=>rfl))))))))))) (a9 (aw da)) aH)
  (a5 (pw (pv 9) (fj rfl (aU (az (i:=10)) (aU (az (i:=11)) dG))))
  (a5 (bp (PW.pt (cL (cD nN (AX T.len (pv 10)) (pv 4)) (cL (bH (nU vB iO aq (pv 11) (fI (pv 0) L.ag.cl L.cq (cw L)))) (dD (bH (bB (aj (p8 L) L.lE (a8 (aS jg (pv 6) (pv 10)) (aF (pv 2)))))))))) (a9 (aw da)) aH)
  (a5 (bp (PW.pt (cL (cD nN (aj (mJ L) L.jB (a8 (aS jg (pv 6) (pv 10)) (aF (pv 2)))) (Dt (pv 0) L.ag.cl L.cA (d8 L) (aF (pv 11)))) (dD (cD nN (i9 wap wf7 PySem.F.type_list_count (DP hu) (pv 5) (aF (pv 9))) aq)))) (a9 (aw da)) aH)
  (a9 (bp (fX (DN hu) (cM (a8 (pv 10) (aF (b5 b9 (pv 8) (pv 11) (λ_ _=>rfl))))) (b5 b9 (aC (pv 7) rfl) (b5 b9 (pv 8) (pv 1) (λ_ _=>rfl)) (λ_ _=>rfl)) rfl) (a9 (aw da)) aH)))))))
  (a9 (aw (cV nM (b5 b9 (aC (pv 7) rfl) (b5 b9 (pv 8) (pv 1) (λ_ _=>rfl)) (λ_ _=>rfl)) (pv 6) (gp _)))))))))),?_}
 ac_rfl
 obtain⟨l1,l2,l3,l4,l6,l5⟩:=PT.ln;have X:=PT.w;have Y:=PT.pk;obtain⟨⟨O,pp,xb,aa,ll,dp,wa,wb,RK,wz,ys,S,_⟩,ok⟩:=id X;have c:d<p.R.wl.length:=by show d<(dg _ _ _).length;unfold dg;rw[ZI];exact hd
 have GJ:=ok.w.ln _ (ZT (du c));have nd:(p.R.wl.getD d []).Nodup:=B9 Y _ d;have DX:=ok.DX;refine lT λR1 q1=>?_;refine{_,rfl,x,O,_,rfl,S,aZ _ _ _ _ _ _ _ _ ∅,_,rfl,x,p.R,d,rfl,X,c,λU _ H1 Z r1 _ _=>?_};have Ud:=b7.same (aX H H1) _ _ r1;obtain⟨Zj,f,WW,hS,hT⟩:=dA Ud;cases WW;obtain⟨Zk,_,ey,WX,_⟩:=id Ud;cases ey;have C5:f.length=(p.R.wl.getD d []).length:=by rw[hT.1,ZI,ZI]
 refine q1 _ _ (lT λR2 q2=>?_);refine{_,rfl,_,_,_,true,rfl,fH.rd WX,rfl,true,rfl,bo ?_};refine{_,rfl,U,_,rfl,.inl hS,_,rfl,rfl,false,?_,bo ?_}
 .rw[ZI,C5,GJ];exact pf _
 refine q2 _ _ (lT λR3 q3=>?_);refine{_,rfl,x,O,_,rfl,Z _ _ S,aZ _ _ _ _ _ _ _ _ ∅,_,rfl,x,p.R,d,rfl,X.same Z,c,?_};refine q3 _ _ (lT λR4 q4=>?_);refine{_,rfl,x,O,_,rfl,Z _ _ S,aZ _ _ _ _ _ _ _ _ ∅,x,p,rfl,PT.same Z,λy2 H2 s2 P2=>?_};obtain⟨dq,qa,qb,qc,qz,Rl,_⟩:=id P2;refine{y2,dq,_,rfl,Rl,kn (by show ("sheet":Str)∉[("weights":Str),"splits","kept","last"];decide+kernel),y2,_,_,_,_,_,_,rfl,P2,by lia,by lia,by lia,l5,λz H3 s3 S3=>?_};obtain⟨dz,ah,Ue,cl,hz,rh,_,rl⟩:=S3.same (aX _ _);have Ug:=(Y.ko.st p.ks[d] (wah hd)).1;have WY:p.ks[d]<p.hs.length:=by rw[<-Y.b.l];exact Ug
 obtain⟨M6,Zm,WZ,xR,X0⟩:=id rl;cases WZ;obtain⟨vl,X1,Rf⟩:=X0.at (i:=p.ks[d]) (d:=bG (p.lns.getD p.ks[d] [])) (by rw[ZM,du Ug];rfl);obtain⟨lb,Uh,rfl,X2,X3⟩:=dA Rf;have Ui:uG ((nI p.ks).map V.int) (d:Int)=some (.int (p.ks[d]:Int)):=bq (tj (ZJ hd));have D:=Z.trans (s2.trans s3);refine q4 _ _ (lT λR5 q5=>?_);refine{_,rfl,x,O,_,rfl,D _ _ S,aZ _ _ _ _ _ _ _ _ ∅,x,p,rfl,PT.same D,λy4 H4 s4 P4=>?_};obtain⟨X4,ra,rb,G,rz,X5,_,_,X6,_⟩:=id P4;refine{y4,L.aE,X4,_,_,rfl,X5,L.aR.cl,L.aR.tP,ji ra rb G rz,?_}
 have I:aK K H4 G ((nI p.ks).map V.int):=by
  obtain⟨c',e,h⟩:=eN X6;cases e;exact h
 have Ma:=D.trans s4;have J:=s2.trans (s3.trans s4);refine q5 (NU p x a U z G d none none none) _ (lT λR6 q6=>?_);clear q1 q2 q3 q4 q5;refine{_,rfl,U,rfl,{_,J.seq hS},dJ (K:=K) (a:=U) (xs:=f.map V.ref) (LC p x a U z G d H4) {a7.refl _,none,none,none,rfl} (λj σ H' _ q=>(J.trans q.s).seq hS) ?_ ?_}
 .rintro j y σ H5 hy ⟨n,v9,v10,v11,rfl⟩;have hj:j<f.length:=by have:=(ZO.mp hy).1;rwa[ZI]at this
  have Uj:j<(p.R.wl.getD d []).length:=by lia
  rw[ZM,ZJ hj]at hy;cases hy;have r:=J.trans n;have t:=Ma.trans n;have u:H5 f[j]=some (.tup (pQ (p.R.wl.getD d [])[j])):=r _ _ (hT.2 j f[j] (jG (eA (p.R.wl.getD d [])[j])) (ZJ hj) (by rw[ZM,ZM,ZJ Uj];rfl));have P8:(p.R.wl.getD d [])[j]?=some (p.R.wl.getD d [])[j]:=ZJ Uj;generalize (p.R.wl.getD d [])[j]=q at u P8;have m:=ZT P8;have O7:=ok.w.e _ (ZT (du c)) q m;have X7:=ok.w.wd _ (ZT (du c)) q m;have B:=fJ.of (K:=K) u;show eI 9 (V.ref f[j]) _ _ _;refine{_,rfl,_,_,_,true,rfl,fH.tup u,rfl,true,rfl,bo ?_};refine{_,rfl,f[j],_,rfl,.inr B,rfl,false,rfl,bo ?_};refine{_,rfl,f[j],_,_,_,rfl,rfl,B,rfl,_,_,_,true,rfl,fH.str _,rfl,true,rfl,bo ?_};refine{_,rfl,f[j],_,_,_,rfl,rfl,B,rfl,_,rfl,true,rfl,bo ?_};refine{_,rfl,f[j],_,rfl,B,rfl,_,_,rfl,_,_,rfl,rfl,?_};refine{_,rfl,q.1,rfl,ay (by lia),_,rfl,rfl,false,?_,bo ?_}
  .rw[X7];exact pf _
  refine{_,rfl,_,_,rfl,rfl,true,congrArg V.bl (decide_eq_true (by lia)),eJ ?_};refine{_,rfl,x,O,_,rfl,t _ _ S,aZ _ _ _ _ _ _ _ _ ∅,x,p.R,rfl,X.same t,_,_,rfl,rfl,true,congrArg V.bl (decide_eq_true (by lia)),bo ?_};obtain⟨g1,g2⟩:bears p.bw (p.R.hk.getD d ""++q.1)=false/\lend p.ss (p.R.hk.getD d ""++q.1)=p.R.hk.getD q.2 "":=Y.uJ ok.pm (λw h=>(ok.hw w h).1) PT.ls p.many.toNat d c q m;have X8:=(PT.hk hd).2;have X9:(p.R.hk.getD d ""++q.1).length<=23:=by rw[len_app];lia
  refine{_,rfl,_,rfl,_,_,rfl,rfl,ay (by lia),_,rfl,_,a,p.bw,rfl,t.seq hA,by have:=PT.b6;lia,λH6 s6=>?_};refine{true,congrArg V.bl (by rw[g1];rfl),bo ?_};have JS:=t.trans s6;refine{_,rfl,_,rfl,_,_,rfl,rfl,ay (by lia),_,rfl,_,a,p.bw,p.ss,rfl,JS.seq hA,ok.pm,λw h=>(PT.w5 w h).hi,by have:=PT.b6;lia,g1,by lia,λH7 s7=>?_};have O4:=JS.trans s7;have g:=s6.trans s7;refine{_,rfl,x,O,_,rfl,O4 _ _ S,aZ _ _ _ _ _ _ _ _ ∅,_,rfl,x,p.R,q.2,rfl,X.same O4,O7,rfl,false,?_,bo ?_}
  .rw[g2];exact pf _
  have P9:bu H7 f ((p.R.wl.getD d []).map pQ):=by
   have:=hT.same (r.trans g);rw[ZV]at this;exact this
  refine{_,rfl,.inl {rfl,_,(r.trans g).seq hS},_,rfl,U,f,f[j],p.R.wl.getD d [],q,rfl,rfl,g _ _ u,(r.trans g).seq hS,P9,?_};rw[nd.count,if_pos m];refine{rfl,false,rfl,bo ?_};obtain⟨_,Rq⟩:=Y.steps ok.pm (λw h=>(ok.hw w h).1) PT.ls p.many.toNat hd;obtain⟨e,he,Xa,Xb,_⟩:=Rq q m;have Xc:=(n.trans g).seq I;have Uk:=waR.mpr Xa
  have Xd:uG ((nI p.ks).map V.int) (q.2:Int)=some (.int (e:Int)):=by
   rw[Xb];exact bq (tj (by rw[ZJ Uk,wbM Uk]))
  refine{_,rfl,_,rfl,_,rfl,G,_,_,_,rfl,rfl,Xc,Xd,by show 2<=sizeLine;decide,λtp Xe=>?_};have s8:=a7.upd (H:=H7) (o:=.tup [V.str q.1,.int (e:Int)]) Xe;have h8:(upd H7 tp (.tup [V.str q.1,.int (e:Int)])) tp=some (.tup (pQ (q.1,e))):=a6;generalize upd H7 tp (.tup [V.str q.1,.int (e:Int)])=H8 at s8 h8;have M:=g.trans s8;have C:=s4.trans (n.trans M)
  have RL:bu H8 Uh ((p.lns.getD p.ks[d] []).map pQ):=by
   have:=X3.same C;rw[ZV]at this;exact this
  refine{_,rfl,z,L.av,dz,_,_,rfl,C _ _ hz,L.ao.cl,L.ao.cf,bj ah Ue cl,_,rfl,_,rfl,G,_,_,_,rfl,rfl,(n.trans M).seq I,Ui,cl,_,_,_,rfl,rfl,C.seq (.inl xR),bq X1,tp,lb,Uh,_,(q.1,e),rfl,rfl,h8,C.seq X2,RL,false,congrArg V.bl (by rw[decide_eq_true he];rfl),bo {n.trans M,_,_,_,rfl}}
 .rintro σ H5 ⟨n,v9,v10,v11,rfl⟩;refine q6 _ _ ?_;have NY:=s4.trans n;have eh:p.R.hk.getD d ""=p.hs.getD p.ks[d] "":=fQ hd;refine{_,rfl,z,L.av,dz,_,_,rfl,NY _ _ hz,L.ao.cl,L.ao.dH,cz ah Ue cl,_,rfl,_,rfl,G,_,_,_,rfl,rfl,n.seq I,Ui,ah,_,_,_,rfl,rfl,NY.seq (.inl (oh rh)),bq (v:=.str (p.hs.getD p.ks[d] "")) (by rw[ZM,getD_some (l:=p.hs) ("":Str) WY];rfl),_,rfl,rfl,?_};rw[eh,show decide (V.str (p.hs.getD p.ks[d] "")=V.str (p.hs.getD p.ks[d] ""))=true from decide_eq_true rfl];exact k H5 (Ma.trans n)
theorem uB(L:Lk K mg):aQ P w K mg base cI 8 L.mj L.mz ["_law_told_here","_law_band_here","_law_many","_law_wide"] (Gj K L.ak L.aA L.aE L.av):=by
 have T:=L.T;refine L.mD.F.dF (N:=["_law_told_here","_law_band_here","_law_many","_law_wide","_law_plan","_law_sheet","_law_desk","_law_numbers","_law_weight","_law_last"]) (λgn A outer s H vs Q E nd hr h=>?_);obtain⟨x,xb,p,rfl,PT,B,k⟩:=h;have RM:=Er hr
 refine{_,(a5 (ai (i:=4) (fI (pv 0) L.ag.cl L.dC (dW L)))
  (a5 (bp (PW.pt (cL (bH (bB (aj (J1 L) L.G7 (a8 (pv 1) (a8 (pv 2) (a8 (pv 3) (aF (bg mV (by rfl) T.dict Fc (aF (aC (pv 4) rfl)))))))))) (dD (bH (nU iO vB aq (aI (iQ rfl) (by rfl) T.sum Ai (aF (bg (sP rfl) (by rfl) T.list gA (aF (wY (K:=K) rfl wdy wcs wdr pD (aC (pv 4) rfl)))))) aq))))) (a9 (aw da)) aH)
  (a5 (ai (i:=5) (aj (i3 L) L.g9 (a8 (pv 1) (a8 (pv 2) (a8 (pv 3) (aF (bg mV (by rfl) T.dict Fc (aF (aC (pv 4) rfl)))))))))
  (a5 (forA (aM (aC (pv 4) rfl)) (fj rfl (aU (az (i:=6)) (aU (az (i:=7)) (aU (az (i:=8)) dG)))) (a9 (ai (i:=5) (ia (zv L) (hr.mono ⋯) rfl L.jy.g L.jy.F.kp L.jy.b .nil Kg (a8 (pv 5) (a8 (pv 2) (a8 (pv 6) (a8 (bg ck (by rfl) T.list gA (aF (pv 7))) (aF (pv 8))))))))))
  (a5 (ai (i:=9) (fI (pv 4) L.aR.cl L.gH (iF L)))
  (a9 (aw (cV (IW RM) (cM (a8 (aC (pv 5) rfl) (a8 (aC (pv 5) rfl) (aF (aC (pv 5) rfl))))) (cM (a8 (aC (pv 9) rfl) (a8 (aC (pv 9) rfl) (aF (aC (pv 9) rfl))))) (gp _))))))))),?_}
 ac_rfl
 obtain⟨l1,l2,l3,l4,l6,l5⟩:=PT.ln;have W:=PT.w;have hP:=PT.pk;have r8:=PT.r;have B4:p.ss.length<=900:=by have:=B.few PT.b6 PT.w5;lia
 have sg:=PT.sg;have g2:=sg.lo;have g4:=sg.hi;obtain⟨⟨dx,pp,Ul,aa,ll,dp,wa,wb,RK,wz,ys,hx,_⟩,ok⟩:=id W;obtain⟨ra,rb,rc,rd,re⟩:=id r8
 have DY:p.g.length^p.n<=64:=by
  rw[wae]at re;have:((p.g.length^p.n:Nat):Int)<=64:=by rw[wbT];exact re
  lia
 have L0:dE p.g p.bw p.ss p.ls p.many p.n p.f [] _ _ _:=dE.start sg.nd B.pm (λw h=>(PT.w5 w h).lo) PT.ls (B.nd.sublist B.lv.sub) hP.nn hP.fit;refine lT λR1 q1=>?_;refine{_,rfl,x,dx,_,rfl,hx,aZ _ _ _ _ _ _ _ _ ∅,x,p,rfl,PT,λy H1 s1 P1=>?_};obtain⟨dq,G,qb,qc,qz,hq,ha,hb,hc,hS⟩:=id P1;refine q1 (Lp p x xb y none none none none none) _ (lT λR2 q2=>?_);refine{_,rfl,_,rfl,_,rfl,_,rfl,y,L.aE,dq,_,_,rfl,hq,L.aR.cl,L.aR.bK,g7 G qb qc qz,G,_,rfl,.inl ha,λd2 Xf=>?_};have s2:=a7.upd (H:=H1) (o:=.dK (aY (bE p.f p.ls))) Xf;have h2:(upd H1 d2 (.dK (aY (bE p.f p.ls)))) d2=some (.dK (aY (bE p.f p.ls))):=a6;generalize upd H1 d2 (.dK (aY (bE p.f p.ls)))=H2 at s2 h2;have JP:=s1.trans s2;refine{xb,d2,p.many,p.n,bE p.f p.ls,p.f,p.g,p.bw,p.ss,p.ls,rfl,B.same JP,by lia,by lia,B4,r8,.inl h2,gF _ _,λH3 s3=>?_};have I:=s2.trans s3;refine{true,congrArg V.bl (CU.mpr hP.fit),bo ?_};have J:=I _ _ ha;refine{_,rfl,y,L.aE,dq,_,_,rfl,I _ _ hq,L.aR.cl,L.aR.bK,g7 G qb qc qz,?_};refine{.inr (.inr (.inl {rfl,.inl {_,J}})),G,_,rfl,rfl,J,λv hv=>?_};have t4:=a7.upd (H:=H3) (o:=iH v G) hv;refine{v,G,_,rfl,a6,t4 _ _ J,λl hl=>?_}
 have e:(aY (bE p.f p.ls)).map (·.2)=(p.ls.map p.f).map V.int:=by
  unfold aY bE;rw[ZV,ZV,ZV];rfl
 rw[e];have s4:=t4.trans (a7.upd (o:=.lst ((p.ls.map p.f).map V.int)) hl);refine{l,_,rfl,aK.of a6,?_};generalize upd (upd H3 v (iH v G)) l (.lst ((p.ls.map p.f).map V.int))=H4 at s4;have ps:=hP.ps;have pm:=hP.m;refine{_,_,rfl,rfl,true,congrArg V.bl (decide_eq_true (by lia)),eJ {_,_,rfl,rfl,true,congrArg V.bl (decide_eq_true (by lia)),bo ?_}};have M:=I.trans s4;refine q2 _ _ (lT λR3 q3=>?_);refine{_,rfl,_,rfl,_,rfl,_,rfl,y,L.aE,dq,_,_,rfl,M _ _ hq,L.aR.cl,L.aR.bK,g7 G qb qc qz,G,_,rfl,.inl (M _ _ ha),λd5 Xg=>?_};have s5:=a7.upd (H:=H4) (o:=.dK (aY (bE p.f p.ls))) Xg;have h5:(upd H4 d5 (.dK (aY (bE p.f p.ls)))) d5=some (.dK (aY (bE p.f p.ls))):=a6;generalize upd H4 d5 (.dK (aY (bE p.f p.ls)))=H5 at s5 h5;have OX:=M.trans s5;refine{xb,d5,p.many,p.n,bE p.f p.ls,p.f,p.g,p.bw,p.ss,p.ls,rfl,B.same (s1.trans OX),by lia,by lia,B4,r8,.inl h5,gF _ _,λz0 H6 s6 S6=>?_};have S6:=S6.same (aX _ _);have O:=OX.trans s6;refine q3 (Lp p x xb y (some (.ref z0)) none none none none) _ (lT λR4 q4=>?_);clear q1 q2 q3 e;obtain⟨Xh,xs,eb,Um,JN⟩:=id (b7.same O _ _ hb);cases eb;have xl:xs.length=p.cp.length:=by rw[JN.len,ZI]
 refine{_,rfl,y,L.aE,dq,_,_,rfl,O _ _ hq,L.aR.cl,L.aR.kA,gE G qb qc qz,qb,rfl,{_,.inl Um},?_};refine dJ (K:=K) (a:=qb) (xs:=xs) (Lr K L.av p x xb y H6) {a7.refl _,z0,_,_,_,S6,L0,IA hP.rn,none,none,none,rfl} (λj σ H' _ q=>q.s.seq (.inl Um)) ?_ ?_
 .rintro i v σ H7 hv ⟨s7,z,hs,ws,lns,S7,L7,F7,v6,v7,v8,rfl⟩;obtain⟨dd,D,r⟩:=JN.get i v hv;rw[ZM]at D
  cases e:p.cp[i]? with
  |none=>rw[e]at D;cases D
  |some sp=>
  obtain⟨d,ns,w⟩:=sp;rw[e]at D;cases D;obtain⟨r0,us,rfl,hT,Xi⟩:=r;obtain⟨v1,WT,rfl,⟨rfl,_⟩,NZ⟩:=Xi;obtain⟨v2,T3,rfl,r2,Xj⟩:=NZ;obtain⟨v3,RG,rfl,⟨rfl,_⟩,Xk⟩:=Xj;cases(show RG=[] from Xk);obtain⟨la,rfl,Oc⟩:=eN r2;have hi:i<p.cp.length:=(ZO.mp e).1
  have Xl:p.cp.drop i=(d,ns,w)::p.cp.drop (i+1):=by
   rw[List.drop_eq_getElem_cons hi,(ZO.mp e).2]
  have nC:p.cp.take (i+1)=p.cp.take i++[(d,ns,w)]:=by rw[waw,e];rfl
  rw[Xl]at F7;obtain⟨Uo,nl,F8⟩:=F7;refine{r0,_,rfl,fJ.of (s7 _ _ hT),rfl,_,_,rfl,_,_,rfl,_,_,rfl,rfl,?_};have W7:=L7.whole pm DY;refine{_,rfl,_,rfl,_,rfl,_,rfl,la,_,rfl,.inl (s7.seq Oc),λlc J4=>?_};have s8:=a7.upd (H:=H7) (o:=.lst ((nI ns).map V.int)) J4;have h8:(upd H7 lc (.lst ((nI ns).map V.int))) lc=some (.lst ((nI ns).map V.int)):=a6;generalize upd H7 lc (.lst ((nI ns).map V.int))=H8 at s8 h8;refine{_,rfl,z,lc,p.many,(d:Int),w,nI ns,hs,ws,lns,rfl,S7.same s8,aK.of h8,?_,W7,by lia,by lia,.inl {Uo,λz' H9 R S9=>?_}}
  .rw[cO];lia
  .rw[wae]at S9;exact{s7.trans (s8.trans R),z',_,_,_,S9.same (aX _ _),by rw[nC];exact L7.step Uo nl,F8,_,_,_,rfl}
 .rintro σ H7 ⟨s7,z,hs,ws,lns,S7,L7,F7,v6,v7,v8,rfl⟩;rw[xl,List.drop_length]at F7;obtain⟨rfl,rfl,rfl⟩:=F7;refine q4 _ _ ?_;have S:=O.trans s7;refine{_,rfl,y,dq,_,rfl,S _ _ hq,kn (by show ("sheet":Str)∉[("weights":Str),"splits","kept","last"];decide+kernel),y,_,_,_,_,_,_,rfl,P1.same S,by lia,by lia,by lia,l5,λz2 H8 s8 S8=>?_};obtain⟨dz,U,X,Y,hz,rh,DW,rl⟩:=S7.same s8;obtain⟨Z,t,u,C,RN,Xm,Xn,Xo⟩:=S8.same (aX _ _);refine{_,rfl,z,L.av,dz,_,_,rfl,hz,L.ao.cl,L.ao.dH,cz U X Y,_,rfl,z,L.av,dz,_,_,rfl,hz,L.ao.cl,L.ao.bK,bM U X Y,_,rfl,z,L.av,dz,_,_,rfl,hz,L.ao.cl,L.ao.cf,bj U X Y,by show 3<=sizeLine;decide,λt1 Xp=>?_};have R:=a7.upd (H:=H8) (o:=.tup [V.ref U,.ref X,.ref Y]) Xp;have h9:(upd H8 t1 (.tup [V.ref U,.ref X,.ref Y])) t1=some (.tup [V.ref U,.ref X,.ref Y]):=a6;generalize upd H8 t1 (.tup [V.ref U,.ref X,.ref Y])=H9 at R h9;refine{_,rfl,z2,L.av,Z,_,_,rfl,R _ _ RN,L.ao.cl,L.ao.dH,cz t u C,_,rfl,z2,L.av,Z,_,_,rfl,R _ _ RN,L.ao.cl,L.ao.bK,bM t u C,_,rfl,z2,L.av,Z,_,_,rfl,R _ _ RN,L.ao.cl,L.ao.cf,bj t u C,by show 3<=sizeLine;decide,λt2 Xq=>?_};have E1:=a7.upd (H:=H9) (o:=.tup [V.ref t,.ref u,.ref C]) Xq;have DS:(upd H9 t2 (.tup [V.ref t,.ref u,.ref C])) t2=some (.tup [V.ref t,.ref u,.ref C]):=a6;generalize upd H9 t2 (.tup [V.ref t,.ref u,.ref C])=LN at E1 DS;have c:=R.trans E1;refine{[jK p.hs,ic p.ws,fT p.lns],?_,.inr {{t1,_,rfl,E1 _ _ h9,_,_,rfl,b7.same c _ _ rh,_,_,rfl,b7.same c _ _ DW,_,_,rfl,b7.same c _ _ rl,rfl},{t2,_,rfl,DS,_,_,rfl,b7.same c _ _ Xm,_,_,rfl,b7.same c _ _ Xn,_,_,rfl,b7.same c _ _ Xo,rfl}},k LN (s1.trans (S.trans (s8.trans c)))};exact AA _ _ _
end
end K40
namespace PySem
section
variable{P:wad}{W0:World}{B:Around}{E:Value->Shared->Prop}{z:Shared}
theorem vd{Q:Value->Shared->Prop}(hh:B.handled=none)(il:z.heap.IsList l (intItems xs))
 (he:xs.size=0->∀h' tk,(∀b o,z.heap.get? b=some o->h'.get? b=some o)->Q dv {z with heap:=h',toks:=tk})
 (hn:0<xs.size->∀v h' tk,(intItems xs)[argBest (λi j=>decide (numAt xs i>numAt xs j)) (xs.size-1)]?=some v->(∀b o,z.heap.get? b=some o->h'.get? b=some o)->Q v {z with heap:=h',toks:=tk}) :
 wpAny (model P W0) B (call (.builtin "max") [.ref l] [(wbU "default",dv)]) Q E z:=by
 have nm:(toString "max"++toString ".loop":String)="max.loop":=⋯;refine whk F.kind_max F.plain_max F.entry_max (uT _ _) ?_;show wpAny _ B.in1 (wc6 "max" ["key","default"] 0 {[],[(wbU "default",dv)]} >>= _) _ _ z;refine ZN (wgS (show wc6 "max" ["key","default"] 0 {[],[(wbU "default",dv)]}=pure [none,some dv] from rfl) ?_);refine ZN (waa (ZN (iter_intList il λs₂ e st Xr Ny=>?_)));subst e;refine ZN (weC ?_);rw[nm];have W:=weL (prog:=P) (w:=W0) (A:=B.in1) hh z.heap.objs.size l Ny (intItems xs);have nS:(z.heap.push {cls:=.type "list_iterator",data:=.fields #[.ref l,.int 0 0]}).objs.size∉[z.heap.objs.size,l]:=λhm=>waW _ (Xr _ hm)
 have keep:∀{h':Heap},(∀b o,b∉[z.heap.objs.size]->b≠(z.heap.push {cls:=.type "list_iterator",data:=.fields #[.ref l,.int 0 0]}).objs.size->((z.heap.push {cls:=.type "list_iterator",data:=.fields #[.ref l,.int 0 0]}).push {cls:=.type "list",data:=.seq #[]}).get? b=some o->h'.get? b=some o)->∀b o,z.heap.get? b=some o->h'.get? b=some o:=λ{h'} hk b o e=>by
  have lt:=ZX e;refine hk b o (λhm=>?_) (λh=>?_) (ZQ _ (ZQ _ e))
  .rw[wa4.mp hm]at lt;exact waW _ lt
  .rw[wbo]at h;rw[h]at lt;exact absurd (show z.heap.objs.size+1<z.heap.objs.size from lt) (by lia)
 by_cases h0:xs.size=0
 .refine waa {wbI wbC _,uS W _ nS dv (by simp[intItems,h0]) (W.frame _ _ _ st λb _ o e=>ZQ _ e) (wa9 _ rfl) λh' tk hk=>?_};exact he h0 h' tk (keep hk)
 .refine waa {wbI wbC _,tY W _ (CmpOf.ints_gt (numAt xs) (λ_ _=>wgR)) _ nS _ (by simp[intItems];lia) (W.frame _ _ _ st λb _ o e=>ZQ _ e) (wa9 _ rfl) λv h' tk hP hk=>?_};exact hn (by lia) v h' tk (by simpa [intItems] using hP) (keep hk)
end
end PySem
namespace L2
open PySem.Spec PyProof.Rows
section
variable{X:Cx}{e e2:Expr}{t:TA}{t2:TE}{p kp pos:Pos}
theorem DT(hc:X.calm=true)(I:Inv X g σ H s)(l:RelV (.int d) v)(C:aK X.K H a (wcM V.int ns))(h0:ns=[]->Q (.int d) H)(J:∀M,M∈ns->(∀a∈ns,a<=M)->Q (.int M) H) :
 wpAny (model X.prog X.w) X.A (call (.builtin "max") [.ref a] [(wbU "default",v)]) (EP X g σ Q) X.xe s:=by
 obtain⟨f,r,pl,p⟩:=I.list C;obtain⟨c,e,rfl⟩:=j9 r
 have hl:s.heap.IsList a (intItems c.toArray):=by
  have:intItems c.toArray=f.toArray:=by rw[e];unfold intItems;simp
  rw[this];exact pl.isList
 refine vd (I.ok.hd hc) hl (λhs h i hk=>?_) (λhs q h i k hk=>?_)
 .have:c=[]:=by
   rw[wa3]at hs;exact wba hs
  subst this;exact{.int d,H,I.kept hk,l,h0 rfl}
 .obtain⟨t,rfl⟩:=wgR k;obtain⟨u,m⟩:=argBest_gt (numAt c.toArray) (c.toArray.size-1);refine{.int _,H,I.kept hk,⟨t,rfl⟩,J _ ?_ λb n=>?_}
  .rw[numAt_eq];exact getD_mem (by rw[ZI];simp only[wa3]at *;omega)
  .obtain⟨j,o,rfl⟩:=mem_getD n;rw[ZI]at o;have:=m j (by simp only[wa3]at *;omega);rw[numAt_eq]at this;exact this
theorem Jd(hc:X.calm=true)(g:Gl X "max")(j:X.mg "max"=none)(ha:PA X [e] t)(hd:PE X e2 t2)(hs:starEach [e] X.env=[(false,eval e X.env)]:=by rfl):PE X (.Call (.Name "max" p) [e] [{some "default",e2,kp}] pos) (ML X.K t t2):=by
 refine{?_};intro b s σ H Q I h;refine wb6 (gT I g j (show wav "max"=some (.builtin "max") from BJ) ?_ ⋯ ⋯);refine wf1 (bS (ha pos b s σ H _ I h) λx c ⟨z,f,i,k,l⟩=>?_) (by rw[hs];rfl) (by rw[hs];rfl);refine wdX (bS (hd b c σ f _ i l) λv A ⟨y,B,m,n,o⟩=>wea ?_);obtain⟨a,ns,d,rfl,rfl,q,h0,r⟩:=o;obtain⟨u,rfl,w⟩:=vals1 k;cases w;exact DT hc m n q h0 r
end
end L2
namespace K40
section
variable{P:wad}{w:World}{K:ZK}{mg:Str->Option Value}{base:Heap}
local macro_rules|`(tactic|ac_rfl)=>`(tactic|try dsimp only[cZ,d1,b0,b4])
theorem rL(L:Lk K mg):aQ P w K mg base cI 1 L.kN L.lu ["self"] (Ir L.aA):=by
 have T:=L.T;refine L.lF.F.dF (N:=["self"]) (λo A outer s H R Q E nd S h=>?_);obtain⟨x,g,bw,ss,ls,rfl,B,p,e,k⟩:=h;refine{_,(a9 (aw (Jd rfl (by rfl) T.max (aF (bV rfl (ax [] []) (aM (aC (pv 0) rfl)) (λ_ _ _ _ _ _=>bb) (λ_ _ _ _ _ _=>(AX T.len (pv 0))))) aq))),?_}
 ac_rfl
 obtain⟨r,b,d,q,U,t,l,f,X,Y,Z⟩:=id B.ex;refine{_,rfl,x,L.aA,r,_,_,rfl,t,L.aP.cl,L.aP.yO,yC g b d q,b,rfl,{_,aK.of l},λu i=>?_};refine di (λ_=>true) (λv=>match v with |.str z=>.int (z.length:Int) |_=>.non) (aL K b _) i (ay (by rw[ZI];lia)) (λH' C=>aK.of (C _ _ l)) (λy a D m c j=>j a (a7.refl _)) (λy a D m _ c j=>?_) (λa c f=>?_)
 .obtain⟨w,hw,rfl⟩:=ZR.mp m;exact{_,rfl,w,rfl,ay (by have:=e w hw;lia),j a (a7.refl _)}
 have G:((bw.map V.str).filter λ_=>true).map (λv=>match v with |.str z=>V.int (z.length:Int) |_=>.non)=(bw.map λw=>(w.length:Int)).map V.int:=by
  rw[waD.mpr (λ_ _=>rfl),ZV,ZV];rfl
 rw[G]at f;refine{u,_,0,rfl,rfl,aK.of f,λhn=>?_,λM I J=>?_}
 .have n:bw=[]:=wgd.mp hn;exact k 0 a c {(λw hw=>by rw[n]at hw;cases hw),.inl ⟨rfl,n⟩}
 .obtain⟨w,hw,rfl⟩:=ZR.mp I;exact k _ a c {λz O=>J _ (ZR.mpr ⟨z,O,rfl⟩),.inr ⟨w,hw,rfl⟩}
theorem pX(L:Lk K mg):aQ P w K mg base cI 2 L.jL L.jP ["band","wide"] (FL L.aA):=by
 have T:=L.T;refine L.jT.F.dF (N:=["band","wide","signs"]) (λj A outer s H v Q E nd y h=>?_);obtain⟨x,n,g,bw,ss,ls,rfl,B,n1,DX,c,e,k⟩:=h
 refine{_,(a5 (ai (i:=2) (aI (Ct rfl) (by rfl) T.max BJ (a8 (aS mU (fI (pv 0) L.aP.cl L.lF (rL L)) aq) (aF aq))))
  (a9 (aw (aS nO (aS mU (aS gq (pv 2) (pv 1)) aq) (pv 1))))),?_}
 ac_rfl
 obtain⟨l,b,d,q,z,m,C,D,G,I,J⟩:=id B.ex;refine{_,rfl,x,l,_,rfl,m,GD g b d q ∅ ∅ ∅ ∅,x,g,bw,ss,ls,rfl,B,e,(λw hw=>by have:=c w hw;omega),λM o p f=>?_};refine{_,_,rfl,rfl,_,_,rfl,?_}
 have r:0<=M/\M<=900:=by
  rcases f.a with⟨h,_⟩ |⟨w,hw,h⟩
  .omega
  .have:=c w hw;omega
 have t:0<=((if 0>M-1 then 0 else M-1)+(n:Int)-1)/(n:Int):=whg (by split<;>omega) ()
 have u:((if 0>M-1 then 0 else M-1)+(n:Int)-1)/(n:Int)<=1000:=by
  refine wdp (Int.ediv_le_self _ (by split<;>omega)) (by split<;>omega)
 refine{_,rfl,_,rfl,_,_,rfl,rfl,_,_,rfl,rfl,_,rfl,_,_,rfl,rfl,{(),()},?_};have:=k (((if 0>M-1 then 0 else M-1)+(n:Int)-1)/(n:Int)).toNat o p {(),M,f,()};rwa[show ((((if 0>M-1 then 0 else M-1)+(n:Int)-1)/(n:Int)).toNat:Int)=((if 0>M-1 then 0 else M-1)+(n:Int)-1)/(n:Int) by omega]at this
theorem fW(L:Lk K mg):aQ P w K mg base cI 3 L.jM L.jQ ["self"] (FN L.ak L.aA):=by
 refine L.eR.F.dF (N:=["self"]) (λe A outer s H l Q E nd m h=>?_);obtain⟨x,f,c,fs,n,g,bw,ss,ls,rfl,d,i,j,B,n1,DX,a,b,k⟩:=h;refine{_,(a9 (aw (aj (pX L) L.jT (a8 (aC (pv 0) rfl) (aF (aC (pv 0) rfl)))))),?_}
 ac_rfl
 exact{_,rfl,x,L.ak,c,_,_,rfl,d,L.ag.cl,L.ag.G1,i,_,rfl,x,L.ak,c,_,_,rfl,d,L.ag.cl,L.ag.G2,j,f,n,g,bw,ss,ls,rfl,B,n1,DX,a,b,k}
theorem xP(L:Lk K mg):aQ P w K mg base cI 4 L.qN L.qZ ["_law_told_here","_law_words","_law_wide"] (Gk K L.ak L.aA L.aE L.av):=by
 have T:=L.T;refine L.rp.F.dF (N:=["_law_told_here","_law_words","_law_wide","_law_longest","_law_behind","_law_lead_here"]) (λgn A outer s H vs Q E nd hr h=>?_);obtain⟨x,a,p,rfl,PT,C,k⟩:=h
 refine{_,(a5 (ai (i:=3) (aI (vH rfl) (by rfl) T.max BJ (aF (aS EE (bV rfl (ax [] []) (aM (pv 1)) (λ_ _ _ _ _ _=>bb) (λ_ _ _ _ _ _=>(AX T.len (pv 0)))) (cC (aF aq))))))
  (a5 (ai (i:=4) (aS nO (aS mU (aS gq (aS mU (pv 3) aq) (pv 2)) aq) (pv 2)))
  (a5 (ai (i:=5) (fI (pv 0) L.ag.cl L.mE (uv L)))
  (a5 (bp (PW.pt (cL (bH (bB (aj (eP L) L.eu (aF (fI (pv 0) L.ag.cl L.eR (fW L)))))) (cL (cD nN (fI (pv 0) L.ag.cl L.eR (fW L)) (pv 4)) (dD (bH (bB (aI bI (by rfl) T.De pK (a8 (pv 5) (aF (dY (v:=.ty "str") (by rfl) T.str Af rfl)))))))))) (a9 (aw da)) aH)
  (a5 (bp (PW.pt (cL (bH (nU vB vB (aS gV (pv 4) (pv 2)) (AX T.len (pv 5)) aq)) (dD (bH (bB (aj (p8 L) L.lE (a8 (pv 5) (aF (pv 1))))))))) (a9 (aw da)) aH)
  (a5 (bp (PW.pt (cL (bH (bB (aj (eP L) L.eu (aF (fI (pv 0) L.ag.cl L.fD (gz L)))))) (dD (bH (nU vB iO aq (fI (pv 0) L.ag.cl L.fD (gz L)) (fI (pv 0) L.ag.cl L.cq (cw L))))))) (a9 (aw da)) aH)
  (a9 (aw (cV nM (aj (mJ L) L.jB (a8 (pv 5) (aF (pv 1)))) (Dt (pv 0) L.ag.cl L.cA (d8 L) (aF (fI (pv 0) L.ag.cl L.fD (gz L)))) (gp _)))))))))),?_}
 ac_rfl
 have f:=PT.w;have b6:=PT.b6;obtain⟨⟨g,pp,Ul,aa,ll,dp,wa,wb,RK,wz,ys,j,_⟩,ok⟩:=id f;have n1:=ok.n1;have DX:=ok.DX;have m1:=ok.m1;have b1:=ok.b1;have Zn:1<=p.n:=n1;have Xs:p.n<=10:=DX;have Zo:=JK ok.bh (λw hw=>(PT.w5 w hw).hi) n1;have w0:=xG ok.w (wc0.mpr ok.w.ne) (ts:=wag p.R.b 0) λt O=>by rw[(wer.mp O).2];lia
 rw[wca]at w0;obtain⟨w1,w2⟩:p.R.o.2<p.R.wl.length/\p.R.o.1.length=p.R.n*p.R.b:=w0;have l:∀w∈p.bw,1<=w.length:=λw h=>(ok.hw w h).1;obtain⟨g1,g2⟩:bears p.bw (p.R.hk.getD 0 ""++p.R.o.1)=false/\lend p.ss (p.R.hk.getD 0 ""++p.R.o.1)=p.R.hk.getD p.R.o.2 "":=DE ok.w ok.pm l (PT.pk.uJ ok.pm l PT.ls p.many.toNat) (wc0.mpr ok.w.ne) ok.h0 _ λt O=>by rw[(wer.mp O).2];lia
 have S:("":Str)∈p.ss:=ok.pm.mem_iff.mpr (cb _);rw[DB S (by rw[w2];exact ok.sh)]at g2;have g1:bears p.bw p.R.o.1=false:=lQ (by rw[bx];exact(List.suffix_append _ _).isInfix) g1;refine lT λR1 q1=>?_;refine{_,rfl,a,rfl,{_,C},λl1 q=>?_};refine comp_map (λv=>match v with |.str z=>.int (z.length:Int) |_=>.non) (aL K a _) q (ay (by rw[ZI];lia)) (λH' s'=>s'.seq C) (λy H3 Q' hy D qq=>?_) (λU s1 X=>?_)
 .obtain⟨w,hw,rfl⟩:=ZR.mp hy;exact{_,rfl,w,rfl,ay (by have:=(PT.w5 w hw).hi;lia),qq H3 (a7.refl _)}
 have e3:(p.bw.map V.str).map (λv=>match v with |.str z=>V.int (z.length:Int) |_=>.non)=(p.bw.map λw:Str=>(w.length:Int)).map V.int:=by
  rw[ZV,ZV];rfl
 rw[e3]at X;refine{by show 1<=sizeLine;decide,λG r=>?_};have I:=a7.upd (H:=U) (o:=.lst [V.int 1]) r;have Y:(upd U G (.lst [V.int 1])) G=some (.lst [V.int 1]):=a6;generalize upd U G (.lst [V.int 1])=Z at I Y;refine{l1,G,_,_,rfl,rfl,I _ _ X,Y,ay (by rw[ZI,ZI];show _+1<=_;lia),λJ u=>?_};have D:=I.trans (a7.upd (H:=Z) (o:=.lst ((p.bw.map λw:Str=>(w.length:Int)).map V.int++[V.int 1])) u);have h3:(upd Z J (.lst ((p.bw.map λw:Str=>(w.length:Int)).map V.int++[V.int 1]))) J=some (.lst (((p.bw.map λw:Str=>(w.length:Int))++[1]).map V.int)):=by rw[a6,wa1];rfl
 generalize upd Z J (.lst ((p.bw.map λw:Str=>(w.length:Int)).map V.int++[V.int 1]))=H3 at D h3;have d:=s1.trans D;refine{J,_,rfl,aK.of h3,List.append_ne_nil_of_right_ne_nil _ (List.cons_ne_nil _ _),λM hM hT=>?_};have eb:(M-1+(p.n:Int)-1)/(p.n:Int)=(p.R.b:Int):=IB ok.bh l hM hT;refine q1 (Lq p x a (some (.int M)) none none) _ (lT λR2 q2=>?_);refine{_,rfl,_,_,rfl,rfl,_,rfl,_,_,rfl,rfl,_,_,rfl,rfl,_,rfl,_,_,rfl,rfl,{by lia,by lia},?_};show eI 4 (V.int ((M-1+(p.n:Int)-1)/(p.n:Int))) _ _ _;rw[eb];refine q2 (Lq p x a (some (.int M)) (some (.int (p.R.b:Int))) none) _ (lT λR3 q3=>?_);refine{_,rfl,x,g,_,rfl,d _ _ j,aZ _ _ _ _ _ _ _ _ ∅,x,p.R,rfl,f.same d,?_};refine q3 (Lq p x a (some (.int M)) (some (.int (p.R.b:Int))) (some (.str p.R.o.1))) _ (lT λR4 q4=>?_);clear q1 q2 q3 e3 X Y h3 I D q r u hM hT;refine{_,rfl,x,g,_,rfl,d _ _ j,aZ _ _ _ _ _ _ _ _ ∅,Gi (f.same d) λH4 s4=>{_,rfl,true,rfl,bo ?_}};have m:=d.trans s4;refine{_,rfl,x,g,_,rfl,m _ _ j,aZ _ _ _ _ _ _ _ _ ∅,Gi (f.same m) λH5 s5=>{_,rfl,rfl,false,pf _,bo ?_}};have B:=m.trans s5;refine{_,rfl,_,_,_,true,rfl,fH.str _,rfl,true,rfl,bo ?_};refine q4 _ _ (lT λR5 q5=>?_);have Xu:(p.R.b:Int)*(p.n:Int)=((p.R.n*p.R.b:Nat):Int):=by rw[wcc,wgw];rfl
 refine{_,rfl,_,rfl,_,_,rfl,rfl,.inl {by lia,by lia},?_};rw[Xu];refine{_,rfl,p.R.o.1,rfl,ay (by lia),_,_,rfl,rfl,true,congrArg V.bl (decide_eq_true (by lia)),eJ {_,_,rfl,rfl,true,congrArg V.bl (decide_eq_true (by lia)),bo ?_}};refine{_,rfl,_,rfl,_,a,p.bw,rfl,B.seq C,by lia,λH6 s6=>{true,congrArg V.bl (by rw[g1];rfl),bo ?_}};have c:=B.trans s6;refine q5 _ _ (lT λR6 q6=>?_);refine{_,rfl,x,g,_,rfl,c _ _ j,aZ _ _ _ _ _ _ _ _ ∅,x,p.R,rfl,f.same c,_,rfl,true,rfl,bo ?_};refine{_,rfl,x,g,_,rfl,c _ _ j,aZ _ _ _ _ _ _ _ _ ∅,x,p.R,rfl,f.same c,_,_,rfl,rfl,true,congrArg V.bl (decide_eq_true (by lia)),eJ ?_};refine{_,rfl,x,g,_,rfl,c _ _ j,aZ _ _ _ _ _ _ _ _ ∅,x,p.R,rfl,f.same c,_,_,rfl,rfl,true,congrArg V.bl (decide_eq_true (by lia)),bo ?_};refine q6 _ _ ?_;refine{_,rfl,_,rfl,p.R.o.1,a,p.bw,p.ss,rfl,c.seq C,ok.pm,λw h=>(PT.w5 w h).hi,by lia,g1,by lia,λH7 s7=>?_};have e:=c.trans s7;refine{_,rfl,x,g,_,rfl,e _ _ j,aZ _ _ _ _ _ _ _ _ ∅,_,rfl,x,g,_,rfl,e _ _ j,aZ _ _ _ _ _ _ _ _ ∅,x,p.R,rfl,f.same e,x,p.R,p.R.o.2,rfl,f.same e,w1,rfl,?_};rw[g2,show decide (V.str (p.R.hk.getD p.R.o.2 "")=V.str (p.R.hk.getD p.R.o.2 ""))=true from decide_eq_true rfl];exact k H7 e
end
end K40
namespace Bs
theorem GA(xs:List Int)(g:i<=j)(l:j<=xs.length):lH (xs.map V.int) (some (i:Int)) (some (j:Int))=((xs.take j).drop i).map V.int:=by grind [lH,HT.J6,ZI,wfj,wdK,wd5,List.drop_take]
end Bs
namespace K40
section
variable{P:wad}{w:World}{K:ZK}{mg:Str->Option Value}{base:Heap}
local macro_rules|`(tactic|ac_rfl)=>`(tactic|try dsimp only[cZ,d1,b0,b4])
theorem DU(L:Lk K mg):aQ P w K mg base cI 1 L.z6 L.z9 ["weights","numbers","many"] (Nv K):=by
 have T:=L.T;refine L.zc.F.dF (N:=["weights","numbers","many","taken_at","total","taken","number"]) (λgn A outer s H vs Q E nd hr h=>?_);obtain⟨a,b,many,wl,d,rfl,hA,I,m1,m2,J,M,k⟩:=h;have O:=eY hr
 refine{_,(a5 (ai (i:=3) (Bz (ya aq aq Bp) rfl rfl (by simp) ⋯))
  (a5 (ai (i:=4) aq)
  (a5 (forA (Gm (by rfl) T.enum (aF (pv 1))) (fj rfl (aU (az (i:=5)) (aU (az (i:=6)) dG))) (a5 (sL (i:=4) nd rfl (wdg rfl) (b5 b9 (pv 0) (pv 6) (λ_ _=>rfl)) EB)
  (a5 (bp (zO (Kv O (aS eF (pv 4) (pv 2)) (pv 3))) (a9 (aw (df jD (pv 1) (cW (cJ O (pv 3) (aS eF (pv 4) (pv 2)) (λ_ _=>rfl))) (cW (pv 5))))) aH)
  (a9 (eQ O (pv 3) (aS eF (pv 4) (pv 2)) (pv 5) rfl)))))
  (a9 (aw (cC fM)))))),?_}
 ac_rfl
 have l:(0:Int)<many:=by lia
 refine λg m=>{a6,[((waQ 0:Key),V.int 0)],rfl,⋯,?_};have R:a7 H (upd (upd H g (.dK [])) g (.dK (ja [] [((waQ 0:Key),V.int 0)]))):=λc o e=>by rw[ae (af e m),ae (af e m)];exact e
 have h0:(upd (upd H g (.dK [])) g (.dK (ja [] [((waQ 0:Key),V.int 0)]))) g=some (.dK (dR many (jq wl d) 1)):=by
  rw[a6];refine congrArg (λz=>some (HO.dK z)) ?_;show [((waQ 0:Key),V.int 0)]=[((waQ (0%many):Key),V.int 0)];rw[Int.zero_emod]
 generalize upd (upd H g (.dK [])) g (.dK (ja [] [((waQ 0:Key),V.int 0)]))=H0 at R h0;refine{_,rfl,b,_,rfl,R.seq I,Dk (K:=K) (a:=b) (xs:=(nI d).map V.int) (λj σ q=>a7 H q/\(∃S v6,σ=[some (.ref a),some (.ref b),some (.int many),some (.ref g),some (.int (jq wl d j)),S,v6])/\q g=some (.dK (dR many (jq wl d) (j+1)))/\∀i k,i<k->k<=j->jq wl d i%many≠jq wl d k%many) {R,⟨none,none,rfl⟩,h0,λi k Y C=>by lia} (λi σ q _ p=>p.1.seq I) ?_ (λσ q p=>?_)}
 .rintro j y σ q T U ⟨Z,⟨S,v6,rfl⟩,C,f⟩ hT;have hj:j<d.length:=by have:=(ZO.mp U).1;rwa[ZI,cO]at this
  have r:d[j]?=some d[j]:=ZJ hj;rw[tj r]at U;cases U;have t:=M _ (wah hj);have x:=CQ (wl:=wl) r;generalize d[j]=n at r t x;have u:=Z.trans (a7.upd (o:=.tup [.int ((j+1:Nat):Int),.int (n:Int)]) hT);have D:(upd q T (.tup [.int ((j+1:Nat):Int),.int (n:Int)])) g=some (.dK (dR many (jq wl d) (j+1))):=a7.upd hT _ _ C;refine{T,_,rfl,fJ.of a6,rfl,_,_,rfl,_,_,rfl,rfl,?_};generalize upd q T (.tup [.int ((j+1:Nat):Int),.int (n:Int)])=H3 at u D;refine{_,rfl,_,rfl,_,rfl,a,_,_,_,rfl,rfl,u.seq hA,bq (v:=.int (wl.getD n 0)) (by rw[ZM,ZJ t,ZL,ZJ t];rfl),_,_,rfl,rfl,?_};dsimp only;rw[<-x];refine{_,rfl,_,rfl,_,_,rfl,rfl,l,_,rfl,g,_,rfl,eK.k (k:=(waQ (jq wl d (j+1)%many):Key)) D,?_};rcases F6 many (jq wl d) (j+1) (jq wl d (j+1)%many) with⟨G,B⟩ |⟨i,hi,X,G⟩
  .rw[G];refine{false,rfl,bo ?_};refine{_,rfl,_,rfl,_,rfl,_,rfl,_,_,rfl,rfl,l,g,_,rfl,kh.k (k:=waQ (jq wl d (j+1)%many)) D (by rw[KD];exact bO (by lia)),?_};rw[KC G];refine{λc o e=>by rw[ae (af e m)];exact u _ _ e,{_,_,rfl},a6,λi k Y C=>?_}
   by_cases e:k=j+1
   .subst e;exact B i (by lia)
   .exact f i k Y (by lia)
  .have hg:=eK.k (k:=(waQ (jq wl d (j+1)%many):Key)) D;rw[G]at hg ⊢;refine{true,rfl,eJ ?_};refine{_,rfl,_,rfl,_,rfl,_,rfl,_,_,rfl,rfl,l,g,_,rfl,hg,_,rfl,_,rfl,_,rfl,b,_,rfl,u.seq I,λp hp=>?_};rw[GA _ (by lia) (by rw[cO];lia),BF,HE];exact k p i (j+1) _ (u.trans (a7.upd hp)) (none_of u hp) (by lia) (by lia) (Fo (by lia) X) a6
 .obtain⟨Z,⟨S,v6,rfl⟩,C,f⟩:=p;rw[ZI,cO]at f;exact absurd (AF l J f) id
theorem ve(L:Lk K mg):aQ P w K mg base cI 2 L.oy L.oO ["sheet","many"] (Lw K L.av):=by
 have T:=L.T;refine L.oY.F.dF (N:=["sheet","many","found","desk","weights","others","numbers"]) (λgn A outer s H vs Q E nd hr h=>?_);obtain⟨x,many,hs,ws,lns,rfl,S,B,hK,zy,hn,hm,m1,m2,k⟩:=h
 refine{_,(a5 (ai (i:=2) (aj (xF L) L.ri (aF (pv 0))))
  (a5 (ai (i:=3) (b5 fO (pv 2) aq (λ_ _=>rfl)))
  (a5 (ai (i:=4) (fv rfl (ax ["sheet"] [0]) (ax ["sheet"] [0]) ⋯ (aM (b5 b9 (aC (pv 0) rfl) (pv 3) (λ_ _=>rfl))) (λ_ _ _ _ _ _=>bb) (λ_ _ _ _ _ _=>(b5 (gf (K:=K) rfl) (lL (K:=K) rfl (pv 2) rfl) (pv 1) (λ_ _=>rfl)))))
  (a5 (fP (i:=5) rfl (ax ["found"] [2]) nd rfl rfl (dj rfl T.range (aF (AY T.len (pv 4)))) (λ_ _ _ _ _ _=>fZ (cD nN (pv 0) (b5 (IH (K:=K) rfl) (pv 1) aq (λ_ _=>rfl)))) (λ_ _ _ _ _ _=>(pv 0)))
  (a5 (ai (i:=6) (aj (DU L) L.zc (a8 (pv 4) (a8 (aS EE (cC (aF (b5 fO (pv 2) aq (λ_ _=>rfl)))) (df jD (pv 5) gD (cW (aS mU (pv 1) aq)))) (aF (pv 1))))))
  (a9 (aw (cM (a8 (pv 3) (a8 (pv 6) (aF (aS nO (aI (iQ rfl) (by rfl) T.sum Ai (aF (bV rfl (ax ["weights"] [4]) (aM (pv 6)) (λ_ _ _ _ _ _=>bb) (λ_ _ _ _ _ _=>(b5 (gf (K:=K) rfl) (pv 1) (pv 0) (λ_ _=>rfl)))))) (pv 1))))))))))))),?_}
 ac_rfl
 obtain⟨dx,ah,bw,cl,hx,rh,DW,rl⟩:=id S;obtain⟨SZ,eb,hb⟩:=eN DW;cases eb;obtain⟨M6,xs,ec,hc,xR⟩:=id rl;cases ec;have J:=B.w;have zz:=B.l;have xl:xs.length=lns.length:=by rw[xR.len,ZI]
 have Xv:ws≠[]:=λz=>zy (wba (by rw[<-J,z];rfl));refine{_,rfl,x,hs,ws,lns,rfl,S,by lia,λl hl q hq=>by rw[J];exact B.e l hl q hq,Xv,λh hh ht=>?_,λt h d i b q H1 M ht D=>?_}
 .obtain⟨d,i,b,q,e1,e2,e3,e4⟩:=yT B hK hh ht m1;exact⟨d,i,b,q,hh,ht,e1,e2,e3,e4⟩
 have hd:d<lns.length:=(ZO.mp D.l).1;have hi:i<b.length:=(ZO.mp D.s).1;have Mf:b∈lns:=ZT D.l;have JH:=hm b Mf;have Up:=vX B D;have hT:=fJ.of (K:=K) ht;refine{_,rfl,t,_,_,_,rfl,rfl,hT,rfl,?_};obtain⟨v,LI,rd⟩:=xR.at (i:=d) (d:=bG b) (by rw[ZM,D.l];rfl);obtain⟨a,rs,rfl,hS,Uq⟩:=dA rd;have C5:rs.length=b.length:=by rw[Uq.1,ZI,ZI]
 refine{_,rfl,x,L.av,dx,_,_,rfl,M _ _ hx,L.ao.cl,L.ao.cf,bj ah bw cl,_,rfl,cl,xs,_,_,rfl,rfl,M.seq (.inl hc),bq LI,a,rfl,{_,M.seq hS},λlc J4=>?_};refine mY (prs:=b.map eA) (λ_=>true) (λq=>match q.2 with |.int e=>.int (ws.getD e.toNat 0) |_=>.non) (aL K a (rs.map V.ref)) (Uq.same M) J4 (ay (by lia)) (λH' s'=>(M.trans s').seq hS) (λq H7 Z _ _ j=>j H7 (a7.refl _)) (λq H7 Z hq _ s7 j=>?_) (λH7 s7 h7=>?_)
 .obtain⟨O,Xw,rfl⟩:=ZR.mp hq;have r:O.2<ws.length:=by rw[J];exact B.e b Mf O Xw
  have P8:uG (ws.map V.int) (O.2:Int)=some (.int (ws.getD O.2 0)):=bq (by rw[ZM,ZJ r,ZL,ZJ r];rfl)
  have q2:Z (.int (ws.getD O.2 0)) H7:=by
   have:=j H7 (a7.refl _);rwa[show (eA O).2=.int (O.2:Int) from rfl]at this
  have u:=M.trans s7;exact{_,rfl,x,L.av,dx,_,_,rfl,u _ _ hx,L.ao.cl,L.ao.bK,bM ah bw cl,_,rfl,bw,_,_,_,rfl,rfl,u.seq hb,P8,q2}
 have e7:((b.map eA).filter λ_=>true).map (λq=>match q.2 with |.int e=>V.int (ws.getD e.toNat 0) |_=>.non)=(b.map λq=>ws.getD q.2 0).map V.int:=by
  rw[waD.mpr (λ_ _=>rfl),ZV,ZV];rfl
 rw[e7]at h7;have u:=M.trans s7;have P9:=s7.Hc hT;have c:(b.map λq=>ws.getD q.2 0).length=b.length:=ZI _;refine{_,rfl,lc,_,rfl,.inl (aK.of h7),_,rfl,by lia,by rw[ZI,c];lia,λlo MO=>?_};have en:((((b.map λq=>ws.getD q.2 0).map V.int).length:Nat):Int).toNat=b.length:=by rw[ZI,c,wae]
 rw[en];refine di (λv=>!decide (v=.int (i:Int))) (λv=>v) (mO 0 b.length) MO (ay (by rw[ZI,wau];lia)) (λ_ _=>wbc) (λy C Z hy R j=>?_) (λy C Z hy _ R j=>{_,rfl,j C (a7.refl _)}) (λC R h8=>?_)
 .obtain⟨n,C0,rfl⟩:=ZR.mp hy;exact{_,rfl,_,rfl,t,_,_,_,rfl,rfl,R.Hc P9,rfl,rfl,_,rfl,j C (a7.refl _)}
 have e8:(((wak b.length).map λi:Nat=>V.int (0+(i:Nat))).filter λv=>!decide (v=.int (i:Int)))=(nI (restOf b.length i)).map V.int:=by
  have e9:((wak b.length).map λi:Nat=>V.int (0+(i:Nat)))=(nI (wak b.length)).map V.int:=by
   rw[<-yx];exact waK λn _=>by rw[wds]
  rw[e9,vQ (f:=λn=>decide (n≠i)) λn=>?_]
  .rfl
  .by_cases z:n=i
   .subst z;simp
   .have:¬V.int (n:Int)=V.int (i:Int):=λy=>z (by have:=V.int.inj y;lia);rw[decide_eq_false this,decide_eq_true z];rfl
 rw[wdo,e8]at h8;have Ur:=u.trans R;have Xx:=R.Hc P9;have Us:=R _ _ h7;refine{_,rfl,_,rfl,t,_,_,_,rfl,rfl,Xx,rfl,by show 1<=sizeLine;decide,λl1 Rt=>?_};have s9:=a7.upd (H:=C) (o:=.lst [V.int (i:Int)]) Rt;have h9:(upd C l1 (.lst [V.int (i:Int)])) l1=some (.lst [V.int (i:Int)]):=a6;generalize upd C l1 (.lst [V.int (i:Int)])=H9 at s9 h9;have Xy:many-1=(((many-1).toNat:Nat):Int):=by lia
 refine{_,rfl,_,rfl,_,_,rfl,rfl,(((many-1).toNat:Nat):Int),congrArg V.int Xy,lo,_,rfl,aK.of (s9 _ _ h8),λl2 RH=>?_};rw[C7,<-wd5,BF];have U:=a7.upd (H:=H9) (o:=.lst ((nI ((restOf b.length i).take (many-1).toNat)).map V.int)) RH;have DS:(upd H9 l2 (.lst ((nI ((restOf b.length i).take (many-1).toNat)).map V.int))) l2=some (.lst ((nI ((restOf b.length i).take (many-1).toNat)).map V.int)):=a6;generalize upd H9 l2 (.lst ((nI ((restOf b.length i).take (many-1).toNat)).map V.int))=X at U DS;have M8:=yL (k:=(many-1).toNat) hi (by lia);refine{l1,l2,_,_,rfl,rfl,U _ _ h9,DS,ay ?_,λl3 Hy=>?_}
 .rw[ZI,cO,wa5];show 1+_<=_
  lia
 rw[show [V.int (i:Int)]++(nI ((restOf b.length i).take (many-1).toNat)).map V.int=(nI (numsOf b.length i (many-1).toNat)).map V.int from rfl];have J9:=a7.upd (H:=X) (o:=.lst ((nI (numsOf b.length i (many-1).toNat)).map V.int)) Hy;have JT:(upd X l3 (.lst ((nI (numsOf b.length i (many-1).toNat)).map V.int))) l3=some (.lst ((nI (numsOf b.length i (many-1).toNat)).map V.int)):=a6;generalize upd X l3 (.lst ((nI (numsOf b.length i (many-1).toNat)).map V.int))=Gs at J9 JT;have g:=(s9.trans U).trans J9;refine{_,rfl,lc,l3,many,b.map λq=>ws.getD q.2 0,numsOf b.length i (many-1).toNat,rfl,aK.of (g _ _ Us),aK.of JT,m1,m2,by rw[M8];lia,λn hn=>by rw[c];exact xf hi n hn,λl i' j' TF Ja RO Xz hj hz m=>?_};have bc:=IG B m1 D Xz hj hz;have r:∀n∈((numsOf b.length i (many-1).toNat).take j').drop i',n<b.length:=λn hn=>xf hi n (((wgL _ _).trans (waB _ _)).subset hn)
 have GJ:(((numsOf b.length i (many-1).toNat).take j').drop i').length<=1000:=by
  rw[waN,wa5]
  lia
 generalize ((numsOf b.length i (many-1).toNat).take j').drop i'=ns at *;have G:=Ur.trans (g.trans Ja);have XA:=Ja _ _ (g _ _ Us);refine{_,rfl,_,rfl,_,rfl,l,rfl,{_,aK.of m},λls XC=>?_};refine di (λ_=>true) (λv=>match v with |.int n=>.int ((b.map λq=>ws.getD q.2 0).getD n.toNat 0) |_=>.non) (aL K l _) XC (ay (by rw[ZI,cO];lia)) (λH' s'=>aK.of (s' _ _ m)) (λy C Z hy R j=>j C (a7.refl _)) (λy RP Z hy _ p j=>?_) (λRP p O5=>?_)
 .obtain⟨n,C0,rfl⟩:=xc hy;have I:n<(b.map λq=>ws.getD q.2 0).length:=by rw[c];exact r n C0
  exact{_,rfl,_,rfl,lc,_,_,_,rfl,rfl,aK.of (p _ _ XA),bq (v:=.int ((b.map λq=>ws.getD q.2 0).getD n 0)) (by rw[ZM,ZJ I,ZL,ZJ I];rfl),j RP (a7.refl _)}
 have XE:(((nI ns).map V.int).filter λ_=>true).map (λv=>match v with |.int n=>V.int ((b.map λq=>ws.getD q.2 0).getD n.toNat 0) |_=>.non)=(ns.map λn=>(b.map λq=>ws.getD q.2 0).getD n 0).map V.int:=by
  rw[waD.mpr (λ_ _=>rfl)];unfold nI;rw[ZV,ZV,ZV];rfl
 rw[XE]at O5;refine{ls,_,rfl,aK.of O5,_,rfl,_,_,rfl,rfl,{by lia,by lia},by show 3<=sizeLine;decide,λt' Y=>?_};exact k t' l d ns _ _ (G.trans (p.trans (a7.upd Y))) (none_of (Ur.trans g) RO) (none_of (G.trans p) Y) a6 (a7.upd Y _ _ (p _ _ m)) bc (by lia) GJ
end
end K40
namespace Sx
inductive RQ(C:Addr)(n1 n2:Str)(dF XF:V->Prop)(vs:List V)(H:Hp)(Q:VK)(eC:XK):Prop
 |mk (x u v) (_:vs=[.ref x,u,v]) (_:dF u) (_:XF v) (_:H x=some (XN x C)) (_:∀d,H d=none->Q .non (upd (upd H d (.xd [(n1,u),(n2,v)])) x (XD x C d)))
end Sx
namespace K40
section
variable{P:wad}{w:World}{K:ZK}{mg:Str->Option Value}{base:Heap}
local macro_rules|`(tactic|ac_rfl)=>`(tactic|try dsimp only[cZ,d1,b0,b4])
theorem nA(L:Lk K mg):aQ P w K mg base cI 1 L.dI L.fE ["self","length","rows"] (RQ L.cj "length" "rows" JD JD):=by
 refine L.zi.dF (N:=["self","length","rows"]) (λm A outer s H n Q E nd o h=>?_);obtain⟨x,u,v,rfl,⟨i,rfl,a⟩,⟨j,rfl,b⟩,g,k⟩:=h
 refine{_,(a5 (bL (Gx rfl L.zg L.XB (a8 (pv 0) (aF (Hn (zY (EJ (pv 1) (zY (EJ (pv 2) (zY Ko))))))))))
  (a5 (Jb (CB:=L.cS) (pv 0) (pv 1) rfl)
  (a9 (Gq (CB:=L.cS) (pv 0) (pv 2) rfl)))),?_}
 ac_rfl
 have l1:=web a;have l:=web b;refine{_,rfl,ay ?_,_,rfl,.inl {i,rfl,a,ay ?_,ay ?_,_,rfl,.inl {j,rfl,b,ay ?_,ay ?_,ay ?_,x,L.cj,_,_,rfl,g,L.hZ,?_}}}
 .exact wa0 (show _<=1000 by decide+kernel) ⋯
 .exact wa0 (fq (show _<=1000 by decide+kernel) l1) ⋯
 .exact wa0 (fq (fq (show _<=1000 by decide+kernel) l1) (show _<=1000 by decide+kernel)) ⋯
 .exact wa0 (fq (fq (fq (show _<=1000 by decide+kernel) l1) (show _<=1000 by decide+kernel)) l) ⋯
 .exact wa0 (fq (fq (fq (fq (show _<=1000 by decide+kernel) l1) (show _<=1000 by decide+kernel)) l) (show _<=1000 by decide+kernel)) ⋯
 .exact wa0 (fq (fq (fq (fq (show _<=1000 by decide+kernel) l1) (show _<=1000 by decide+kernel)) l) (show _<=1000 by decide+kernel)) ⋯
 refine{_,rfl,_,rfl,x,L.cj,_,rfl,g,L.hZ,L.rF,λd hd=>?_};have f:d≠x:=λz=>by rw[z,g]at hd;cases hd
 refine{_,rfl,_,rfl,x,L.cj,_,d,[("length",.int i)],rfl,a6,by rw[ae f,a6],by show 1<=50;decide,L.hZ,L.uU,by rw[wcW,show (("rows":Str) == "length")=false by decide+kernel];rfl,?_}
 have e:upd (upd (upd H d (.xd [(("length":Str),V.int i)])) x (XD x L.cj d)) d (.xd ([(("length":Str),V.int i)]++[(("rows":Str),V.int j)]))=upd (upd H d (.xd [(("length":Str),V.int i),(("rows":Str),V.int j)])) x (XD x L.cj d):=by
  funext c
  by_cases a:c=d
  .subst a;rw[a6,ae f,a6];rfl
  .rw[ae a]
   by_cases b:c=x
   .subst b;rw[a6,a6]
   .rw[ae b,ae b,ae a,ae a]
 rw[e];exact k d hd
theorem lV(L:Lk K mg):aQ P w K mg base (yc P w) 8 L.gX L.gZ ["band","many","wide"] (Ip L.aA L.cj):=by
 refine L.d7.F.Dn (N:=["band","many","wide","length"]) (λC A outer s H S Q E nd D h=>?_);obtain⟨x,many,n,g,bw,ss,ls,rfl,B,l,m,f,k,G⟩:=h
 refine{_,(a5 (ai (i:=3) (aj (DK L) L.zb (a8 (pv 0) (a8 (pv 1) (a8 (pv 2) (aF (rR (v:=.int 24) (by rfl) L.uk.choose_spec {_,rfl})))))))
  (a9 (bp (cD wQ (pv 3) iz) (a9 (Gv cy rfl L.hZ L.Dx L.Dy (nA L) (D.mono ⋯) L.zj rfl L.zh (a8 (pv 3) (aF (aj (Gn L) L.BV (a8 (pv 0) (aF (aS gV (pv 3) (pv 2))))))))) aH))),?_}
 ac_rfl
 refine{_,rfl,_,rfl,_,rfl,x,many,(n:Int),24,g,bw,ss,ls,rfl,B,l,m,f,⋯,⋯,λv I o p=>?_};rw[wae]at p;have q:=p
 cases p with
 |none a=>exact{_,rfl,rfl,false,rfl,bo (k (λj u J=>a j u J) I o)}
 |some j a b c d=>
  refine{_,rfl,rfl,true,rfl,eJ ?_}
  have hk:(j:Int)*(n:Int)<=100000:=by
   have u:(j:Int)*(n:Int)<=24*6:=Int.mul_le_mul b f.d (by lia) (by lia)
   lia
  have r:0<=(j:Int)*(n:Int):=Int.mul_nonneg (by lia) (by lia);have M:((j:Int)*(n:Int)).toNat=j*n:=by rw[<-wcc,wae]
  refine{_,rfl,_,rfl,_,rfl,_,rfl,_,_,rfl,rfl,?_,x,(j:Int)*(n:Int),g,bw,ss,ls,rfl,B.same o,l,m,r,hk,λT y=>?_}
  .exact .inl {by lia,by lia}
  rw[M];refine{by show 2<=sizeLine;decide,λe O=>{e,_,_,rfl,{_,rfl,?_},{_,rfl,?_},a6,λt hd=>{rfl,.inr {t,a6,?_}}}}
  .have:=Nat.log2_le_self ((j:Nat):Int).natAbs
   lia
  .exact Au f b c
  obtain⟨U,z,R⟩:=Aj (o2:=.xd [("length",.int (j:Nat)),("rows",.int (gG g bw ss (j*n) ""))]) (o3:=XD e L.cj t) O hd;rw[R];exact G j t _ q ((o.trans y).trans (a7.upd z)) (none_of (o.trans y) z) a6
theorem Bf(L:Lk K mg):aQ P w K mg base (yc P w) 9 L.wq L.wy ["band","many","wide"] (Go K L.aA L.aE L.av L.cj L.nu):=by
 have T:=L.T;refine L.lR.F.Dn (N:=["band","many","wide","weights","sheet","splits","kept","part"]) (λgn A outer s H vs Q E nd hr h=>?_);obtain⟨x,many,n,g,bw,ss,ls,rfl,B,M9,O2,Z,v,J,r,k,kS,kO⟩:=h
 refine{_,(a5 (bL (aj (eO L) L.et (a8 (pv 0) (a8 (pv 1) (aF (pv 2))))))
  (a5 (bL (ia (lV L) (hr.mono ⋯) rfl L.d7.g L.d7.F.kp L.d7.b .nil (vF cy) (a8 (pv 0) (a8 (pv 1) (aF (pv 2))))))
  (a5 (ai (i:=3) (aj (pd L) L.j0 (a8 (pv 0) (a8 (pv 1) (a8 (pv 2) (aF (ia (iG L) (hr.mono ⋯) rfl L.cg.g L.cg.F.kp L.cg.b .nil (vF cy) (a8 (pv 0) (a8 (pv 1) (aF (pv 2)))))))))))
  (a5 (ai (i:=4) (aj (i3 L) L.g9 (a8 (pv 0) (a8 (pv 1) (a8 (pv 2) (aF (pv 3)))))))
  (a5 (ai (i:=5) (cC fM))
  (a5 (ai (i:=6) (aj (mH L) L.jA (a8 (pv 4) (aF (pv 1)))))
  (a5 (iN wgO (cD nM (AY T.len (pv 6)) aq) (a5 (ai (i:=7) (aj (ve L) L.oY (a8 (pv 4) (aF (pv 1)))))
  (a5 (ai (i:=4) (ia (zv L) (hr.mono ⋯) rfl L.jy.g L.jy.F.kp L.jy.b .nil (vF cy) (a8 (pv 4) (a8 (pv 1) (a8 (b5 fO (pv 7) aq (λ_ _=>rfl)) (a8 (b5 fO (pv 7) aq (λ_ _=>rfl)) (aF (b5 fO (pv 7) aq (λ_ _=>rfl)))))))))
  (a5 (bL (i9 wap waA waH cN (pv 5) (aF (pv 7))))
  (a9 (ai (i:=6) (aj (mH L) L.jA (a8 (pv 4) (aF (pv 1))))))))))
  (a9 (aw (jh L.BW (j6 L) (hr.mono ⋯) rfl L.G8 L.gx.b .nil lX (a8 (pv 3) (a8 (pv 5) (a8 (pv 6) (aF (pv 4))))))))))))))),?_}
 ac_rfl
 obtain⟨ra,rb,rc,rd,re⟩:=id r
 have DY:g.length^n<=64:=by
  rw[wae]at re;have:((g.length^n:Nat):Int)<=64:=by rw[wbT];exact re
  lia
 have nd:ls.Nodup:=B.nd.sublist B.lv.sub;refine{_,rfl,_,rfl,_,rfl,x,many,n,g,bw,ss,ls,rfl,B,v,r,?_};refine{_,rfl,_,rfl,_,rfl,x,many,n,g,bw,ss,ls,rfl,B,v,J,r,λOd H1 s1=>?_,kS};refine{_,rfl,_,rfl,_,rfl,_,rfl,_,rfl,_,rfl,x,many,n,g,bw,ss,ls,rfl,B.same s1,Z,v,J,r,λd f0 H2 s2 fd h2 hL=>?_,λXG H2 s2=>kO Od XG H2 (s1.trans s2)};obtain⟨most,VY,W8,hG,_⟩:=id hL.gr;refine{x,d,many,n,f0,g,bw,ss,ls,rfl,B.same (s1.trans s2),M9,O2,Z,v,J,r,h2,hG.nn,hG.fit,hL.ps,λdl f H3 k3 Rm h3 Ut U OV hle RT=>?_};have s3:a7 H H3:=λc o e=>k3 c o (s2 _ _ (s1 _ _ e)) (af (s1 _ _ e) fd);have M:(ls.map f).sum<=40:=wdp RT hL.le;refine{_,rfl,_,rfl,_,rfl,_,rfl,x,dl,many,n,bE f ls,f,g,bw,ss,ls,rfl,B.same s3,Z,v,J,r,.inl h3,gF f ls,λy H4 s4 X=>?_};have X:=X.same (aX _ _);have L0:dE g bw ss ls many n f [] _ _ _:=dE.start O2 B.pm M9 (λp hp=>B.lv.sub.subset hp) nd Ut U;refine{wal _,λb hb=>?_};have s5:a7 H4 (upd H4 b (.lst [])):=a7.upd hb;have h5:(upd H4 b (.lst [])) b=some (.lst []):=a6;have o5:a7 H4 (fb (upd H4 b (.lst [])) b):=Fa s5 hb;generalize upd H4 b (.lst [])=H5 at s5 h5 o5;have W0:=L0.whole M DY;generalize au ls f=hs at X L0 W0;generalize hs.map f=ws at X L0 W0;generalize bz g bw ss ls n hs=lns at X L0 W0;have GJ:lns.length<=1000:=by rw[W0.l];exact W0.n
 refine{_,rfl,_,rfl,y,many,hs,ws,lns,rfl,X.same s5,GJ,λl hl=>by have:=W0.m l hl;lia,λj ks H6 s6 u O hK=>?_};have RU:j≠b:=λz=>by rw[z,h5]at u;cases u
 refine{λq σ C=>∃(y j:Addr) (hs:List Str) (ws:List Int) (lns:List (List (Str×Nat))) (cp:List rV) (a:List V) (ks:List Nat) (v7:Option V),q=40-hs.length/\σ=[some (.ref x),some (.int many),some (.int (n:Int)),some (.ref dl),some (.ref y),some (.ref b),some (.ref j),v7]/\a7 H C/\C dl=some (.dK (aY (bE f ls)))/\bQ K L.av (fb C b) y hs ws lns/\dE g bw ss ls many n f cp hs ws lns/\C b=some (.lst a)/\aO K (fb C b) (cp.map xk) a/\j≠b/\C j=some (.lst ((nI ks).map V.int))/\nh lns many ks,
  {_,y,j,hs,ws,lns,[],[],ks,none,rfl,rfl,s3.trans (s4.trans (s5.trans s6)),s6 _ _ (s5 _ _ (s4 _ _ h3)),X.same (o5.trans (oi s6)),L0,s6 _ _ h5,rfl,RU,O,hK},?_}
 clear hK O RU u s6 GJ W0 L0 o5 h5 s5 X;have QV:H b=none:=none_of (s3.trans s4) hb;have NQ:dl≠b:=af (s4 _ _ h3) hb;rintro q σ C ⟨y,j,hs,ws,lns,cp,a,ks,v7,rfl,rfl,s7,Uu,S7,D,R,r7,RU,RV,hK⟩;have W7:=D.whole M DY;have hlen:=D.len;have Ax:=D.b.w;have GJ:lns.length<=1000:=by rw[W7.l];exact W7.n
 have JR:a.length=cp.length:=by rw[r7.len,ZI]
 have XH:=D.sl
 by_cases RW:ks=[]
 .subst RW
  have zy:hs≠[]:=λz=>by
   have h1:=D.sm;rw[z]at Ax;rw[wba Ax]at h1;have:(0:Int)=(ls.map f).sum:=h1
   lia
  refine{_,rfl,j,_,rfl,.inl (aK.of RV),rfl,true,Ee _,eJ ?_};refine{λσ' H'=>∃(y j:Addr) (G:List Str) (ws:List Int) (lns:List (List (Str×Nat))) (cp:List rV) (a:List V) (ks:List Nat) (v7:Option V),G.length=hs.length+1/\σ'=[some (.ref x),some (.int many),some (.int (n:Int)),some (.ref dl),some (.ref y),some (.ref b),some (.ref j),v7]/\a7 H H'/\H' dl=some (.dK (aY (bE f ls)))/\bQ K L.av (fb H' b) y G ws lns/\dE g bw ss ls many n f cp G ws lns/\H' b=some (.lst a)/\aO K (fb H' b) (cp.map xk) a/\j≠b/\H' j=some (.lst ((nI ks).map V.int))/\nh lns many ks,?_,?_}
  .rintro σ' H' ⟨y,j,G,ws,lns,cp,a,ks,v7,e1,rfl,s',IV,S',L',FV,r',XI,GI,RX⟩;have:=L'.len;exact{_,by lia,y,j,G,ws,lns,cp,a,ks,v7,rfl,rfl,s',IV,S',L',FV,r',XI,GI,RX}
  refine{_,rfl,_,rfl,y,many,hs,ws,lns,rfl,S7.same tM,D.b,hK,zy,by lia,λl hl=>by have:=W7.m l hl;lia,by lia,by lia,λt l d ns w H8 s8 fl ft Uv Uw ok Ge M8=>?_};have hT:=fJ.of (K:=K) Uv;have S8:=(S7.same tM).same s8;refine{_,rfl,_,rfl,_,rfl,t,_,_,_,rfl,rfl,hT,rfl,_,rfl,t,_,_,_,rfl,rfl,hT,rfl,_,rfl,t,_,_,_,rfl,rfl,hT,rfl,y,l,many,(d:Int),w,nI ns,hs,ws,lns,rfl,S8,aK.of Uw,by rw[cO];lia,W7,by lia,by lia,.inl {ok,λy' Y s9 S9=>?_}};rw[wae]at S9;have Ux:=s8 _ _ R;have Uy:=s9 _ _ Ux;have L9:=D.step ok M8;have W9:=L9.whole M DY;have RY:(cE lns d (nI ns)).length<=1000:=by rw[W9.l];exact W9.n
  have XJ:l≠b:=λz=>by rw[z,R]at fl;cases fl
  have XM:t≠b:=λz=>by rw[z,R]at ft;cases ft
  have r9:aO K (fb Y b) ((cp++[(d,ns,w)]).map xk) (a++[.ref t]):=by
   rw[wa1];exact gM (aO.same (oi (s8.trans s9)) _ _ r7) (BK (fL (s9 _ _ Uv) XM) (fL (s9 _ _ Uw) XJ))
  have S:bQ K L.av (fb Y b) y' _ _ _:=S9.same (BH Ux);refine{_,rfl,.inl {rfl,_,aK.of Uy},_,rfl,b,_,_,rfl,rfl,Uy,bO (by lia),?_};have eo:fb (upd Y b (.lst (a++[.ref t]))) b=fb Y b:=HH;rw[<-eo]at r9 S;have E1:a7 H (upd Y b (.lst (a++[.ref t]))):=λc o e=>by rw[ae (af e QV)];exact s9 _ _ (s8 _ _ (s7 _ _ e))
  have Uz:(upd Y b (.lst (a++[.ref t]))) dl=some (.dK (aY (bE f ls))):=by rw[ae NQ];exact s9 _ _ (s8 _ _ Uu)
  have RZ:(upd Y b (.lst (a++[.ref t]))) b=some (.lst (a++[.ref t])):=a6;generalize upd Y b (.lst (a++[.ref t]))=LN at E1 Uz RZ r9 S;refine{_,rfl,_,rfl,y',many,_,_,_,rfl,S.same tM,RY,λl hl=>by have:=W9.m l hl;lia,λXO XQ Gs I u O RX=>?_};refine{y',XO,_,_,_,cp++[(d,ns,w)],a++[.ref t],XQ,_,?_,rfl,E1.trans I,I _ _ Uz,S.same (oi I),L9,I _ _ RZ,aO.same (oi I) _ _ r9,(λz=>by rw[z,RZ]at u;cases u),O,RX};unfold cm;rw[ZP];rfl
 .refine{_,rfl,j,_,rfl,.inl (aK.of RV),rfl,false,congrArg V.bl (decide_eq_false λz=>RW (wba (by have:=V.int.inj z;rw[ZI,cO]at this;lia))),bo ?_};refine{_,rfl,_,rfl,_,rfl,_,rfl,?_};intro z dz nz XR Zq;have sm:a7 C (upd (upd C dz (.own z)) z (.ins L.aE dz [])):=dn nz XR;refine{z,dz,dl,y,.ref b,.ref j,bE f ls,cp,ks,hs,ws,lns,rfl,a6,.inl (sm _ _ Uu),{b,a,rfl,.inl (sm _ _ R),aO.same (tM.trans sm) _ _ r7},iU (sm _ _ RV),(S7.same tM).same sm,by lia,by lia,by lia,λl hl=>by have:=W7.m l hl;lia,by lia,λa' b' c' y' H8 h8 fa XS r8 XU S8 S0=>{rfl,?_}};have s8:a7 C H8:=λc o e=>S0 _ _ (sm _ _ e) (af e nz);have nw:a7 (aG (upd (upd C dz (.own z)) z (.ins L.aE dz [])) H8) (aG H H8):=ee (s7.trans sm);refine k Od z f0 f cp ks hs ws lns H8 (s7.trans s8) {dz,a',b',c',y',bR (none_of s7 nz) h8,bR (none_of (s7.trans sm) fa) XS,b7.same nw _ _ r8,b7.same nw _ _ XU,S8.same nw} hL hle {Ut,λp hp=>?_,U,OV,M,D.rn,D.b,D.cv,by lia,hK,RW,by lia,D.sb};have h1:=hle p hp;have h2:=hG.le p hp
  lia
theorem nB(L:Lk K mg):aQ P w K mg base (yc P w) 10 L.fA L.ik ["self","band","many","wide"] (DM K L.ak L.aA L.aE L.av L.cj L.nu):=by
 refine L.iu.F.Dn (N:=["self","band","many","wide","sheet","kept","found"]) (λgn A outer s H vs Q E nd hr h=>?_);obtain⟨x,a,j,many,n,g,bw,ss,ls,rfl,hx,B,M9,JN,XV,O2,GK,C4,B4,DZ,k,kS,kO⟩:=h
 refine{_,(a5 (cX (pv 0) (ia (Bf L) (hr.mono ⋯) rfl L.lR.g L.lR.F.kp L.lR.b .nil (vF cy) (a8 (pv 1) (a8 (pv 2) (aF (pv 3))))) rfl)
  (a5 (cX (pv 0) (pv 1) rfl)
  (a5 (cX (pv 0) (pv 2) rfl)
  (a5 (cX (pv 0) (pv 3) rfl)
  (a5 (ai (i:=4) (fI (aC (pv 0) rfl) L.aR.cl L.gH (iF L)))
  (a5 (ai (i:=5) (aC (aC (pv 0) rfl) rfl))
  (a5 (cX (pv 0) (bV rfl (ax ["sheet"] [4]) (aM (pv 5)) (λ_ _ _ _ _ _=>bb) (λ_ _ _ _ _ _=>(b5 (gf (K:=K) rfl) (lL (K:=K) rfl (pv 1) rfl) (pv 0) (λ_ _=>rfl)))) rfl)
  (a5 (cX (pv 0) (bV rfl (ax ["sheet","kept","many"] [4,5,2]) (aM (pv 5)) (λ_ _ _ _ _ _=>bb) (λ_ _ _ _ _ _=>(aj (j5 L) L.fC (a8 (b5 (gf (K:=K) rfl) (lL (K:=K) rfl (pv 1) rfl) (pv 0) (λ_ _=>rfl)) (a8 (pv 2) (aF (pv 3))))))) rfl)
  (a5 (ai (i:=6) (aj (DQ L) L.zf (a8 (aC (pv 0) rfl) (a8 aq (aF (aS Kq (cC (aF aq)) (fI (pv 0) L.ag.cl L.eR (fW L))))))))
  (a5 (cX (pv 0) (b5 fO (pv 6) aq (λ_ _=>rfl)) rfl)
  (a9 (cX (pv 0) (b5 fO (pv 6) aq (λ_ _=>rfl)) rfl)))))))))))),?_}
 ac_rfl
 obtain⟨ra,rb,rc,rd,re⟩:=id DZ
 have Oe:j≠x:=λz=>by
  obtain⟨Zr,b,d,q,mv,h1,_⟩:=id B.ex;rw[z,hx]at h1;have:=ZU h1;injection this with _ _ q2
  cases q2
 refine{_,rfl,_,rfl,_,rfl,j,many,n,g,bw,ss,ls,rfl,B,λw hw=>(M9 w hw).1,O2,GK,C4,B4,DZ,λOd p f0 f cp ks hs ws lns H1 s1 P1 hL hle u=>?_,kS,kO};have W0:=NT (n:=n) u.ko u.ne (show 0<=many by lia) (u.cv.word u.b.l (λq G=>B.lv.sub.subset (u.sb q G)) XV);have Zt:=P1.same (aX _ _);have XW:=u.ln;have Zu:=u.b.w;have Qb:=u.b.l
 have DY:g.length^n<=64:=by
  rw[wae]at re;have:((g.length^n:Nat):Int)<=64:=by rw[wbT];exact re
  lia
 have Ob:∀l∈lns,l.length<=10000:=λl hm=>by
  have h1:=u.cv.line u.b.l (b:=64) (λp=>wa0 (dP g bw ss ls n p) DY) l hm;have h2:64*hs.length<=64*40:=wd6 _ (by lia)
  lia
 have SW:ks.length<=40:=by have:=u.ko.ab.sub.length_le;rw[wau]at this;lia
 have UA:∀d∈ks,d<lns.length:=λd hd=>(u.ko.st d hd).1;refine{_,rfl,x,L.ak,a,[],rfl,s1 _ _ hx,L.ag.cl,L.ag.gm,(show 0<1000 by decide),?_};rw[N9];refine{_,rfl,_,rfl,x,L.ak,a,_,rfl,a6,L.ag.cl,L.ag.G1,(show 1<1000 by decide),?_};rw[Nb];refine{_,rfl,_,rfl,x,L.ak,a,_,rfl,a6,L.ag.cl,L.ag.Ln,(show 2<1000 by decide),?_};rw[Nc];refine{_,rfl,_,rfl,x,L.ak,a,_,rfl,a6,L.ag.cl,L.ag.G2,(show 3<1000 by decide),?_};rw[Nf];have x2:(upd (upd (upd (upd H1 x (.ins L.ak a (KH p))) x (.ins L.ak a (N8 p j))) x (.ins L.ak a (KI p j many))) x (.ins L.ak a (Jy p j many (n:Int)))) x=some (.ins L.ak a (Jy p j many (n:Int))):=a6;have k2:∀c o,H1 c=some o->c≠x->(upd (upd (upd (upd H1 x (.ins L.ak a (KH p))) x (.ins L.ak a (N8 p j))) x (.ins L.ak a (KI p j many))) x (.ins L.ak a (Jy p j many (n:Int)))) c=some o:=λc o e hc=>by rw[ae hc,ae hc,ae hc,ae hc];exact e
 generalize upd (upd (upd (upd H1 x (.ins L.ak a (KH p))) x (.ins L.ak a (N8 p j))) x (.ins L.ak a (KI p j many))) x (.ins L.ak a (Jy p j many (n:Int)))=H2 at x2 k2;have S2:∀c o,H c=some o->c≠x->H2 c=some o:=λc o e hc=>k2 c o (s1 _ _ e) hc;have n2:a7 (aG H H1) (aG H H2):=bN hx k2;have P2:=P1.same (n2.trans (aX _ _));obtain⟨dp,wa,wb,O,wz,O3,_,_,XX,_⟩:=id P2;refine{_,rfl,x,L.ak,a,_,_,rfl,x2,L.ag.cl,L.ag.gm,o4 p j many n,p,dp,_,rfl,O3,kn (by show ("sheet":Str)∉[("weights":Str),"splits","kept","last"];decide+kernel),p,bE f ls,cp,ks,hs,ws,lns,rfl,P2,by lia,by lia,by lia,Ob,λy H3 s3 S3=>?_};have x3:=s3 _ _ x2;refine{_,rfl,x,L.ak,a,_,_,rfl,x3,L.ag.cl,L.ag.gm,o4 p j many n,p,L.aE,dp,_,_,rfl,s3 _ _ O3,L.aR.cl,L.aR.tP,ji wa wb O wz,?_}
 have Sa:aK K H3 O ((nI ks).map V.int):=by
  obtain⟨c',e,h⟩:=eN (b7.same s3 _ _ XX);cases e;exact h
 have XY:=S3.same (aX _ _);obtain⟨dy,ah,UB,cl,hy,rh,Zv,rl⟩:=id XY;have hh:=oh rh;obtain⟨M6,xs,ec,hc,xR⟩:=id rl;cases ec;refine{_,rfl,O,rfl,{_,Sa},λm Oc=>?_};refine di (λ_=>true) (λv=>match v with |.int d=>.str (hs.getD d.toNat "") |_=>.non) (aL K O _) Oc (ay (by rw[ZI,cO];lia)) (λH' s'=>s'.seq Sa) (λv H8 Q' hy s8 qq=>qq H8 (a7.refl _)) (λv H4 Q' hv _ I qq=>?_) (λH4 I h4=>?_)
 .obtain⟨n',C0,rfl⟩:=xc hv;have R:n'<hs.length:=by rw[<-Qb];exact UA n' C0
  exact{_,rfl,y,L.av,dy,_,_,rfl,I _ _ hy,L.ao.cl,L.ao.dH,cz ah UB cl,_,rfl,ah,_,_,_,rfl,rfl,I.seq (.inl hh),bq (v:=.str (hs.getD n' "")) (by rw[ZM,ZJ R,ZL,ZJ R];rfl),qq H4 (a7.refl _)}
 have e4:(((nI ks).map V.int).filter λ_=>true).map (λv=>match v with |.int d=>V.str (hs.getD d.toNat "") |_=>.non)=(ks.map λd=>hs.getD d "").map V.str:=by
  rw[waD.mpr (λ_ _=>rfl)];unfold nI;rw[ZV,ZV,ZV];rfl
 rw[e4]at h4;have S:m≠x:=wb4 (af x3 Oc);refine{_,rfl,x,L.ak,a,_,rfl,I _ _ x3,L.ag.cl,L.ag.dH,(show 4<1000 by decide),?_};rw[Ng];have x5:(upd H4 x (.ins L.ak a (Jz p j many (n:Int) m))) x=some (.ins L.ak a (Jz p j many (n:Int) m)):=a6;have k5:∀c o,H4 c=some o->c≠x->(upd H4 x (.ins L.ak a (Jz p j many (n:Int) m))) c=some o:=λc o e hc=>by rw[ae hc];exact e
 generalize upd H4 x (.ins L.ak a (Jz p j many (n:Int) m))=H5 at x5 k5;have x4:=I _ _ x3
 have XZ:y≠x:=λz=>by
  obtain⟨_,_,_,_,h,_⟩:=id S3;rw[z]at h;unfold aG at h;rw[x2]at h;cases h
 have LK:aK K H5 O ((nI ks).map V.int):=(g8 k5).seq (wL x4 (I.seq Sa));have QZ:=k5 _ _ (I _ _ hy) XZ;have Y0:b7 K H5 (fT lns) (.ref cl):=b7.same (g8 k5) _ _ (b7.off x4 _ _ (b7.same I _ _ rl));obtain⟨U1,Y1,Y2,Y3,Sb⟩:=id Y0;cases Y2;refine{_,rfl,O,rfl,{_,LK},λr zz=>?_};refine uw (K:=K) ((dg lns ks many.toNat).map bG) (aL K O _) zz (ay (by rw[ZI,cO];lia)) (by unfold dg;rw[ZI,ZI,ZI,cO]) (λH' s'=>s'.seq LK) (λi v dd H6 Q' hv Md T qq=>?_) (λH6 T r6=>?_)
 .have hi:i<ks.length:=by have:=(ZO.mp hv).1;rwa[ZI,cO]at this
  rw[tj (ZJ hi)]at hv;cases hv;unfold dg at Md;rw[ZM,ZM,ZJ hi]at Md;cases Md;have Ge:=UA _ (wah hi);generalize ks[i]=d at qq Ge;have G:=du Ge;obtain⟨v',LI,Y4⟩:=Sb.at (i:=d) (d:=bG (lns.getD d [])) (by rw[ZM,G];rfl);exact{_,rfl,y,L.av,dy,_,_,rfl,T _ _ QZ,L.ao.cl,L.ao.cf,bj ah UB cl,_,rfl,cl,Y1,_,_,rfl,rfl,T.seq (.inl Y3),bq LI,_,rfl,_,rfl,v',O,many,ks,lns.getD d [],rfl,b7.same T _ _ Y4,T.seq LK,by lia,Ob _ (ZT G),by lia,λz J s7 r7=>qq z J s7 r7}
 have x6:=T _ _ x5;refine{_,rfl,x,L.ak,a,_,rfl,x6,L.ag.cl,L.ag.cf,(show 5<1000 by decide),?_};rw[Nh];have x7:(upd H6 x (.ins L.ak a (Fb p j many (n:Int) m r))) x=some (.ins L.ak a (Fb p j many (n:Int) m r)):=a6;have k7:∀c o,H6 c=some o->c≠x->(upd H6 x (.ins L.ak a (Fb p j many (n:Int) m r))) c=some o:=λc o e hc=>by rw[ae hc];exact e
 generalize upd H6 x (.ins L.ak a (Fb p j many (n:Int) m r))=J at x7 k7;have UC:∀c o,H c=some o->c≠x->H5 c=some o:=λc o e hc=>k5 _ _ (I _ _ (s3 _ _ (S2 c o e hc))) hc;have Y5:∀c o,H c=some o->c≠x->J c=some o:=λc o e hc=>k7 _ _ (T _ _ (UC c o e hc)) hc;have r7:b7 K J (fT (dg lns ks many.toNat)) (.ref r):=b7.same ((BH x5).trans (g8 k7)) _ _ r6;have B7:aT L.aA J j g bw ss ls:=(Gf B hx Oe).same (g8 Y5);refine{_,rfl,x,L.ak,a,_,_,rfl,x7,L.ag.cl,L.ag.cf,yB p j m r many n,by show 1<=sizeLine;decide,λl0 OU=>?_};have s8:=a7.upd (H:=J) (o:=.lst [V.int 0]) OU;have h8:(upd J l0 (.lst [V.int 0])) l0=some (.lst [V.int 0]):=a6;generalize upd J l0 (.lst [V.int 0])=H8 at s8 h8;have x8:=s8 _ _ x7;refine{_,rfl,x,a,_,rfl,x8,xg p j m r many n,x,j,a,_,n,g,bw,ss,ls,rfl,x8,Ac p j m r many n,Ad p j m r many n,B7.same s8,by lia,by lia,λw hw=>(M9 w hw).2,JN,λb H9 s9 hb=>?_};have Zw:=hb.le;refine{l0,(b:Int),[V.int 0],rfl,rfl,s9 _ _ h8,by lia,by lia,ay (by show 1*((b:Int)).toNat<=_;lia),λpr Sd=>?_};rw[wae,yz];have E1:=a7.upd (H:=H9) (o:=.lst ((nI (wag b 0)).map V.int)) Sd;have DS:(upd H9 pr (.lst ((nI (wag b 0)).map V.int))) pr=some (.lst ((nI (wag b 0)).map V.int)):=a6;generalize upd H9 pr (.lst ((nI (wag b 0)).map V.int))=LN at E1 DS;have U:=s8.trans (s9.trans E1);refine{.ref r,0,pr,many,n,dg lns ks many.toNat,wag b 0,rfl,b7.same U _ _ r7,aK.of DS,W0,wc0.mpr W0.ne,λt ht=>by rw[(wer.mp ht).2];lia,by rw[wca];lia,by lia,λq M J9 G=>?_};have X:=U.trans J9;have UD:=X _ _ x7;have QI:q≠x:=λz=>by rw[z,UD]at G;cases G
 generalize Y6:cQ (dg lns ks many.toNat) 0 (wag b 0)=C at G;refine{_,rfl,q,_,_,_,rfl,rfl,fJ.of G,rfl,_,rfl,x,L.ak,a,_,rfl,UD,L.ag.cl,L.ag.wh,(show 6<1000 by decide),?_};rw[Ni];refine{_,rfl,q,_,_,_,rfl,rfl,fJ.of (by rw[ae QI];exact G),rfl,_,rfl,x,L.ak,a,_,rfl,a6,L.ag.cl,L.ag.BM,(show 7<1000 by decide),?_};rw[Nz];have Se:(upd (upd M x (.ins L.ak a (M0 p j many (n:Int) m r C.1))) x (.ins L.ak a (lU p j many (n:Int) m r C.1 (C.2:Int)))) x=some (.ins L.ak a (lU p j many (n:Int) m r C.1 (C.2:Int))):=a6;have UE:∀c o,M c=some o->c≠x->(upd (upd M x (.ins L.ak a (M0 p j many (n:Int) m r C.1))) x (.ins L.ak a (lU p j many (n:Int) m r C.1 (C.2:Int)))) c=some o:=λc o e hc=>by rw[ae hc,ae hc];exact e
 generalize upd (upd M x (.ins L.ak a (M0 p j many (n:Int) m r C.1))) x (.ins L.ak a (lU p j many (n:Int) m r C.1 (C.2:Int)))=D at Se UE;have Y:∀c o,J c=some o->c≠x->D c=some o:=λc o e hc=>UE _ _ (X _ _ e) hc;have Sf:∀c o,H5 c=some o->c≠x->D c=some o:=λc o e hc=>Y _ _ (k7 _ _ (T _ _ e) hc) hc;have Z:∀c o,H4 c=some o->c≠x->D c=some o:=λc o e hc=>Sf _ _ (k5 _ _ e hc) hc;have Of:∀c o,H2 c=some o->c≠x->D c=some o:=λc o e hc=>Z _ _ (I _ _ (s3 _ _ e)) hc
 have fla:H m=none:=by
  cases e:H m with
  |none=>rfl
  |some o=>have:=s3 _ _ (S2 m o e S);rw[Oc]at this;cases this
 have m5:∀c o,H c=some o->∃o',H5 c=some o':=λc o e=>by
  by_cases z:c=x
  .rw[z];exact{_,x5}
  .exact{o,UC c o e z}
 rw[<-Y6]at Se;refine k Od p m r f0 f cp ks hs ws lns b D (λc o e hc=>Of _ _ (S2 c o e hc) hc) Se (P1.same (n2.trans (bN hx Of))) (og (bR fla (Z _ _ h4 S))) (b7.same ((Ab m5).trans (bN hx λc o e hc=>Y _ _ (k7 _ _ e hc) hc)) _ _ r6) hL hle u W0 hb
theorem xQ(L:Lk K mg):aQ P w K mg base cI 12 L.qL L.qX ["_law_signs","_law_words","_law_many","_law_wide"] (J5 K L.ak L.aA L.aE L.av):=by
 refine L.ro.F.dF (N:=["_law_signs","_law_words","_law_many","_law_wide","_law_told_here"]) (λU A outer s H vs Q E nd O h=>?_);obtain⟨g,a,many,n,bw,rfl,V,sg,m,d,u,k⟩:=h
 refine{_,(a5 (ai (i:=4) iz)
  (a5 (IY ⟨rfl,rfl⟩ (ER (HZ (i:=4) nd rfl (wdg rfl) (Fu L.Dw (nB L) (O.mono ⋯) rfl L.G9 L.iu.b (a8 (jh L.BX (j3 L) (O.mono ⋯) rfl L.Ga L.gy.b .nil lX (a8 (pv 0) (aF (pv 1)))) (a8 (pv 2) (aF (pv 3))))))) rfl L.zh rfl L.AZ L.hZ L.xD (L.hZ.ne L.xD ∅) (L.hZ.neT L.XT ∅) nd (i:=4) rfl (wdg rfl))
  (a9 (aw (pv 4))))),?_}
 ac_rfl
 have g2:=sg.lo;have g4:=sg.hi;have X:∀w∈bw,1<=w.length/\w.length<=900:=λw h=>{(d w h).lo,by have:=(d w h).hi;lia};refine{_,rfl,_,rfl,λv y l j R=>?_};refine{v,y,g,a,bw,rfl,a6,(dn l j).seq V,sg,m,d,λss ls q r z=>{rfl,?_}};have B:a7 H q:=λb o e=>z b o (dn l j _ _ e) (af e l);have Y:ss.length<=25:=r.few m d;have C:("":Str)∈ss:=r.pm.mem_iff.mpr ((iC _).mpr (.inl rfl));refine{_,rfl,_,rfl,λx t nx D Z=>?_};have sm:a7 q (upd (upd q t (.own x)) x (.ins L.ak t [])):=dn nx D;refine{x,t,v,many,n,g,bw,ss,ls,rfl,a6,r.same sm,X,by lia,C,sg.nd,g2,by lia,by lia,u,λG p la ll f0 f cp ks hs ws lns b S k2 x2 P2 r2 l2 hL I hP W0 hB=>{rfl,?_},?_,?_}
 .have T:a7 q S:=λc o e=>k2 _ _ (sm _ _ e) (af e nx);refine{_,rfl,k _ S (B.trans T) (.inr {x,rfl,v,ss,ls,f0,f,cp,ks,hs,ws,lns,b,r.same T,{t,p,la,ll,x2,P2.same (aX _ _),b7.same (aX _ _) _ _ r2,b7.same (aX _ _) _ _ l2},G,hL,I,hP,W0,hB})}
 .exact λk' d' J _ M _ _=>{.inl rfl,_,rfl,k .non J (B.trans (sm.trans M)) (.inl rfl)}
 .exact λ_ _ J M=>{.inr rfl,_,rfl,k .non J (B.trans (sm.trans M)) (.inl rfl)}
theorem LU{f:Addr}{fd:wb3}(L:Lk K mg)(F:xX K "law" "law" (top 88) f fd):aQ P w K mg base cI 13 f fd ["_law_script"] (BI K):=by
 have T:=L.T;refine F.dF (N:=["_law_script","_law_signs","_law_words","_law_many","_law_wide","_law_handed","_law_told_here","_law_desk","_law_first"]) (λgn A outer s H vs Q E nd hr h=>?_);obtain⟨a,ns,rfl,hS,hlen,k⟩:=h;have RM:=Er hr;have M5:(A.deeper (wd7 "law" (aD (top 88)) s.heap.objs.size f gn)).units<wbf:=hr.wO
 refine{_,(a5 (pw (aj (xN L) L.rk (aF (pv 0))) (fj rfl (aU (az (i:=1)) (aU (az (i:=2)) dG))))
  (a5 (pw (aj (xO L) L.rm (a8 (pv 0) (aF (pv 1)))) (fj rfl (aU (az (i:=3)) (aU (az (i:=4)) dG))))
  (a5 (ai (i:=5) (bg ck (by rfl) T.list gA (aF (pv 2))))
  (a5 (ai (i:=6) (aj (xQ L) L.ro (a8 (pv 1) (a8 (pv 5) (a8 (pv 3) (aF (pv 4)))))))
  (a5 (bp (cD Ki (pv 6) iz) (a9 (aw (cV (zR M5) (pv 5) (pv 2) (gp _)))) aH)
  (a5 (bp (PW.pt (cL (bH (bB (aj (eP L) L.eu (aF (fI (pv 6) L.ag.cl L.cq (cw L)))))) (cL (cD nN (fI (pv 6) L.ag.cl L.cq (cw L)) (AY T.len (aC (fI (pv 6) L.ag.cl L.dC (dW L)) rfl))) (dD (cD (Kj M5) (pv 5) (pv 2)))))) (a9 (aw da)) aH)
  (a5 (bp (PW.pt (cL (bH (bB (aj (eP L) L.eu (aF (fI (pv 6) L.ag.cl L.hV (jX L)))))) (dD (cD nN (fI (pv 6) L.ag.cl L.hV (jX L)) (AY T.len (aC (fI (pv 6) L.ag.cl L.dC (dW L)) rfl)))))) (a9 (aw da)) aH)
  (a5 (forA (dj rfl T.range (aF (fI (pv 6) L.ag.cl L.cq (cw L)))) (az (i:=7)) (a5 (bp (PW.pt (cL (bH (bB (aI bI (by rfl) T.De pK (a8 (Dt (pv 6) L.ag.cl L.cA (d8 L) (aF (pv 7))) (aF (dY (v:=.ty "str") (by rfl) T.str Af rfl)))))) (dD (bH (bB (aj (vc L) L.p6 (a8 (pv 6) (a8 (pv 7) (a8 (pv 2) (a8 (pv 3) (aF (pv 4)))))))))))) (a9 (aw da)) aH)
  (a5 (ai (i:=8) (bg ck (by rfl) T.list gA (aF (Dt (pv 6) L.ag.cl L.dU (eS L) (aF (pv 7))))))
  (a5 (bL (zZ wap wfT PySem.F.type_list_clear EW (Dt (pv 6) L.ag.cl L.dU (eS L) (aF (pv 7)))))
  (a9 (bp (cD (IX RM) (Dt (pv 6) L.ag.cl L.dU (eS L) (aF (pv 7))) (pv 8)) (a9 (aw da)) aH))))))
  (a5 (bp (PW.pt (cL (cD iO (fI (pv 6) L.ag.cl L.cq (cw L)) aq) (dD (bH (bB (aj (uB L) L.mD (a8 (pv 6) (a8 (jh L.BX (j3 L) (hr.mono ⋯) rfl L.Ga L.gy.b .nil lX (a8 (pv 1) (aF (pv 2)))) (a8 (pv 3) (aF (pv 4))))))))))) (a9 (aw da)) aH)
  (a9 (aw (aj (xP L) L.rp (a8 (pv 6) (a8 (pv 2) (aF (pv 4)))))))))))))))),?_}
 ac_rfl
 refine lT λR1 c1=>?_;refine{_,rfl,a,ns,rfl,hS,λpt S g ws H1 s1 Zx Zy Y7 JQ sg OI z=>?_};have g2:=sg.lo;have g4:=sg.hi;refine{pt,_,rfl,fJ.of Y7,rfl,_,_,rfl,_,_,rfl,rfl,?_};refine c1 _ _ (lT λR2 c2=>?_);refine{_,rfl,_,rfl,a,ns,g,rfl,s1.seq hS,g2,g4,λpr many wide H2 s2 Zz Sd DZ=>?_};refine{pr,_,rfl,fJ.of Sd,rfl,_,_,rfl,_,_,rfl,rfl,?_};refine c2 _ _ (lT λR3 c3=>?_);obtain⟨ra,rb,rc,rd,re⟩:=id DZ;obtain⟨wd,rfl⟩:∃w:Nat,wide=(w:Int):={wide.toNat,by lia};have JP:=s1.trans s2;refine{_,rfl,S,_,rfl,.inl (aK.of (s2 _ _ JQ)),λU JO=>?_};have s3:=a7.upd (H:=H2) (o:=.lst (ws.map V.str)) JO;have h3:(upd H2 U (.lst (ws.map V.str))) U=some (.lst (ws.map V.str)):=a6;generalize upd H2 U (.lst (ws.map V.str))=H3 at s3 h3;have J8:=JP.trans s3;have C:=s3 _ _ (s2 _ _ JQ);refine c3 _ _ (lT λR4 c4=>?_);refine{_,rfl,_,rfl,_,rfl,_,rfl,g,U,many,wd,ws,rfl,aK.of h3,sg,OI,z,DZ,λv H4 X hv=>?_};have Ma:=J8.trans X;refine c4 _ _ (lT λR5 c5=>?_);have fl:(ws.map V.str).all d9=true:=dX ws;rcases hv with rfl |⟨x,rfl,hT⟩
 .refine{_,rfl,rfl,true,rfl,eJ ?_};refine{_,rfl,_,rfl,U,S,_,_,rfl,rfl,aK.of (X _ _ h3),aK.of (X _ _ C),fl,fl,?_};rw[vZ];exact k H4
 refine{_,rfl,rfl,false,rfl,bo ?_};refine c5 _ _ (lT λR6 c6=>?_)
 obtain⟨p,PT,rfl,rfl,rfl,rfl⟩:∃p:Pl,rH K L.ak L.aA L.aE L.av H4 x p/\many=p.many/\wd=p.n/\g=p.g/\ws=p.bw:=by
  obtain⟨xb,ss,ls,f0,f,cp,ks,hs,Y8,lns,b,B,j,Od,hL,hle,hP,W0,hB⟩:=hT;refine{⟨g,ws,ss,ls,many,wd,f,cp,ks,hs,Y8,lns,b⟩,{IP B j hP W0 hB sg.nd (λw h=>{(z w h).lo,by have:=(z w h).hi;lia}) (by lia) (by lia) (by lia) rb (by lia) (by lia),⟨xb,j⟩,hP,DZ,z,OI,sg,λq hq=>B.lv.sub.subset hq},rfl,rfl,rfl,rfl}
 have j:=PT.w;obtain⟨⟨u,pp,Ul,aa,ll,dp,wa,wb,RK,wz,ys,y,_⟩,ok⟩:=id j;obtain⟨l1,l2,l3,l4,l6,l5⟩:=PT.ln;have Y9:p.R.wl.length=p.ks.length:=pI _ _ _;refine{_,rfl,x,u,_,rfl,y,aZ _ _ _ _ _ _ _ _ ∅,x,p.R,rfl,j,_,rfl,true,rfl,bo ?_};refine{_,rfl,x,u,_,rfl,y,aZ _ _ _ _ _ _ _ _ ∅,x,p.R,rfl,j,_,rfl,x,u,_,rfl,y,aZ _ _ _ _ _ _ _ _ ∅,x,p,rfl,PT,λy5 H5 I P5=>?_};obtain⟨dq,qa,qb,qc,qz,hq,_,_,rc,_⟩:=id P5;refine{y5,L.aE,dq,_,_,rfl,hq,L.aR.cl,L.aR.tP,ji qa qb qc qz,?_};obtain⟨c',ec,Yb⟩:=eN rc;cases ec;refine{qc,_,rfl,.inl Yb,rfl,false,?_,bo ?_}
 .rw[ZI,cO,Y9];exact pf _
 refine{_,rfl,_,rfl,U,S,_,_,rfl,rfl,aK.of (I _ _ (X _ _ h3)),aK.of (I _ _ (X _ _ C)),fl,fl,false,congrArg V.bl (by rw[vZ];rfl),bo ?_};refine c6 _ _ (lT λR7 c7=>?_);refine{_,rfl,x,u,_,rfl,I _ _ y,aZ _ _ _ _ _ _ _ _ ∅,x,p.R,rfl,j.same I,_,rfl,true,rfl,bo ?_};refine{_,rfl,x,u,_,rfl,I _ _ y,aZ _ _ _ _ _ _ _ _ ∅,x,p.R,rfl,j.same I,_,rfl,x,u,_,rfl,I _ _ y,aZ _ _ _ _ _ _ _ _ ∅,x,p,rfl,PT.same I,λy6 H6 s6 P6=>?_};obtain⟨Yc,Yd,UG,Ye,Yg,TC,_,Yh,_,_⟩:=id P6;obtain⟨Xh,ZA,Yi,Yj,Sg⟩:=id Yh;cases Yi;refine{y6,L.aE,Yc,_,_,rfl,TC,L.aR.cl,L.aR.kA,gE Yd UG Ye Yg,UG,_,rfl,.inl (.inl Yj),rfl,false,?_,bo ?_}
 .rw[Sg.len,ZI];exact pf _
 have J:=I.trans s6;refine c7 (NA p a S U x none none) _ (lT λR8 c8=>?_);refine{_,rfl,x,u,_,rfl,J _ _ y,aZ _ _ _ _ _ _ _ _ ∅,x,p.R,rfl,j.same J,(p.R.wl.length:Int),rfl,by lia,by lia,?_};rw[wae];refine dh (lo:=0) (n:=p.R.wl.length) (Qv p a S U x H6) {a7.refl _,none,none,rfl} ?_ ?_
 .rintro d σ H7 hd ⟨s7,v7,v8,rfl⟩;show eI 7 (V.int (0+(d:Int))) _ _ _;rw[wds];have c:=J.trans s7;refine{_,rfl,x,u,_,rfl,c _ _ y,aZ _ _ _ _ _ _ _ _ ∅,_,rfl,x,p.R,d,rfl,j.same c,hd,_,_,_,true,rfl,fH.str _,rfl,true,rfl,bo ?_};refine{_,rfl,_,rfl,_,rfl,_,rfl,_,rfl,x,S,p,d,rfl,PT.same c,aK.of (c _ _ (X _ _ C)),by lia,λH8 s8=>{true,rfl,bo ?_}};have l:=c.trans s8;refine{_,rfl,x,u,_,rfl,l _ _ y,aZ _ _ _ _ _ _ _ _ ∅,_,rfl,x,p.R,d,rfl,j.same l,hd,λy9 m H9 s9 r9 n9 h9=>?_};have Yk:aK K H9 y9 m:=aK.of h9;refine{y9,_,rfl,.inl Yk,λD Jc=>?_};have r:=a7.upd (H:=H9) (o:=.lst m) Jc;have DS:(upd H9 D (.lst m)) D=some (.lst m):=a6;generalize upd H9 D (.lst m)=M at r DS
  have Yl:b7 K M (bG (p.R.wl.getD d [])) (.ref D):=by
   obtain⟨ZB,Ym,ey,rd,rl⟩:=b7.same ((aX H8 H9).trans r) _ _ r9;cases ey;have e9:=r _ _ h9
   obtain rfl:Ym=m:=by
    rcases rd with rd |⟨o,rd⟩
    .rw[e9]at rd;exact(HO.lst.inj (ZU rd)).symm
    .rw[e9]at rd;cases rd
   exact{D,_,rfl,.inl DS,rl}
  have G:=l.trans (s9.trans r);refine{_,rfl,x,u,_,rfl,G _ _ y,aZ _ _ _ _ _ _ _ _ ∅,_,rfl,x,p.R,d,rfl,j.same G,hd,λSh Yn Gs J9 Ub Yo JT=>?_};refine{.inl {rfl,_,aK.of JT},Sh,_,rfl,rfl,JT,?_};have O:a7 M (upd Gs Sh (.lst [])):=λb o e=>by rw[ae (af e Yo)];exact J9 _ _ e
  generalize upd Gs Sh (.lst [])=TF at O;have Y:=G.trans O;refine{_,rfl,x,u,_,rfl,Y _ _ y,aZ _ _ _ _ _ _ _ _ ∅,_,rfl,x,p.R,d,rfl,j.same Y,hd,λZC Yp RP OW Yq ZD O5=>?_};refine{_,rfl,(p.R.wl.getD d []).map gj,?_,.inl {b7.same (aX _ _) _ _ Yq,b7.same (O.trans OW) _ _ Yl},false,rfl,bo {s7.trans (s8.trans (s9.trans (r.trans (O.trans OW)))),_,_,rfl}};have:=pT (p.R.wl.getD d [])
  lia
 .rintro σ H7 ⟨s7,v7,v8,rfl⟩;refine c8 _ _ (lT λR9 c9=>?_);have c:=J.trans s7;have zy:=wc0.mpr ok.w.ne;refine{_,rfl,x,u,_,rfl,c _ _ y,aZ _ _ _ _ _ _ _ _ ∅,x,p.R,rfl,j.same c,_,_,rfl,rfl,false,congrArg V.bl (decide_eq_false (by lia)),bo ?_};refine{_,rfl,_,rfl,_,rfl,λxb Yr Oe Z Ys=>?_};refine{xb,Yr,p.g,S,p.bw,rfl,a6,(dn Oe Z).seq (aK.of (c _ _ (X _ _ C))),sg,OI,z,λYt Yu H8 B8 S0=>{rfl,?_}};have s8:a7 H7 H8:=λb o e=>S0 b o (dn Oe Z _ _ e) (af e Oe);have l:=c.trans s8;obtain⟨ZE,ZF,p1,a1,ZG,_⟩:=PT.t;obtain⟨⟨_,_,ZH,_,_,_,_,_,_,_,_,_,_,_,_,_,_,B0⟩,_⟩:=id j;obtain⟨e1,e2⟩:=aT.one B8 B0;have e1:Yt=p.ss:=e1;have e2:Yu=p.ls:=e2;subst e1 e2;refine{_,rfl,_,rfl,x,xb,p,rfl,PT.same l,B8,λH9 s9=>{true,rfl,bo ?_}};refine c9 _ _ ?_;have UH:=l.trans s9;exact{_,rfl,_,rfl,_,rfl,x,S,p,rfl,PT.same UH,aK.of (UH _ _ (X _ _ C)),λM r=>k M}
end
end K40
end
namespace K40
open PySem PySem.W L2 Bs Sx
theorem nz{K:Frag}{mg:Str->Option Value}{hp:Heap}{x:Str}(X:K.In hp)(G:hp.Ns wax mg)(a:nsIn K wax x=some none:=by k_is):mg x=none:=mg_none_of X G a
theorem na{K:Frag}{C:Addr}{f:Str}(a:findIn K (.ref C) f=some none:=by k_is):bX K C f:=a
theorem Yv{K:Frag}{mg:Str->Option Value}{hp:Heap}{f:Addr}{oc:Value}{od an:Option Addr}{Ec:Array (Option Value)}{kV doc pm gn ct:Value}{nm:Str}{st:Stmt}{ps:List Str}(X:K.In hp)(G:hp.Ns wax mg)(a:nsIn K wax nm=some (some (.ref f)):=by k_is)(l:K.lookup f=some ⟨oc,od,.func (fnOf nm nm (cT st) (bU st) (aD st) .none kV doc pm an gn ct),Ec⟩:=by k_is)(c:codeIn K gn nm=true:=by k_is)(k:keepIn K (.ref f)=true:=by k_is)(b:∀(kV doc pm:Value) (an:Option Addr) (gn ct:Value) (us:List Value),us.length=ps.length->bindArgs (fnOf nm nm (cT st) (bU st) (aD st) .none kV doc pm an gn ct) ⟨us,[]⟩=pure (ps.zip us):=by first |exact λ_ _ _ _ _ _=>L2.i6 _ _ λ_=>rfl |exact λ_ _ _ _ _ _=>L2.i6 _ _ λ_ _=>rfl |exact λ_ _ _ _ _ _=>L2.i6 _ _ λ_ _ _=>rfl |exact λ_ _ _ _ _ _=>L2.i6 _ _ λ_ _ _ _=>rfl |exact λ_ _ _ _ _ _=>L2.i6 _ _ λ_ _ _ _ _=>rfl |exact λ_ _ _ _ _ _=>L2.i6 _ _ λ_ _ _ _ _ _=>rfl):∃fd,FnAt K mg nm st ps f fd:=Raw.at_ X G a (Ah l c k) b
theorem Yw{K:Frag}{C f:Addr}{oc:Value}{od an:Option Addr}{Ec:Array (Option Value)}{kV doc pm gn ct:Value}{nm q:Str}{st:Stmt}{ps:List Str}(a:findIn K (.ref C) nm=some (some (.ref f)):=by k_is)(i:isFn K (.ref f)=true:=by k_is)(l:K.lookup f=some ⟨oc,od,.func (fnOf nm q (cT st) (bU st) (aD st) .none kV doc pm an gn ct),Ec⟩:=by k_is)(c:codeIn K gn q=true:=by k_is)(k:keepIn K (.ref f)=true:=by k_is)(b:∀(kV doc pm:Value) (an:Option Addr) (gn ct:Value) (us:List Value),us.length=ps.length->bindArgs (fnOf nm q (cT st) (bU st) (aD st) .none kV doc pm an gn ct) ⟨us,[]⟩=pure (ps.zip us):=by first |exact λ_ _ _ _ _ _=>L2.i6 _ _ λ_=>rfl |exact λ_ _ _ _ _ _=>L2.i6 _ _ λ_ _=>rfl |exact λ_ _ _ _ _ _=>L2.i6 _ _ λ_ _ _=>rfl |exact λ_ _ _ _ _ _=>L2.i6 _ _ λ_ _ _ _=>rfl |exact λ_ _ _ _ _ _=>L2.i6 _ _ λ_ _ _ _ _=>rfl |exact λ_ _ _ _ _ _=>L2.i6 _ _ λ_ _ _ _ _ _=>rfl):∃fd,dS K C nm q st ps f fd:=by
 obtain⟨fd,F,B⟩:=(Ah l c k).fn b;exact⟨fd,F,B,a,i,k⟩
theorem Yx{K:Frag}{mg:Str->Option Value}{hp:Heap}{x:Str}{t:Tok}(X:K.In hp)(G:hp.Ns wax mg)(a:nsIn K wax "KNOWN_SIGNS"=some (some (.str x t)):=by k_is)(e:x=fk:=by first |rfl |decide+kernel):∃t,mg "KNOWN_SIGNS"=some (.str fk t):=⟨t,e ▸ mg_of X G a⟩
theorem UI{K:Frag}{f:Addr}{oc:Value}{od an:Option Addr}{Ec:Array (Option Value)}{kV doc pm gn ct:Value}{nm q:Str}{st:Stmt}{ps:List Str}(l:K.lookup f=some ⟨oc,od,.func (fnOf nm q (cT st) (bU st) (aD st) .none kV doc pm an gn ct),Ec⟩:=by k_is)(c:codeIn K gn q=true:=by k_is)(k:keepIn K (.ref f)=true:=by k_is)(b:∀(kV doc pm:Value) (an:Option Addr) (gn ct:Value) (us:List Value),us.length=ps.length->bindArgs (fnOf nm q (cT st) (bU st) (aD st) .none kV doc pm an gn ct) ⟨us,[]⟩=pure (ps.zip us):=by first |exact λ_ _ _ _ _ _=>L2.i6 _ _ λ_=>rfl |exact λ_ _ _ _ _ _=>L2.i6 _ _ λ_ _=>rfl |exact λ_ _ _ _ _ _=>L2.i6 _ _ λ_ _ _=>rfl |exact λ_ _ _ _ _ _=>L2.i6 _ _ λ_ _ _ _=>rfl |exact λ_ _ _ _ _ _=>L2.i6 _ _ λ_ _ _ _ _=>rfl |exact λ_ _ _ _ _ _=>L2.i6 _ _ λ_ _ _ _ _ _=>rfl):∃fd,xX K nm q st f fd/\Binds K fd ps []:=(Ah l c k).fn b
theorem walk{l:wec}{q:wad}{loose:List Str}{XP:(Str->Option Value)->Heap->Prop}{YP:World->Heap->Prop}{d:DefRec}{K:Params->ZK}(hn:l.most=some 63)(Yy:d.params.defaults=[])
 (hY:∀(w:World) (h:Heap),YP w h->(K w.params).In h)
 (F:∀(w:World) (mg:Str->Option Value) (fa:Addr) (h:Heap),(K w.params).In h->h.Ns wax mg->mg d.name=some (.ref fa) ->
   ∃fd:wb3,(∀(s:Shared) (u:Value),BindsTo s fd ⟨[u],[]⟩ [("_law_script",u)])/\∀base:Heap,(K w.params).In base->base.Ns wax mg->aQ l.prog w (K w.params) mg base cI 13 fa fd ["_law_script"] (BI (K w.params))) :
 wh5 q loose XP YP l.row.toRowW d [] (λf vs=>whj f vs):=
 L2.IU (n:=63) (k:=13) (x:="_law_script") (CX:=λ_=>cI) (sp:=λw=>BI (K w.params)) hn (by decide) Yy ⟨rfl,by decide,by decide⟩ hY F (λ_ _ a ns hl _ hS=>⟨a,ns,rfl,hS,hl,λ_=>rfl⟩) λ_ _ _ _ _ z=>z
theorem Si{K:Frag}{mg:Str->Option Value}{hp:Heap}{f:Addr}{oc:Value}{od an:Option Addr}{Ec:Array (Option Value)}{kV doc pm gn ct:Value}(l:wec)(w:World)(fa:Addr)(Yz:mg "law"=some (.ref fa))(X:K.In hp)(G:hp.Ns wax mg)(L:Lk K mg)(a:nsIn K wax "law"=some (some (.ref f)):=by k_is)(lk:K.lookup f=some ⟨oc,od,.func (fnOf "law" "law" (cT (top 88)) (bU (top 88)) (aD (top 88)) .none kV doc pm an gn ct),Ec⟩:=by k_is)(c:codeIn K gn "law"=true:=by k_is)(k:keepIn K (.ref f)=true:=by k_is) :
 ∃fd:wb3,(∀(s:Shared) (v:Value),BindsTo s fd ⟨[v],[]⟩ [("_law_script",v)])/\∀base:Heap,K.In base->base.Ns wax mg->aQ l.prog w K mg base cI 13 fa fd ["_law_script"] (BI K):=by
 have e:=Yz.symm.trans (mg_of X G a);cases e;exact⟨_,λs v=>.of_eq rfl,λbase _ _=>LU L (Em (st:=top 88) lk c k)⟩
end K40
open PySem PySem.W PyProof.Rows
local macro_rules |`(tactic|o_head $H)=>`(tactic|(refine PySem.W.holds_open (q:=K40.view) (loose:=[]) (Xt:=λs=>PySem.W.xlAt K40.view [] s&&PySem.W.recOk (PySem.W.RowW.records (PySem.W.OpenRow.toRowW (PySem.W.OpenLaw.row PySem.Challenge.rw_bandscribe_k40_a_writer_s_desks))) s) (XP:=PySem.W.XL K40.view []) (Yf:=PySem.W.Hook.obs $H) (Ya:=PySem.W.Hook.val $H) (YP:=PySem.W.Hook.says $H) (N:=8100) ?hl (PySem.W.Hook.of $H) (PySem.W.Hook.keeps $H) (λs e=>PySem.W.xl_of s (Bool.and_eq_true_iff.mp e).1) PySem.W.XL.keeps (by rfl) (by rfl) (by rfl) (λs e=>PySem.W.recFacts_of (Bool.and_eq_true_iff.mp e).2) (by rfl) (by first |assumption |decide+kernel) (by decide+kernel) ⟨rfl,rfl,rfl,rfl,rfl,by decide+kernel⟩ ?hw ?hc;(case hl=>(intro w;exact K40.whole w))))
set_option maxRecDepth 100000 in
set_option maxHeartbeats 0 in
theorem PySem.Challenge.cw_bandscribe_k40_a_writer_s_desks_holds : PySem.Challenge.rw_bandscribe_k40_a_writer_s_desks.Holds := by
 w_on;o_law;o_head (PySem.W.kHook K40.pre.heap_39 K40.addrs (λ_=>by kernel_rfl));(case hw=>w_witness2)
 k_fill
 refine K40.walk (l:=rw0) rfl rfl (λw h Y=>PySem.W.kIn_of Y) ?F
 case F=>
  intro w mg fa h X G YB;refine K40.Si _ w fa YB X G ?L;constructor
  all_goals try first |exact(K40.Yv X G).choose_spec |exact(K40.Yw).choose_spec |exact mg_of X G (by k_is) |exact K40.na |k_is |exact⟨_,mg_of X G (by k_is)⟩ |exact K40.Yx X G |exact Sx.IK (by k_is) |exact Sx.BO (by k_is) |exact⟨(Sx.BO (by k_is)).lk,by k_is,by k_is,by k_is,by k_is⟩ |exact⟨by k_is,by k_is,by k_is⟩ |exact⟨by k_is,by k_is,by k_is,by k_is⟩ |(constructor;exact K40.nz X G;all_goals exact K40.nz X G) |(constructor;exact⟨by k_is,by k_is,by k_is,by k_is⟩;all_goals exact K40.na)
  case L.zi=>exact(K40.UI (ps:=["self","length","rows"])).choose_spec.1
  case L.zj=>exact(K40.UI (nm:="__init__") (q:="Scarce.__init__") (st:=L2.inClass (K40.top 9) 0)).choose_spec.2
#print axioms PySem.Challenge.cw_bandscribe_k40_a_writer_s_desks_holds
